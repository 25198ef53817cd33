import PyProof.Rows.All
import Wide.All
import OpenK.AllK
import Wide.FinOn
import Lean
import PyProof.EqAt
import PyProof.EqKinds
import PyProof.TupleCall
import PySem.Challenge.RW_moodtree_k45_steps_back
set_option Elab.async false
set_option linter.all false
set_option maxRecDepth 100000
set_option maxHeartbeats 4000000
open PySem.W (instObj hideAll hideAll_none Frag lookIn plainGet hasDictIn findIn handedIn plainGet_of isFn plainOver takerIn any_some makesIn emptyDict keepIn callWith_K0 cellsFrom_some fnOf codeIn kitOne kla_obj CodeHd envX kla_fn codeHdIn tabObj nsOkIn nsIn tailIn exmOne exm_one specialIn takesIn mroIn kitAny readsIn findCls)
theorem We{p:Prop}(h:p:=by lia):p:=h
def Wl{p:Prop}(h:p:=by decide +kernel):p:=h
def Wp{p:Prop}(h:p:=by decide):p:=h
def WA{p:Prop}(h:p:=by simp):p:=h
theorem WD{p:Prop}(h:p:=by simp_all):p:=h
theorem WE{p:Prop}(h:p:=by grind):p:=h
theorem WF{p:Prop}(h:p:=by simp;lia):p:=h
open Lean in
def qqM (k:Name) (x:List Syntax):Syntax:=.node .none k x.toArray
open Lean in
def qqL (x:String):Syntax:=.atom .none x
open Lean in
def qqN (x:String):Syntax:=mkIdent x.toName
open Lean in
def qqC (x:List Syntax):Syntax:=qqM nullKind (x.intersperse (qqL ","))
open Lean in
def qqS (q:List Syntax) (t:String):List Syntax:=
 let r:=(t.drop 1).toString;let n:=r.toNat?.getD 1;let s:=q.drop n;let a:=(q.take n).reverse;let y:=q.headD .missing;let o:=q.tail;let x:=o.headD .missing;let w:=o.tail;let p:=qqM ``Parser.Term.hygienicLParen [qqL "(",qqM hygieneInfoKind [mkIdent .anonymous]]
 match t.front with
 | '@'=>qqM ``Parser.Term.app [s.headD .missing,qqM nullKind a]::s.tail
 | '['=>qqM `«term[_]» [qqL "[",qqC a,qqL "]"]::s
 | '<'=>qqM ``Parser.Term.anonymousCtor [qqL "⟨",qqC a,qqL "⟩"]::s
 | ','=>qqM ``Parser.Term.tuple [p,qqM nullKind [a.headD .missing,qqL ",",qqC a.tail],qqL ")"]::s
 | '.'=>qqM ``Parser.Term.dotIdent [qqL ".",qqN r]::q
 | '!'=>qqM ``Parser.Term.explicit [qqL "@",qqN r]::q
 | '\''=>Syntax.mkStrLit r::q
 | '_'=>(if r.isEmpty then qqM ``Parser.Term.hole [qqL t] else qqN t)::q
 | '='=>qqM ``Parser.Term.namedArgument [qqL "(",qqN r,qqL ":=",y,qqL ")"]::o
 | '>'=>qqM ``Parser.Term.proj [y,qqL ".",if r.isNat then Syntax.mkLit fieldIdxKind r else qqN r]::o
 | '~'=>qqM (.mkSimple s!"term{r}_") [qqL r,y]::o
 | '^'=>qqM ``Parser.Term.arrow [x,qqL "→",y]::w
 | '`'=>qqM (.mkSimple s!"term_{r}_") [x,qqL r,y]::w
 | ':'=>qqM ``Parser.Term.typeAscription [p,x,qqL ":",qqM nullKind [y],qqL ")"]::w
 | '?'=>qqM `termIfThenElse [qqL "if",w.headD .missing,qqL "then",x,qqL "else",y]::w.tail
 | '\\'=>qqM ``Parser.Term.fun [qqL "fun",qqM ``Parser.Term.basicFun [qqM nullKind [if r=="_" then qqM ``Parser.Term.hole [qqL r] else qqN r],qqM nullKind [],qqL "=>",y]]::o
 | _=>(if t.isNat then Syntax.mkNumLit t else if t=="Prop" then qqM ``Parser.Term.prop [qqL t] else qqN t)::q
def qqT:Array String:=("
Shared















model X.prog X.w @2






.refl _ @
Inv X pins σ H s @5
j 1 `+



CL 'Chart @







List cg @


A Prop ^

aF ks @

List α @
CL 'NestRun @





.ref f @
.ref C @
es.length 1 `-
QoR
QoS





model prog w @2
e es `::
.inl rfl @
AC X e [0 @3
trivial \\_ \\_ \\_
AC X e es @3
bH K CL b H Z δ σ ts vs @9
arrOf z @
QoT
.ref a @
QoU
QoV
QoW
.Name x pos @2
k1.trans k2 @
CL 'Tree @
trivial \\_ \\_ \\_ \\_
some t @
AL X pos es @3
some v @
k 1 `+
dR I q WA @3
rZ ws a @2
QoX
bZ dN dS hs @3
ai st @
X.calm true `=
bE ks @
cM ks @
QoY
.Name x pp @2
dX aN isAll es ss mem @5
cY X CL b e δ t δ1 @7
aW E.aY @
QoZ
.nil \\_
.inr rfl @
.int i @
i7 ks es w @3
arrOf st @
.lst xs @
v vs `::
.cons h r @2 \\r \\h \\_ \\_
.sh .int n @ @
c9 bI nZ _ @ @2
ws.map jL @
aW E.cS @
.ref x @
.ref D @
backToKw pos keywordEach [0 X.env @2 @2
iQ aF ks @ es ch Q2 @4
trivial \\_
False \\_ \\_
EP X pins σ Q @4
.sh .int st @ @
eO ks es ss @3
.ins c fs @2
some t0 @
.ref aq @
k6 rfl @
Qo0
Qo1
dU X CL b e1 δ .int i @ δ1 @7
dg X scope Nc C s H fp @7
.ref CL 'NoStep @ @
s.heap.objs.size 1 `+
L2.Inv X pins σ H s @5
ds.map T.sh @
aW E.cC @
.bl true @
.tup xs @
.str x @
.ref e @
dQ st @
Qo2
Qo3
dU X CL b e2 δ1 .int j @ δ2 @7
rfl \\_ \\z
some .sh d @ @
aQ g7 ao @ @
upd H a o @3
C6 eo @
Qo4
Qo5
Qo6
.cons h k a nv _ b @2 @2 \\b \\a @ r k a j9 _ b @2 @2 \\b \\a @ @2 \\k \\r \\h \\_ \\_
f9.mp b @ >elim h a @ r a @ @2 \\b \\a \\r \\h \\_ \\_
bs.map .int @
absurd b oe @2 \\b \\a
kQ X CL b e δ t δ1 @7
.Call QaE Qab [0 pos @4
.ref it @
.int _ @
iy ws @
Qo7
Qo8
Qo9
Qpa
fq X.env scope.names [0 @3
he pins s σ H _ I h @7
ds.length sizeLine `≤
aW E.gS @
c.trans a @
iy ws i @2
aW E.dJ @
aW E.i6 @
k 1 `+ j `+
Qpb
Qpc
Qpd
Qpe
Qpf
jt jV cD E.fV >1 rfl @2 rfl rfl ao rfl @5 rfl rfl @3
ye X CL b e δ p δ1 @7
y9 X.stack @
ns.map V.int @
l.map .int @
HC es ws @2
arg a @
.dK kvs @
.tup ds @
.lst us @
.ref Dd @
some v0 @
aW E.dz @
PE X a ta @3
AN X iter @2
Option T @
.Xd q @
.bl _ @
res a @
ki bE ks @ aF ks @ es ss mem false es.length false p @9 \\p
envOfC qual ai st @ s.heap.objs.size f gy @5
decide p dh es u tg @3 `∈ @ ~! \\p
bH K CL b H Z δ σ t ts `:: v vs `:: @9
dU X CL b e δ .lst ds @ δ1 @7
.sh .lst es.map .int @ @ @
es.map .int @
bR aW E.rO @ ao rfl @3
getMethod I m pl @3
Binds X.K fd ps [0 @4
ah aW E.cR @ aS @2
aF ks s @2 \\s
.sh .int m @ @
k1.trans c @
f.trans c @
.tabs p >2 @
m es.length `<
aW E.T6 @
aW E.iX @
Vals xs us @2
n 1 `-
.lst ds @
pP ws @
aW E.qG @
jk _ hz @2
pR Wp Wp @2
.inl z @
RelV y u @2
out a @
List G4 @
List It @
eV X.prog X.w X.K X.mg X.base CX k f fd ps sp @11
F5 E.eG E.bz E.dI >1 rfl bM pR Wp Wp @2 rfl @7
Lies X pins σ H s H' e C a0 B s' @11
.Compare e1 .NotEq [1 e2 [1 pos @4
.builtin 'object.__class__ @
decide x u `≠ @ \\x
.sh .lst s.map .int @ @ @
cL E.aP E.bL QaH gD @4
starEach Qab X.env @2
absurd q oe @2 \\q
.sh .int j @ @
starEach [0 X.env @2
trivial \\_ \\_
Zw K x qual st f fd @6
Binds X.K fd ps ds @4
mem.map .int @
QC ks es ss mem @4
Loc X.env.scope x @2
X.mg 'range @ none `=
sy c p >1 bs sg @4
fs.lookup m @ none `=
.lst tl @
a sysModules `==
rfl \\_ \\_
.ins C dx fs @3
rfl \\_
q \\q \\_
Passes CX X E @3
bW K CL Z d v @5
jC X.K CL c @ @2
SBase a₀ st @2
some Q0 @
.sh Qep @
Gl X 'range @2
.ref D @ vs `::
aW E.cy @
model P w @2
EW H v0 p w @4
k es.length `<
x es.length `<
.val v @
a.take j @
Vals Fv ds @2
iz P w @2
l.map f @
.lst [0 @
.ref aA @
.ref av @
KV kvs vs @2
.ref p @
.ref y @
.lst _ @
.int m @
.ListComp elt tg iter ifs 0 <4 [1 scope pos @4
bR aW E.jX @ ao rfl @3
lq n.hi n.hv n.hd n.kL @4
i pins s σ H _ I h @7
e _ _ h @3
u 1 ~- `= u bV es t @2 `∈ `∨
iy ws k @2
ur X scope xs Nc ix @5
us.reverse vs `++
List κ Value `× @
.lst tl t [1 `++ @
fQ X scope y Nc ix @5
res a @ >clean true `=
X.A.units 64 `+ cLine `<
entry N arg a @ @2
ops.map .int @
ks.map .str @
ss.map .int @
mP ks es ws @3
Option V @
vM E.bT >1 @
.ref D' @
IntKeys a₀ @
PA X Qab t @3
xs.take j @
Option Expr @
aW E.fS @
cst SL s @2
EO α `×
.tup us @
aW E.dZ @
.ref aj @
pR We We @2
.own x @
.dT gs @
.int 0 @
.ListComp elt .Name x px @2 .Call .Name 'range pr @2 e [1 [0 pc @4 [0 0 <4 [1 scope pos @4
dg X scope Nc s3.heap.objs.size s3 upd H s.heap.objs.size .lst [0 @ @3 fp @7
r k a jk _ b @2 @2 \\b \\a @
swapsWith e some .Name x pos' @2 @ pos.line X.env @4 pure false @ `=
some .builtin 'object.__setattr__ @ @
.Name x pos' @2
.Call .Attribute QaE m apos @3 Qab [0 pos @4
List.replicate es.length 1 ~- @2
jA cd pl pt bs et @5
X.env.frame some X.env.locals @ `=
.Compare e1 .Eq [1 e2 [1 pos @4
.Call Qki Qab [0 pos @4
.lst Qbz @
.ref s.heap.objs.size @
.Call Qki [0 [0 pos @4
.BinOp e1 .Add e2 pos @4
dU X CL b e2 δ1 d2 δ2 @7
c a b i @3 \\i \\_ \\b \\a
h H Z σ ts vs _ S k @8
keys.zip us.toArray @
X.stack X.env X.outer `:: `=
.sh d @
0 i `≤ i ws.length `< `∧
dU X CL b e δ d δ1 @7
v5 X CL b e δ p δ1 @7
nE ks es ss is os ws @6
.ins CL c @ dx gs @3
oO cd pl pa bs ex @5
fQ X scope x Nc ix @5
TP X pins σ Q @4
X.mg 'list @ none `=
.builtin id @
yx Wl Wl Wl Wl Wl @5
aG K CL Z ds vs @5
.type 'list @
.sh .int c @ @
eval e X.env @2
aW E.cJ @
A.handled none `=
Str Addr `×
.ref CL c @ @
xs.map It.d @
b₀ suite `::
es.length 1 `+
es.getD k 0 @2
es.getD x 0 @2
f1 f2 d `++ `++
za ds k @2 some d @ `=
rZ c.ws b @2
X.pinned p @
.sh Qil @
vQ SL mm s @3
ZN ps @ δc `++
Addr Prop ^
p7 dG WF @ @
ps.zip us @
.int k t2 @2
Gl X 'list @2
zk kz xs @2
x l `∈
Int Int ^
Nat Int ^
aW E.uM @
aW E.jx @
keywordEach [0 X.env @2
some .Name x pos' @2 @
rfl .inl rfl @ trivial <3 \\_ \\z
[0 ES : >isEmpty 0 1 ?
aO bM aO bM aO bM aO bM fz @2 @2 @2 @2
kvs.any decide a >1 k `= @ \\a @
dU X CL b o δ .ins c fs @2 δ1 @7
kP E.aP E.bX v_ E.aY >1 @ iW @4
dU X CL b e2 δ1 .int k @ δ2 @7
seqObj 'list us.toArray 0 @3
Er X A q scope Nc f c s H @9
yY X CL b tg iter δ ds δ1 @8
pa.endLine pb.line `== true `=
Fc X CL x k n arg Pre res @8
cL E.c6 E.cQ Qbg kR @4
.Call Qgh e [1 [0 pc @4
.Subscript e1 e2 pos @3
dU X CL b e1 δ d1 δ1 @7
g pins s σ H _ I h @7
EO Addr Value `× `×
Unit Shared Prop ^ ^
x >1 >isSome \\x
.Attribute e f pos @3
keepIn X.K Q0 @2 true `=
X.xe False \\_ \\_ `=
es.getD m.toNat 0 @2
QC ks es ss mem w @5
bU K CL H Z t v fp @7
some Qey @ δc `::
so X CL b e δ i p @7
some .pin y t @2 @
.bool true @
.Name y py @2
x '__name__ `≠
Int Int Bool ^ ^
X.mg x @ some Q0 @ `=
Recv δ i c fs g @5
q >2 >2 >map T.sh @
Nat BA Prop ^ ^
.sh .str sg @ @
e9 Qb3 row @2
aG K CL Z ds us @5
It Hp Prop ^ ^
s.trans c.zh @
.sh .int k @ @
.sh .lst f @ @
x >1 ~! \\x
.int i t @2
l.map V.str @
vM E.cW >1 @
pH X pins H a @4
newList [0 @
K w.params @
some Qc7 @
eN Qau X.A @2
Option Value @
oI nz e @ @
e.trans c @
out a y @ @
1 j Int : `+
J7 s n st @3
List QdW @
K.In s.heap @
fnOf x qual pK st @ dQ st @ ai st @ .none kV doc pm an gy ct @12
.Name 'range pr @2
eV X.prog X.w X.K X.mg X.base mJ k f fd ps Q6 X.K CL n arg Pre res @6 @11
.Ei k _ eU @2 >trans h @ aG.mono e f @2 aG.mono e g @2 @3 \\k \\g \\f \\h
starEach e1 e2 [2 X.env @2 false eval e1 X.env @2 ,2 starEach e2 [1 X.env @2 `:: `=
.Call .Attribute QaE 'append pa @3 e [1 [0 pb @4
ki bE ks @ QR es ss mem fB mode @ es.length false @8
CM X CL scope Nc xs.length tg parts ifs elt δc ds p g @13
i7 ks es iy ws k @2 @3 \\k
.tE k _ eU @2 >trans h @ c7.mono e f @2 @2 \\k \\f \\h
.builtin 'type.__call__ .ref C @ us `:: kw <2 @2
PySem.revObj l its.toArray.size Int : 1 `- @2
.lst k _ eU @2 >trans h @ Qef @2 \\k \\r \\_ \\h
.ins k _ eU @2 >trans h @ Qef @2 \\k \\r \\_ \\h
.dct k _ eU @2 >trans h @ Qef @2 \\k \\r \\_ \\h
fB mode @ true `= 'far 'new ?
bR aW E.gS @ aQ e7 E.oq E.om @2 @ fD rfl @ @3
0 iy ws i @2 >src `≤ iy ws i @2 >src es.length `< `∧
gs.any J5 es QaM x @3 \\w @ ~! \\x
MH X CL b Qab δ arg a @ >map T.sh @ δ1 @7
swapsWith e none pos.line X.env @4 pure false @ `=
.builtin 'getset_descriptor.__get__ @
starEach e [1 X.env @2 false eval e X.env @2 ,2 [1 `=
b8 .cons E.aY >1 .inl E.pX @ .nil @3 Wl @2
b X.ex `∈ X.gZ.heap.objs.size b `≤ `∨
a f2 `∈ H a @ Z a @ ?
A8 E.dI >1 rfl rL v_ E.dZ >1 @ uz @2 @3
.dct Rd.mono e h @2 r @2 \\r \\_ \\h
cY X CL b e δ .sh .lst ds @ @ δ1 @7
.tup QdH r k @ @2 \\k \\r \\_ \\h
.pin y .ins 'NestRun Qel @2 @2
.Call .Name x p @2 Qab [0 pos @4
.tup aM.u7 e h @2 r @2 \\r \\_ \\h
.Ei QdH r q @3 \\q \\r \\_ \\_ \\h
Q6 K CL ps.length arg Pre res @6
.Compare e1 .NotIn [1 e2 [1 pos @4
scope.names.lookup x @ some .local @ `=
.lst e.seq h @ r @2 \\r \\_ \\h
Xx X CL b Qab δ arg a @ δ1 @7
vU b fx r fs w WD @6 \\hw \\w
PassesOwn Qr X.A X.env X.xe @4
bubble arrOf y @ k k l `- @3
.BoolOp .Or e e2 es `:: `:: pos @3
ah QaH ah aW E.cJ @ aS @2 @2
.Compare e1 .In [1 e2 [1 pos @4
rF pP ws @ Qgo L0 es @ @3
.ins QdH r @2 \\r \\_ \\h
ah aQ um ao lF 0 @ @2 @ aS @2
.Compare e1 op [1 e2 [1 pos @4
bH X.K CL b H Z δ σ ts vs @9
dg X scope Nc C s0 H0 f0 @7
.tE QdH r @2 \\r \\_ \\h
congrArg _ i @2 \\i \\_ \\_
.BoolOp .Or e2 es `:: pos @3
ah Qbg ah QaU aS @2 @2
cY X CL b e δ .sh d @ δ1 @7
.sh .lst a.map .int @ @ @
trivial \\_ \\_ \\_ \\_ \\_
.pin y t j @ @2
iQ QR es ch n 1 `- @4
dX QaB QR es ss mem @5
.pin r k @ @ \\k \\r \\_
.lst QF l @ >map T.sh @ @
some T.sh d @ @ \\d
hideAll s.heap Qb0 @2
.Call QlH [0 [0 pos @4
x '__debug__ Str : `==
t 'bool `== n 'int `== `&&
pE nz e @ I.ok.above @2
dU X CL b e2 δ1 d δ2 @7
mirror_perm _ _ _ _ @4
some .pin y t n @ @2 @
Str Option NameKind @ ^
.Name 'reversed q @2
.done .ret .none @ @
Flow Shared Prop ^ ^
bs.length c.bs.length `=
.lst .sh .int p @ @ [1 @
vb ws ops vs sg es @5
.builtin 'sorted @
c9 [0 =tl bI aZ @3
c.fC.fresh iP _ @ @
I.fC.fresh iP _ @ @
fH K CL H Z δ σ fp @7
X.mg 'reversed @ none `=
.Tuple elts kk pt @3
S.without nb c tb @3
0 x `≤ x es.length `< `∧
tG.trans yh Wp g @2 @
ic s 13 k Int : `+ @2
aO v_ E.cS >1 @ fz @2
Meth X.K CL c @ m f @4
getMethod U m pl @3
upd H p .dK [0 @ @3
Nat Heap Prop ^ ^
keepIn K Q0 @2 true `=
some .lst tl0 @ @
vZ _ rfl <2 @
.Tuple es j pos @3
X.mg 'sorted @ none `=
i7 ks es QdJ @3
gs.Pairwise Qig @
Int Int Prop ^ ^
lq hi hv hd kL @4
arg a @ >length 1 `+ n `=
X.env X.outer `::
r \\r \\_ \\_
call Q0 u [1 @2
Tag a₀ xs ι n @4
q >2 >1 >map .int @
X.nt XE X W @2 @
q a b c d e f @6
some T.wu p Qc7 t0 @3 @
Gl X 'reversed @2
.type 'type @
compareOp op @
aU X.K CL c @ f @3
r \\r \\_
Br _ _ _ _ _ @5
dB QdE rfl @2
s1.trans s2 @
some QdY @
k2.trans a2 @
upd H s.heap.objs.size .lst [0 @ @3
Ap es i7 ks es a @3 i7 ks es c @3 @3 \\c \\a
newFunctionEnv scope X.env.globals QbK [0 X.env.qual none .none some X.env @ @8
eV X.prog X.w X.K X.mg X.base mJ k f fd ps sx X.K CL n arg Pre res out @7 @11
sx X.K CL n arg Pre res out @7
attributeBase QaE 'append X.env eval QaE X.env @2 @4 eval QaE X.env @2 `=
.lst hs.map .str @ @
.ExceptHandler some .Name x np @2 @ none b₀ suite `:: pos @4 rest `::
iQ aF c.ks @ c.es ch c.es.length 1 `- @4
.ins 'NestRun jA c.d vI p @ j6 l @ B C6 some f @ @ @5 @2
.ListComp elt .Name y px @2 iter ifs 0 <4 [1 scope pc @4
.ListComp elt tg iter ifs 0 <4 [1 scope pc @4
jt jV cD E.PR >1 rfl @2 rfl rfl ao rfl @5 rfl rfl @3
a f2 `∈ H a @ Z a @ ? \\a
decide x pN ks es ops Qaw @4 `∈ @ ~! \\x
s.heap.IsRevIter it l items.size Int : 1 `- @3
some QcW @ Bc δ1 ix i .pin y t QA @ @2 @4 `::
swapsWith Qgl none pos.line X.env @4 pure false @ `=
kP E.ay E.bP v_ E.bJ >1 @ tP @4
envOfC qual scope s.heap.objs.size f cd @5
.ext LL f q params body scope QbK c @7 @
bR QbN aQ e7 E.PJ E.PF @2 @ fD rfl @ @3
.lst vc l @ Ka p B l.length @3 [1 `++ >map T.sh @ @
scope.names.lookup x @ some .globalImplicit @ `=
some QcW @ Bc δ1 ix i .pin y t j @ @2 @4 `::
Value Addr Result Shared Prop ^ ^ ^ ^
X.nt Nn X CL b Z δ1 ts vs CL c @ @8 @
.lst jK es j @2 >map .int @ >map T.sh @ @
i j rfl rfl q <5 \\q \\_ \\_
.Call .Name 'list pp @2 e [1 [0 pos @4
jA cd pl pt T.tup a b t [3 @ [1 `++ bs et @5
sx K CL ps.length arg Pre res out @7
decide p dh es u t @3 `∈ @ ~! \\p
jV cD E.OO >1 rfl @2 rfl rfl ao rfl @5
oO cd pl xo l @ bs JK some r @ @ @5
oI pE nz e @ I.ok.z3 x c C f @4 @2 @
az keep a nv _ c @2 @2 @ \\c \\a
kQ X CL b e δ .sh .int n @ @ δ1 @7
dW X CL b fU δ1.set i Qar @2 D @6
cY X CL b e δ .sh .bl p @ @ δ1 @7
dU X CL b e δ .lst Qb2 @ δ1 @7
kQ X CL b e1 δ .sh QaL @ δ1 @7
.Assign .Name x pos' @2 [1 e pos @3 fU `::
cY X CL b e δ .lst Qbf @ δ1 @7
V Ch Ch Hp VK Prop ^ ^ ^ ^ ^
PySem.call f vs @2 \\vs \\f
.pin y .lst .sh .int w @ @ [1 @ @2
.Assign .Name x pos' @2 [1 e pos @3
.BoolOp .And e e2 es `:: `:: pos @3
dU X CL b e1 δ .lst ds @ δ1 @7
scope.names.lookup x @ some .free @ `=
TX X CL x k n arg Pre res out @9
lq nm.hi nm.hv nm.hd nm.kL @4
m 'first_rows Str : `== false `=
.ins CL c @ dx tu f v gs @3 @3
dU X CL b e1 δ .str x @ δ1 @7
.Compare e1 .Gt [1 e2 [1 pos @4
aQ v_ UW 0 =i rfl Wl @3 @ @
aQ v_ Ni 1 =i rfl Wl @3 @ @
cL E.ay E.jd aW E.bJ @ C7 @4
.BoolOp .And e2 es `:: pos @3
assign .Name u py @2 X.env @2
Option Nat @ SortSt Prop ^ ^
i pos pins s σ H _ I h @8
h k a nv _ b @2 @2 \\b \\a @
r k a j9 _ b @2 @2 \\b \\a @
Q6 X.K CL n arg Pre res @6
n pos pins s σ H _ I h @8
dg X scope Nc C s0 a f0 @7
kk c jk _ o @2 @2 \\o \\c
.Constant QaL j pos @3
Fm X CL x k n arg Pre res @8
.type 'BaseException @
cL E.c6 E.d7 Qbg nW @4
.Name 'isinstance pp @2
I.base.free b o e n a @5
apos.endLine vV.line `==
Meets K CL b Z ts vs D E @8
its.toArray.size 1 `-
m 'chart Str : `== false `=
m 'place Str : `== false `=
m 'boxes Str : `== false `=
oM v_ E.jX >1 @ ao rfl @3
.Return some e @ pos @2
m 'past Str : `== false `=
.Name 'reversed pq @2
seqObj 'list out c @3
pm.nodup_iff.mpr nd @
aQ v_ E.l_e >1 >hand @ @
hm b _ q z \\z @4
MH X CL b es δ tl δ1 @7
.type 'ValueError @
some .pin y t 0 @ @2 @
T.Nu p t0 @2 some .pin y u @2 @ `=
handleBy Qbk X.env hs @3
ah Qdl ah Qcy aS @2 @2
.Constant Qbj j pos @3
UK f .sh Qdq @ ,2 fs2 `:: `++
assign QfL X.env @2
f Qf0 .int j u @2 @2
X.mg 'isinstance @ none `=
starEach e2 [1 X.env @2
ot _ e @2 \\e \\u \\b
s.heap.IsList l items @2
fW K CL H Z kvs gs fp @7
mem.getD m.toNat 0 @2
starEach e [1 X.env @2
BY Hp VK Prop ^ ^ ^
.str toString i @ @
I.fC.fresh tI _ @ @
World Heap Prop ^ ^
vu tj _ @ FA _ _ @2 @2
ForInStep.yield r @
X.mg 'enumerate @ none `=
.Name 'sorted pp @2
TQ X.env.scope tb @2 true `=
wq m hs u 3 `/ j @4
.sh .lst Qc1 @ @
AJ X binaryOp op @ r @3
d.params.defaults [0 `=
bh.getD m.toNat 0 @2
tupleKind Qdt @
V Hp VK Prop ^ ^ ^
codeIn K gy qual @3 true `=
items.size sizeLine `≤
isAll s @ \\s
ah vL E.cW >1 @ aS @2
.Attribute o m apos @3
e Int : u `= jz es u t e @4 e Int : t `≠ `∧ `∨ st e @ Bk es u e @3 k8 ss mem D e @ e @4 ch.getD e 0 @2 ? ?
b NameKind.free `== env.scope.kind .function `== `&& env.kindOf n @ some _ @ `== `&& true `= n NameKind.cell ,2 n b ,2 ?
E1 m @ true `= D.tup .str 'keep @ .int m @ .int mem.getD m.toNat 0 @2 @ .int bh.getD m.toNat 0 @2 @ [4 @ [1 [0 ?
bw c_ c.d vI p @ B some f @ ,4 E.Mm E.xS ah vE E.jw >1 rfl qO @3 aS @2 trivial rfl @6 .sh Qbh @ =t2 rfl @3
b8 .cons E.jv >1 .inl E.uN @ .cons E.dZ >1 .inl E.wQ @ .cons E.dI >1 .inl E.Yx @ .nil @3 @3 @3 Wl @2
b8 .cons E.jv >1 .inl E.uN @ .cons E.dZ >1 .inl E.wQ @ .cons E.cy >1 .inl E.tR @ .nil @3 @3 @3 Wl @2
kla_obj '<lambda> q params body scope QbK X.mg '__name__ @ >getD .none @ g j @9
r .ok .ret .bool true @ @ @ `= OldK f.heap s'.heap @2 s'.os f.os `= AllBare s'.gens @ `∧ `∧ `∧ \\s' \\r
h2 rfl H1 Z1 σ ts vs _ a.pop k v H2 Z2 c.trans d @ Qao f @6 \\f \\k2 \\d \\Z2 \\H2 \\v @9
h2 rfl H1 Z1 σ ts vs _ c k H2 Z2 a.trans d @ Qao f @5 \\f \\k2 \\d \\Z2 \\H2 @9
eV X.prog X.w X.K X.mg X.base mJ k f fd ps y3 X.K CL c n arg Pre res @7 @11
.ListComp elt .Name y px @2 .Call Qgh e [1 [0 pc @4 [0 0 <4 [1 scope pp @4
Sr g f I h e pins s2 σ H2 x y v u Q i d c q @13 \\q \\c \\d \\i \\H2 \\y \\x \\s2 \\u \\v @5
far decide e ki aN isAll es ss mem far es.length near t @9 `∈ @ `&&
xs.isEmpty ~! Builtin.List.listTooLong xs.size ys.size `+ @ `&& true `= ~¬
es.getD k 0 @2 ki aN isAll es ss mem far es.length near t @9 `∈
kvs.map a >1 k `= a >1 y ,2 a ? \\a @
.lst L7 s st es j @4 >map .int @ >map T.sh @ T.sh .int 1 ~- @ @ [1 `++ @
fnOf name qual params body scope d kV doc pm an gy ct @12
.ListComp elt .Name y px @2 iter ifs 0 <4 [1 scope pos @4
n 'int 'str 'list 'tuple 'bool 'dict [6 `∈
kla_fn '<lambda> q params body scope cl pm cd ct @9
some .builtin 'BaseException.__getattribute__ @ @
G.all sc.names.lookup x @ some .globalImplicit @ `== \\x @
D.tup .str 'sign @ .str sg @ [2 @ Hx goN c a sg bs @4 >1 bs @2 >map J.d @ `::
aQ ym aeF cD E.dI >1 rfl @2 rfl rfl ao rfl @5 rfl rfl @3 @
attributeBase e0 'pop X.env eval e0 X.env @2 @4 eval e0 X.env @2 `=
.Call .Attribute .Name x p @2 m apos @3 Qab [0 pos @4
A8 J3 3 @ rfl rL v_ J3 2 @ @ rL v_ J3 1 @ @ uz @2 @2 @3
HT.JD xs.length xs.length hi @3 HT.JD xs.length 0 lo @3 `-
a >1 k `= a >1 v ,2 a ? \\a
a >1 k `= a >1 d ,2 a ? \\a
i.deeper envOfC x Qaz s.heap.objs.size f gy @5 @
bY aW E.fc @ bY vL E.kB >1 @ Qbr f @3 g8 k0 k1 @2 @3
H a @ >isSome true `= Z a @ W' a @ ?
X.K.lookup a @ some .type 'tuple @ od .seq its n @2 sl <4 @ `=
.Call .Attribute QaE 'extend pa @3 e [1 [0 pb @4
wpAny_updateSeq a rfl c =hz hz =_hz' @4
.lst F2 s st es QA @4 >map .str @ >map T.sh @ @
GQ E.g E.cO E.vo vL E.qa >1 @ cB _ @ E.cN E.vn @7
X.env.kindOf y >1 @ some .cell @ `= X.env.kindOf y >1 @ some .free @ `= `∨
a.contains y >1 @ scope.names.lookup y >1 @ some .free @ `== `&&
LL h'.objs.size q params body scope QbK g @7
.Subscript e .Slice lo hi some st @ p2 @4 pos @3
j5 E.cO kP E.ay E.bK v_ E.bJ >1 @ yw @4 E.cN bS @4
.Call .Attribute e0 'append pa @3 e [1 [0 pb @4
some .builtin 'type.__getattribute__ @ @
N.all sc.names.lookup x @ some .local @ `== \\x @
decide x pN ks es QaY gs @4 `∈ @ ~! \\x
spliced backTo pos starEach es X.env @2 @2 @
scope.names.lookup y @ some .free @ `== \\y
.int j i `> j i ? @
.int j i `< j i ? @
.Call .Attribute e m apos @3 args [0 pos @4
.Subscript e .Slice lo hi none p2 @4 pos @3
bH K CL b H Z δ σ tl.reverse ts `++ QdL @9
p2 f _ z @2 >2 >2 >elim .inl .inr @2 @ \\z
dg X scope Nc s.heap.objs.size s H fp @7
.Call .Name 'enumerate pr @2 e [1 [0 pc @4
.Call .Attribute o mm apos @3 [0 [0 pos @4
Nq E.ay E.di cD E.bJ >1 rfl @2 rfl rfl Dc @6
.lst dh es u tg @3 >map .int @ >map T.sh @ @
fnOf x x pK st @ Qbl Qaz .none kV doc pm an gy ct @12
i7 ks es QbP @3 1 ~- `= i7 ks es QbP @3 bV es iy ws i @2 >nN >toNat @2 `∈ `∨
qw bq Qf2 bq QdX bq vM E.lY >1 @ bI @2 @2 @2 aZ @2
typeOf QeI @ pure .type 'method_descriptor @ @ `=
.ins 'NestRun jA cd pl pt bs Qbt @5 @2
dW X CL b fU δ1.set i some QdN @ @2 DD @6
K.lookup f @ some oc od .func Qgg @ TN <4 @ `=
back p q ?
r8 c.ks c.es c.ws mem Qin QeZ @6
back 2 3 ?
GJ vL E.qa >1 @ cB _ @ Fz AZ Qbr @ @4
.Call .Name 'tuple pp @2 e [1 [0 pos @4
EZ isAll es ss mem far near iV t k @9
ah Qdl ah Qd3 ah Qcz aS @2 @2 @2
z c.d vI p @ o q B some f @ ,7 \\z
some .lst ds.filter p @ >map g @ @ @
SP X pins E .next s' @5 \\s' \\_
Block X CL scope Nc ifs elt δc ds p g @10
k _ _ Z Qy Qy S.push Qdq @ @6
.Call .Name 'len pp @2 e [1 [0 pos @4
.Call .Name 'str pp @2 e [1 [0 pos @4
ZE X CL b .Name y px @2 iter δ ds δ1 @8
.call .ref O @ .ref a @ [1 [0 <2 @2
j5 E.cO oM Qix ao G7 @3 E.cN bS @4
.Attribute QaE m apos @3
arg a @ >length n `=
List κ V `× @
i δ1.length `<
FuncData
Program
t es.length `<
dw N ps Qaz @3
Gl X x @2
Vn X i x @3
QlP
D.ck ds @ true `=
X.N.Nodup
xY P w H h @4
A BB ^
QlM
Around
A Bi ^
List vR @
QlL
A T ^
PE X e te @3
eN k X.A @2
QlQ
Sem Bool @
Ln X i x @3
RelV v u @2
aM Z Z' @2
String
QlK
QlN
aM H H' @2
QlR
Ql1
QlV
QlW
QlX
QlY
Ql0
QlZ
Ql4
Ql9
QlT
Qma
Qmb
QlU
Ql3
Ql8
Qmd
Qme
Qmf
Qmg
Qmh
Qmi
Qmj
Qmk
Qml
Qmm
Qmn
Qmo
Qmp
Qmq
Qmr
Qms
Qmt
Qmu
Qmv
Qmw
Qmx
Qmy
Qmz
QmA
QmB
QmC
QmD
QmE
QmF
QmG
QmH
QmI
QmJ
QmK
QmL
QmM
QmN
QmO
QmP
QmQ
QmR
QmS
QmT
QmU
QmV
QmW
QmX
QmY
QmZ
Qm0
Qm1
Qm2
Qm3
Qm4
Qm5
Qm6
Qm7
Qm8
Qm9
Qna
Qnb
Qnc
Qnd
Qne
QlJ
Ql5
QlI
Ql6
Ql7
Ql2
QlO
Qmc
QlS
Qnf
Qng
Qnh
Qni
Qnj
Qnk
Qnl
Qnm
Qnn
Qno
Qnp
Qnq
Qnr
Qns
Qnt
Qnu
Qnv
Qnw
Qnx
Qny
Qnz
QnA
QnB
QnC
QnD
QnE
QnF
QnG
QnH
QnI
QnJ
QnK
QnL
QnM
QnN
QnO
QnP
QnQ
QnR
QnS
QnT
QnU
QnV
QnW
QnX
QnY
QnZ
Qn0
Qn1
Qn2
Qn3
Qn4
Qn5
Qn6
Qn7
Qn8
Qn9
Qoa
Qob
Qoc
Qod
Qoe
Qof
Qog
Qoh
Qoi
Qoj
Qok
Qol
Qom
Qon
Qoo
Qop
Qoq
Qor
Qos
Qot
Qou
Qov
Qow
Qox
Qoy
Qoz
QoA
QoB
QoC
QoD
QoE
QoF
QoG
QoH
QoI
QoJ
QoK
QoL
QoM
QoN
QoO
QoP
QoQ".splitOn "\n").toArray
def qqI (c:Char):Nat:=if 'a'<=c then c.toNat-97 else if 'A'<=c then c.toNat-39 else c.toNat+4
local macro_rules | `($x:ident)=>let u:=Lean.Macro.throwUnsupported;match x.getId with
 | .str .anonymous s=>let f:=fun n=>match qqT[n]? with
   | some t=>if t.isEmpty then u else pure ((t.splitOn " ").foldl qqS []).head!
   | _=>u
  match s.toList with
  | ['Q',a]=>f (qqI a)
  | ['Q',a,c]=>f (62+62*qqI a+qqI c)
  | _=>u
 | _=>u
noncomputable section
namespace L2
open PySem PySem.Spec PyProof.Rows
abbrev bF:=@if_neg
abbrev dm:=@List.length_map
abbrev eU:=@List.mem_cons_self
abbrev eu:=@List.mem_cons
abbrev j9:=@List.mem_append_right
abbrev jk:=@List.mem_cons_of_mem
abbrev k6:=@Nat.le_of_ble_eq_true
abbrev f9:=@List.mem_append
abbrev cq:=@if_pos
abbrev nv:=@List.mem_append_left
abbrev nr:=@List.append_assoc
abbrev fF:=@wpAny_bind
abbrev ox:=@List.getD_eq_getElem?_getD
abbrev iP:=@Nat.le_refl
abbrev ot:=@Heap.get?_push_of_some
abbrev n4:=@List.mem_singleton
abbrev n6:=@List.length_append
abbrev nH:=@List.map_append
abbrev n8:=@of_decide_eq_true
abbrev n2:=@List.append_nil
abbrev oo:=@Int.toNat_natCast
abbrev oe:=@List.not_mem_nil
abbrev nz:=@Heap.lt_size
abbrev pd:=@List.getElem?_eq_some_iff
abbrev pv:=@List.getElem?_eq_getElem
abbrev n3:=@List.mem_map
abbrev nZ:=@Nat.zero_le
abbrev oD:=@Bool.and_eq_true
abbrev oT:=@List.nodup_append
abbrev n7:=@List.map_map
abbrev og:=@List.map_cons
abbrev oC:=@List.mem_filter
abbrev o4:=@Int.emod_lt_of_pos
abbrev o2:=@List.getElem?_map
abbrev ov:=@PySem.W.mg_of
abbrev qz:=@List.mem_of_getElem?
abbrev o1:=@List.length_cons
abbrev pk:=@Heap.get?_push_size
abbrev o8:=@List.pairwise_cons
abbrev ph:=@of_decide_eq_false
abbrev pE:=@Nat.lt_of_lt_of_le
abbrev oy:=@Nat.le_trans
abbrev oa:=@wpAny_pure
abbrev pf:=@List.lookup_cons
abbrev oI:=@Nat.ne_of_lt
abbrev o7:=@Option.some.inj
abbrev q7:=@Bool.false_ne_true
abbrev pz:=@List.take_length
abbrev pw:=@List.mem_flatMap
abbrev pj:=@Int.emod_nonneg
abbrev qr:=@decide_eq_false
abbrev ro:=@List.perm_append_comm
abbrev p8:=@decide_eq_true
abbrev ri:=@PySem.W.mg_none_of
abbrev rl:=@List.filterMap_cons
abbrev rh:=@List.reverse_cons
abbrev p7:=@Nat.le_of_lt
abbrev o3:=@wpAny_mono
abbrev tH:=@List.map_congr_left
abbrev rb:=@List.mem_range
abbrev sm:=@List.length_range
abbrev p3:=@sizeLine_eq
abbrev tw:=@Bool.false_eq_true
abbrev tq:=@List.filter_append
abbrev oP:=@wpS_bind
abbrev vw:=@List.length_filter_le
abbrev uh:=@List.getElem?_range
abbrev sk:=@List.length_take
abbrev wz:=@List.pairwise_singleton
abbrev tj:=@List.Sublist.refl
abbrev si:=@List.nodup_cons
abbrev vu:=@List.Sublist.append
abbrev EG:=@PyProof.Rows.callWith_type1
abbrev wy:=@List.length_singleton
abbrev ue:=@List.size_toArray
abbrev vT:=@Nat.lt_of_le_of_lt
abbrev w7:=@List.mem_of_mem_take
abbrev uj:=@List.cons_append
abbrev FA:=@List.sublist_append_right
abbrev w4:=@PySem.mem_of_lookup
abbrev yd:=@List.Perm.append_left
abbrev ui:=@List.length_set
abbrev Fu:=@List.filter_cons_of_pos
abbrev Fs:=@List.getElem?_set_self
abbrev w3:=@List.flatMap_cons
abbrev x7:=@List.length_reverse
abbrev q0:=@wpS_pure
abbrev x5:=@List.perm_iff_count
abbrev Fn:=@List.getElem?_eq_none
abbrev Fh:=@List.length_replicate
abbrev x4:=@wpAny_Call_Name_kw
abbrev w1:=@List.all_eq_true
abbrev JJ:=@List.length_filterMap_le
abbrev qs:=@Ne.symm
abbrev vy:=@List.nodup_nil
abbrev JI:=@PySem.F.plainAttrs_list
abbrev x3:=@List.take_add_one
abbrev wA:=@List.nil_append
abbrev tI:=@Nat.le_succ
abbrev JH:=@Heap.get?_update_other
abbrev vx:=@List.any_cons
abbrev Nf:=@List.getElem?_append_right
abbrev JP:=@List.getElem?_set_ne
abbrev yn:=@List.find?_cons
abbrev Nd:=@wpAny_comprehension_free
abbrev JO:=@List.pairwise_append
abbrev yl:=@List.filter_map
abbrev FF:=@List.ext_getElem?
abbrev FC:=@decide_eq_true_eq
abbrev w8:=@wpAny_holding
abbrev Nb:=@List.filter_cons_of_neg
abbrev IT:=@PySem.W.hideAll_get
abbrev IS:=@List.flatMap_append
abbrev MU:=@Option.map_eq_some_iff
abbrev B0:=@wpAny_passesOwn
abbrev MO:=@PySem.W.methodCall_KW
abbrev MM:=@Heap.get?_update_self
abbrev A0:=@List.foldl_cons
abbrev Ar:=@PySem.W.kia_one
abbrev z6:=@List.filter_nil
abbrev MI:=@List.take_append_drop
abbrev IP:=@wpAny_truthy_bool
abbrev ME:=@lookup_relabel_local
abbrev Pc:=@List.getElem?_append_left
abbrev O3:=@List.drop_eq_getElem_cons
abbrev IM:=@Nat.lt_succ_self
abbrev ti:=@if_false
abbrev O0:=@List.Pairwise.imp_of_mem
abbrev IH:=@List.mem_reverse
abbrev Mo:=@beq_eq_false_iff_ne
abbrev z4:=@Nat.lt_irrefl
abbrev wx:=@beq_iff_eq
abbrev OT:=@List.pairwise_lt_range
abbrev OR:=@List.takeWhile_sublist
abbrev Mn:=@List.count_append
abbrev OP:=@Array.getElem?_toList
abbrev Eb:=@Int.zero_add
abbrev US:=@List.takeWhile_append_of_pos
abbrev x2:=@call_meets
abbrev Na:=@beq_self_eq_true
abbrev Po:=@List.Pairwise.filter
abbrev JE:=@List.all_cons
abbrev Jn:=@Bool.and_true
abbrev uc:=@if_true
abbrev Pm:=@PySem.W.codeHd_of_K
abbrev M9:=@Bool.eq_iff_iff
abbrev M1:=@List.range_succ
abbrev Pf:=@PySem.W.of_hideAll
abbrev Pe:=@List.mem_filterMap
abbrev Pd:=@PySem.W.callWith_K
abbrev UP:=@PySem.F.slot_list_append
abbrev T2:=@PySem.F.type_list_append
abbrev Jk:=@wpS_forRange
abbrev T1:=@List.sublist_append_left
abbrev TZ:=@List.getElem?_replicate
abbrev MW:=@wpAny_standAt
abbrev Key:=Sum Int Str
noncomputable def K6:Key->Value->Bool
 | .inl k,v=>Value.isInt k v
 | .inr x,v=>Value.isStrOf x v
noncomputable def avT(w:World):Key->Int
 | .inl k=>hashInt k
 | .inr x=>hashStr w x
theorem gf:∀{k:Key} {v:Value},K6 k v=true->(∃i t,k=Sum.inl i/\v=Value.int i t)\/(∃x t,k=Sum.inr x/\v=Value.str x t)
 | .inl i,v,h=>by
  obtain⟨t,e⟩:=Value.isInt_shape h;exact .inl ⟨i,t,rfl,e⟩
 | .inr x,v,h=>by
  obtain⟨t,e⟩:=Value.isStrOf_shape h;exact .inr ⟨x,t,rfl,e⟩
def Za(i:Int)(t:Tok):K6 (.inl i) Qf0=true:=by simp[K6,Value.isInt]
def Zb(x:Str)(t:Tok):K6 (.inr x) (.str x t)=true:=by simp[K6,Value.isStrOf]
theorem amO(a b:Int):decide ((Sum.inl a:Key)=Sum.inl b)=(a==b):=by
 by_cases e:a=b
 .subst e;simp
 simp_all
def amP(a b:Str):decide ((Sum.inr a:Key)=Sum.inr b)=decide (a=b):=by simp
def amQ(a:Int)(b:Str):decide ((Sum.inl a:Key)=Sum.inr b)=false:=qr (λq=>nomatch q)
def amR(a:Str)(b:Int):decide ((Sum.inr a:Key)=Sum.inl b)=false:=qr (λq=>nomatch q)
def iz(prog:Qak)(w:World):PySem.KeyKind prog w Key where
 is:=K6
 hash:=avT w
 inj:=λv a b f c=>by
  obtain⟨i,t,rfl,rfl⟩|⟨x,t,rfl,rfl⟩:=gf f
  .obtain⟨j,u,rfl,e⟩|⟨y,u,rfl,e⟩:=gf c
   .injection e with e1 _;rw[e1]
   .exact nomatch e
  .obtain⟨j,u,rfl,e⟩|⟨y,u,rfl,e⟩:=gf c
   .exact nomatch e
   .injection e with e1 _;rw[e1]
 byValue:=λk v h=>by
  obtain⟨i,t,rfl,rfl⟩|⟨x,t,rfl,rfl⟩:=gf h<;>rfl
 pyHash:=λhv h=>by
  obtain⟨i,t,rfl,rfl⟩|⟨x,t,rfl,rfl⟩:=gf hv
  .exact wpAny_pyHash_int h
  .exact wpAny_pyHash_str h
 eqBool:=λd hv h=>by
  obtain⟨i,t,rfl,rfl⟩|⟨x,t,rfl,rfl⟩:=gf d
  .obtain⟨j,u,rfl,rfl⟩|⟨y,u,rfl,rfl⟩:=gf hv
   .rw[amO]at h;exact wpAny_eqBool_int h
   .rw[amQ]at h;exact SeqAt.EqAt.int_str i t y u _ _ _ _ h
  .obtain⟨j,u,rfl,rfl⟩|⟨y,u,rfl,rfl⟩:=gf hv
   .rw[amR]at h;exact SeqAt.EqAt.str_int x t j u _ _ _ _ h
   .rw[amP]at h;exact wpAny_eqBool_str h
 «strs»:=λk x t v h=>by
  obtain⟨i,u,rfl,e⟩|⟨y,u,rfl,e⟩:=gf h
  .exact nomatch e
  .injection e with e1 _;subst e1;cases v<;>rfl
def QG(prog:Qak)(w:World)(i:Int)(t:Tok):(iz prog w).is (.inl i) Qf0=true:=Za i t
def QH(prog:Qak)(w:World)(x:Str)(t:Tok):(iz prog w).is (.inr x) (.str x t)=true:=Zb x t
inductive V where
 | non|bl (b:Bool)|int (i:Int)|str (x:Str)|Xc (b:Array UInt8)|flt (b:UInt64)|ref (a:Addr)|ty (n:Qa8)
 deriving DecidableEq
def RelV:V->Value->Prop
 | .non,u=>u=Value.none
 | .bl b,u=>u=Value.bool b
 | .int i,u=>∃t,u=Value.int i t
 | .str x, u => ∃ t, u = Value.str x t
 | .Xc b,u=>∃t,u=Value.bytes b t
 | .flt b,u=>∃t,u=Value.float b t
 | .ref a,u=>u=Value.ref a
 | .ty n,u=>u=Value.type n
abbrev _root_.BY:=List V
abbrev _root_.B2:=List Value
abbrev Vals:BY->B2->Prop:=Paired RelV
variable{xs:BY}{us:B2}
theorem Vals.length(r:QcA):xs.length=us.length:=Paired.length r
theorem Vals.get:∀{xs:BY} {us:B2} {i:Nat} {x:V},Vals xs us->xs[i]? = some x->∃u,us[i]? = some u/\RelV x u
 | _,_,_,_,.nil,e=>by simp at e
 | _,_,0,_,.cons r _,e=>by simp_all
 | _,_,i+1,x,.cons _ t,e=>by
  obtain⟨u,h1,h2⟩:=Vals.get t (‹_›);exact⟨u,‹_›,h2⟩
theorem Vals.set{x:V}{u:Value}(r:RelV x u):∀{xs:BY} {us:B2} (i:Nat),Vals xs us->Vals (xs.set i x) (us.set i u)
 | _,_,_,.nil=>.nil
 | _,_,0,.cons _ t=>.cons r t
 | _,_,i+1,.cons q t=>.cons q (Vals.set r i t)
theorem Vals.append:∀{xs ys:BY} {us ws:B2},Vals xs us->Vals ys ws->Vals (xs++ys) (us++ws)
 | _,_,_,_,.nil,s=>s
 | _,_,_,_,.cons r t,s=>.cons r (Vals.append t s)
theorem Vals.take:∀{xs:BY} {us:B2} (n:Nat),Vals xs us->Vals (xs.take n) (us.take n)
 | _,_,0,_=>.nil
 | _,_,_+1,.nil=>.nil
 | _,_,n+1,.cons r t=>.cons r (Vals.take n t)
theorem Vals.drop:∀{xs:BY} {us:B2} (n:Nat),Vals xs us->Vals (xs.drop n) (us.drop n)
 | _,_,0,r=>r
 | _,_,_+1,.nil=>.nil
 | _,_,n+1,.cons _ t=>Vals.drop n t
def zK:Option V->Option Value->Prop
 | some v,some u=>RelV v u
 | none,none=>True
 | _,_=>False
def KV{κ:Type}:List (κ×V)->List (κ×Value)->Prop:=Paired λ(p:κ×V) (q:κ×Value)=>p.1=q.1/\RelV p.2 q.2
noncomputable def kV:Key->V
 | .inl i=>.int i
 | .inr x=>.str x
abbrev _root_.EO:=List Key
abbrev _root_.Bz:=List (EO×V)
abbrev _root_.CA:=List (Str×V)
abbrev _root_.CC:=Int->Bool
abbrev _root_.CO:=Array Value
abbrev _root_.Cl:=List (Key×V)
inductive HO where
 | lst (xs:BY)
 | tup (xs:BY)
 | dK (kvs:Cl)|dT (kvs:Bz)
 | set (S:CC) (n:Nat)
 | ins (C dx:Addr) (fs:CA)
 | own (x:Addr)
 | xd (fs:CA)
 | met (f x:Addr)
 | rng (lo hi:Int)
 | gM (o:Obj) (u:HO)
 | tbl (ps:CO)
 | tabs (q:Str)
 | Xd (q:Str)
 | ext (φ:Heap->Prop)
abbrev Hp:=Addr->Option HO
noncomputable def upd(H:Hp)(a:Addr)(o:HO):Hp:=λb=>if b=a then some o else H b
variable{H:Hp}{a:Addr}{o:HO}
theorem bD:upd H a o a=some o:=by unfold upd;simp_all
variable{b:Addr}
def az(h:b≠a):upd H a o b=H b:=by unfold upd;rw[bF h]
def arF{u:HO}(h:H a=some o)(h':H b=some u)(d:o≠u):a≠b:=by
 intro e;subst e;rw[h]at h';exact d (o7 h')
theorem bf(h:H a=some o)(h':H b=none):a≠b:=by
 intro e;simp_all
section
variable(P:Qak)(w:World)
def gQ(H:Hp)(h:Heap)(a:Addr):HO->Prop
 | .lst xs=>xs.length<=sizeLine/\∃(its:B2) (n:Nat),Vals xs its/\h.get? a=some {cls:=.type "list",data:=.seq its.toArray n}
 | .tup xs=>xs.length<=sizeLine/\∃its:B2,Vals xs its/\IsTup h a its.toArray
 | .dK kvs=>kvs.length<=sizeLine/\Qc8=false/\∃vs,KV kvs vs/\h.DictOf Qdt a vs
 | .dT kvs=>kvs.length<=sizeLine/\Qc8=false/\∃xs:List Qfy,
   Paired (λ(p:EO×V) (q:Qfy)=>p.1=q.1/\H q.2.1=some (.tup (p.1.map kV))/\RelV p.2 q.2.2) kvs xs ∧
   ∃o es ep,h.get? a=some o/\o.ExactDict/\o.data=.dict es ep/\es.toList=xs.map (entryOfKey Qkc)/\(xs.map (·.1)).Nodup
 | .set S n=>h.SetOf (intKind P w) a S n
 | .ins C dx fs=>H dx=some (.own a)/\fs.length<=1000/\dx≠a/\h.get? a=some (instObj C dx) ∧
   ∃mA,h.Ns1 dx mA/\(∀f,zK (fs.lookup f) (mA f))/\PySem.Within mA (fs.map (·.1))
 | .own _=>∃o,h.get? a=some o
 | .xd fs=>∃mA,h.Ns1 a mA/\∀f,zK (fs.lookup f) (mA f)
 | .rng lo hi=>∃t u v,h.get? a=some {cls:=.type "range",data:=.fields #[.int lo t,.int hi u,.int 1 v]}
 | .gM o u=>h.get? a=some o/\gQ H h a u
 | .tbl ps=>h.get? a=some {cls:=.none,data:=.fields ps}
 | .tabs q=>∃ps:CO,h.get? a=some {cls:=.none,data:=.fields ps}/\TriplesOk ps.toList/\∀pos b,codeAmong pos ps.toList=some b->∃c,b=.ref c/\H c=some Qce
 | .Xd q=>∃o vs t,h.get? a=some o/\o.data=.fields vs/\vs[1]? = some (.str q t)
 | .met f x=>h.get? a=some (PySem.W.methodObj Q0 QaV)
 | .ext φ=>φ h/\(∃o,h.get? a=some o)/\∀h1 h2:Heap,φ h1->(∀o,h1.get? a=some o->h2.get? a=some o)->φ h2
def xY(H:Hp)(h:Heap):Prop:=∀a o,H a=some o->gQ P w H h a o
end
variable{P:Qak}{w:World}{H':Hp}{h h':Heap}
theorem gQ.lt(x:gQ P w H h a o):a<h.objs.size:=by
 cases o with
 | lst xs=>obtain⟨_,_,_,_,e⟩:=x;exact nz e
 | tup xs=>obtain⟨_,_,_,p⟩:=x;exact p.lt
 | dK kvs=>obtain⟨_,_,_,_,o,_,_,e,_⟩:=x;exact nz e
 | dT kvs=>obtain⟨_,_,_,_,o,_,_,e,_⟩:=x;exact nz e
 | set S n=>obtain⟨o,_,_,_,e,_⟩:=x;exact nz e
 | ins C dx fs=>obtain⟨_,_,_,e,_⟩:=x;exact nz e
 | own y=>obtain⟨_,e⟩:=x;exact nz e
 | xd fs=>obtain⟨_,⟨_,_,_,e,_⟩,_⟩:=x;exact nz e
 | rng lo hi=>obtain⟨_,_,_,e⟩:=x;exact nz e
 | gM b u=>obtain⟨e,_⟩:=x;exact nz e
 | tbl ps=>exact nz (x)
 | tabs q=>obtain⟨_,e,_⟩:=x;exact nz e
 | Xd q=>obtain⟨_,_,_,e,_⟩:=x;exact nz e
 | met f y=>exact nz (x)
 | ext φ=>obtain⟨_,⟨_,e⟩,_⟩:=x;exact nz e
theorem Paired.SH{α β:Type}{F G:α->β->Prop}:∀{l₁:QT} {l₂:List β},Paired F l₁ l₂->(∀a b,F a b->G a b)->Paired G l₁ l₂
 | _,_,.nil,_=>.nil
 | _,_,.cons r t,f=>.cons (f _ _ r) (Paired.SH t f)
theorem gQ.AH(x:gQ P w H h a o)(k:∀b u,(b=a\/H b=some (.own a))->h.get? b=some u->h'.get? b=some u)
  (l:∀b,H b=some (.own a)->H' b=some (.own a)) (j:∀b xs,H b=some Qbi->H' b=some Qbi) (kL:∀b q,H b=some Qce->H' b=some Qce:=by intro _ _ q;exact q):gQ P w H' h' a o:=by
 induction o with
 | lst xs=>obtain⟨z,its,n,r,e⟩:=x;exact⟨z,its,n,r,k _ _ Qac e⟩
 | tup xs=>obtain⟨z,its,r,g,e,c⟩:=x;exact⟨z,its,r,g,k _ _ Qac e,c⟩
 | dK kvs=>obtain⟨z,y,vs,r,g,es,ep,e,c⟩:=x;exact⟨z,y,vs,r,g,es,ep,k _ _ Qac e,c⟩
 | dT kvs=>
  obtain⟨z,y,xs,r,g,es,ep,e,c⟩:=x;exact⟨z,y,xs,Paired.SH r λp q z=>⟨z.1,j _ _ z.2.1,z.2.2⟩,g,es,ep,k _ _ Qac e,c⟩
 | set S n=>obtain⟨g,es,ep,t,e,c⟩:=x;exact⟨g,es,ep,t,k _ _ Qac e,c⟩
 | ins C dx fs=>
  obtain⟨d,z,ne,e,mA,⟨od,es,ep,e2,c⟩,r⟩:=x;exact⟨l _ d,z,ne,k _ _ Qac e,mA,⟨od,es,ep,k _ _ (.inr d) e2,c⟩,r⟩
 | own y=>obtain⟨g,e⟩:=x;exact⟨g,k _ _ Qac e⟩
 | xd fs=>obtain⟨mA,⟨od,es,ep,e,c⟩,r⟩:=x;exact⟨mA,⟨od,es,ep,k _ _ Qac e,c⟩,r⟩
 | rng lo hi=>obtain⟨t,u,v,e⟩:=x;exact⟨t,u,v,k _ _ Qac e⟩
 | gM g u i=>obtain⟨e,q⟩:=x;exact⟨k _ _ Qac e,i q⟩
 | tbl ps=>
  have e:=x;exact k a _ Qac e
 | met f y=>
  have e:=x;exact k a _ Qac e
 | tabs q=>obtain⟨ps,e,tr,cs⟩:=x;exact⟨ps,k _ _ Qac e,tr,λpos m z=>let ⟨c,e1,e2⟩:=cs pos m z;⟨c,e1,kL _ _ e2⟩⟩
 | Xd q=>obtain⟨g,vs,t,e,r⟩:=x;exact⟨g,vs,t,k _ _ Qac e,r⟩
 | ext φ=>obtain⟨p,⟨o,e⟩,st⟩:=x;exact⟨st _ _ p λo q=>k _ _ Qac q,⟨o,k _ _ Qac e⟩,st⟩
theorem xY.lt(x:Qbu)(e:H a=some o):a<h.objs.size:=(x a o e).lt
theorem xY.fresh(x:Qbu)(e:h.objs.size<=a):H a=none:=by
 cases q:H a with
 | none=>rfl
 | some u=>exact absurd (pE (x.lt q) e) (z4 _)
theorem xY.kept(x:Qbu)(k:∀b u,h.get? b=some u->h'.get? b=some u):xY P w H h':=λa o e=>
 (x a o e).AH (λb u _ q=>k b u q) Qdc λ_ _ q=>q
theorem xY.laid(x:Qbu)(k:∀b u,h.get? b=some u->h'.get? b=some u)(g:h.objs.size<=a)(new:gQ P w Qbs h' a o):xY P w Qbs h':=λb u e=>by
 have d:=x.fresh g;by_cases f:b=a
 .subst f;rw[bD]at e;grind
 .rw[az f]at e;exact(x b u e).AH (λc v _ q=>k c v q) (λc q=>az (bf q d)▸q) (λc xs q=>az (bf q d)▸q) λc z q=>az (bf q d)▸q
def Rd(H:Hp)(a:Addr)(u:HO):Prop:=H a=some u\/∃o,H a=some (.gM o u)
theorem Rd.ok{u:HO}(r:Rd H a u)(x:Qbu):gQ P w H h a u:=by
 obtain r|⟨o,r⟩:=r
 .exact x a u r
 .obtain⟨_,q⟩:=x a _ r;exact q
def Nm:Option HO->Prop
 | some (.lst _)=>True
 | some (.dK _)=>True
 | some (.dT _)=>True
 | some (.set _ _)=>True
 | some (.ins _ _ _)=>True
 | some (.ext _)=>True
 | some (.tabs _)=>True
 | _=>False
variable{x e:Addr}{o':HO}
theorem xY.write(ok:Qbu)(d:Nm (H x))(he:e=x\/H e=some Qea)(k:∀b u,b≠e->h.get? b=some u->h'.get? b=some u)(f:∃u,h'.get? e=some u)
  (new:gQ P w (upd H x o') h' x o'):xY P w (upd H x o') h':=λb u q=>by
 have l:∀c y,H c=some (.own y)->c≠x:=λc y r z=>by subst z;rw[r]at d;exact d
 have j:∀c xs,H c=some Qbi->c≠x:=λc xs r z=>by subst z;rw[r]at d;exact d
 have i:∀c q,H c=some Qce->c≠x:=λc q r z=>by subst z;rw[r]at d;exact d
 by_cases g:b=x
 .subst g;rw[bD]at q;grind
 .rw[az g]at q;by_cases a:b=e
  .have m:H b=some Qea:=by
    obtain z|z:=he
    .exact absurd (a.trans z) g
    .rw[a];exact z
   rw[q]at m;cases m;obtain⟨v,hv⟩:=f;exact⟨v,a▸hv ⟩
  .refine(ok b u q).AH (λc v n r=>k c v ?_ r) (λc r=>az (l c b r)▸r) (λc xs r=>az (j c xs r)▸r) λc z r=>az (i c z r)▸r;grind
abbrev _root_.BN:=List Addr
structure Un(fs ex:BN)(H H':Hp)(h h':Heap):Prop where
 keep:∀b o,h.get? b=some o->H b=none->b∉fs->b∉ex->h'.get? b=some o
 slot:∀b o,h.get? b=some o->H b=none->b∈fs->b∉ex->∃sl,h'.get? b=some {o with slots:=sl}
 free:∀b o,h.get? b=some o->H b=none->b∉ex->H' b=none
 there:∀b o,h.get? b=some o->b∉ex->∃o',h'.get? b=some o'
 zL:∀b xs,H b=some Qbi->H' b=some Qbi
 fO:∀b o u,H b=some (.gM o u)->H' b=some (.gM o u)
 zM:∀b ps,H b=some (.tbl ps)->∃more,H' b=some (.tbl (ps++more))
section
variable{fs ex:BN}{H1 H2:Hp}{h1 h2:Heap}
theorem Un.any(u:Un fs ex H H1 h h1){a:Obj}(q:h.get? b=some a)(n:H b=none)(c:b∉ex):∃sl,h1.get? b=some {a with slots:=sl}:=by
 by_cases d:b∈fs
 .exact u.slot b a q n d c
 .exact⟨ _,u.keep b a q n d c⟩
theorem Un.trans(a:Un fs ex H H1 h h1)(b:Un fs ex H1 H2 h1 h2):Un fs ex H H2 h h2 where
 keep:=λc d q n f e=>b.keep c d (a.keep c d q n f e) (a.free c d q n e) f e
 slot:=λc d q n f e=>by
  obtain⟨sl,e1⟩:=a.slot c d q n f e;obtain⟨g,e2⟩:=b.slot c _ e1 (a.free c d q n e) f e;exact⟨g,e2⟩
 free:=λc d q n e=>by
  obtain⟨o',e1⟩:=a.there c d q e;exact b.free c o' e1 (a.free c d q n e) e
 there:=λc d q e=>by
  obtain⟨o',e1⟩:=a.there c d q e;exact b.there c o' e1 e
 zL:=λc xs q=>b.zL c xs (a.zL c xs q)
 fO:=λc d xs q=>b.fO c d xs (a.fO c d xs q)
 zM:=λc ps q=>by
  obtain⟨m1,e1⟩:=a.zM c ps q;obtain⟨m2,e2⟩:=b.zM c _ e1;exact⟨m1++m2,by simp_all ⟩
theorem Un.kept(k:∀b u,h.get? b=some u->h'.get? b=some u):Un fs ex H H h h':=
 ⟨λb a q _ _ _=>k b a q,λb a q _ _ _=>⟨ _,k b a q⟩,λ_ _ _ n _=>n,λb a q _=>⟨a,k b a q⟩,λ_ _ q=>q,λ_ _ _ q=>q,λ_ ps q=>⟨#[],‹_› ⟩⟩
theorem Un.refl:Un fs ex H H h h:=Un.kept λ_ _ q=>q
theorem Un.laid(k:∀b u,h.get? b=some u->h'.get? b=some u)(d:h.objs.size<=a)(c:H a=none):Un fs ex H Qbs h h' where
 keep:=λb u q _ _ _=>k b u q
 slot:=λb u q _ _ _=>⟨ _,k b u q⟩
 free:=λb u q n _=>az (oI (pE (nz q) d))▸n
 there:=λb u q _=>⟨u,k b u q⟩
 zL:=λb xs q=>az (bf q c)▸q
 fO:=λb u xs q=>az (bf q c)▸q
 zM:=λb ps q=>⟨#[],by rw[az (bf q c),q];simp⟩
theorem Un.write(d:Nm (H x))(he:e=x\/H e=some Qea)(k:∀b u,b≠e->h.get? b=some u->h'.get? b=some u)(c:∃u,h'.get? e=some u):Un fs ex H (upd H x o) h h':=by
 have g:∀b,H b=none->b≠x:=λb n z=>by subst z;rw[n]at d;exact d
 have f:∀b,H b=none->b≠e:=λb n z=>by simp_all
 have hm:∀b u,H b=some u->¬ Nm (some u)->b≠x:=λb u q nm z=>by simp_all
 refine⟨λb u q n _ _=>k b u (f b n) q,λb u q n _ _=>⟨ _,k b u (f b n) q⟩,λb u q n _=>az (g b n)▸n,λb u q _=>?_,
  λb xs q=>az QjG▸q,λb u xs q=>az QjG▸q,λb ps q=>⟨#[],by rw[az QjG,q];simp⟩⟩
 by_cases a:b=e
 .subst a;exact c
 .exact⟨u,k b u a q⟩
end
noncomputable def XF(h:Heap)(H:Hp):BN:=(List.range h.objs.size).filter λa=>(H a).isSome
def JL(h:Heap)(H:Hp):Heap:=hideAll h (XF h H)
def Zc(h:Heap)(H:Hp):(JL h H).objs.size=h.objs.size:=PySem.W.hideAll_size _ _
theorem acS{o:Obj}(e:h.get? b=some o)(n:H b=none):(JL h H).get? b=some o:=
 IT _ e λhm=>by
  have q:=(oC.1 hm).2;simp_all
theorem ahY{o:Obj}(e:(JL h H).get? b=some o):h.get? b=some o/\H b=none:=by
 have a:=Pf _ e;refine⟨a,?_⟩;cases q:H b with
 | none=>rfl
 | some x=>
  have hm:b∈XF h H:=oC.2 ⟨rb.2 (nz a),by simp[q]⟩;have z:(JL h H).get? b=none:=hideAll_none _ hm;simp_all
abbrev _root_.BM:=List (Addr×Obj)
noncomputable def ahZ(g h:Heap)(L:Addr):BM:=(List.range h.objs.size).filterMap λa=>if a=L\/(g.get? a).isSome=true then none else(h.get? a).map λo=>(a,o)
def rest(g h:Heap)(L d:Addr):BM:=(ahZ g h L).filter λp=>decide (p.1≠d)
abbrev _root_.Bn:=Str->Option Value
structure Mod(K:Frag)(mg:Bn)(base:Heap):Prop where
 vi:K.In base
 glob:base.Ns mainGlobals mg
 blt:∃mb,base.Ns builtinsNs mb/\∀x:Str,x≠"__name__"->mb x=bootBuiltins x
 nolimit:base.NoLimit
abbrev _root_.At:=List Str
abbrev _root_.BS:=Value->Shared->Prop
abbrev _root_.DA:=List Env
structure Cx where
 prog:Program
 w:World
 K:Frag
 mg:Str->Option Value
 base:Heap
 A:Around
 N:At
 gZ:Shared
 q9:Hp
 env:Env
 outer:DA
 stack:DA
 ex:BN
 fn:Str->Bool
 calm:Bool
 pn:BM
 xe:Value->Shared->Prop
noncomputable def y9(l:DA):BN:=l.filterMap (·.frame)
abbrev Cx.fs(X:Cx):BN:=y9 X.outer
def yA(sc:Scope)(x:Str):Prop:=sc.names.lookup x=some .local\/sc.names.lookup x=some .cell\/sc.names.lookup x=some .free
def Loc(sc:Scope)(x:Str):Prop:=sc.names.lookup x=some .local\/sc.names.lookup x=some .cell
def Look(env:Env)(h:Heap)(m:Bn)(x:Str)(u:Value):Prop:=
 (env.kindOf x=some .local/\m x=some u)\/((env.kindOf x=some .cell\/env.kindOf x=some .free)/\∃c,env.cells.lookup x=some c/\h.IsCell c (some u))
structure Cx.Ok(X:Cx):Prop where
 mod:Mod X.K X.mg X.base
 kind:X.env.scope.kind=.function
 glob:X.env.globals=mainGlobals
 blt:X.env.builtins=builtinsNs
 above:X.gZ.heap.objs.size<=X.env.locals
 inj:∀x y c,X.env.cells.lookup x=some c->X.env.cells.lookup y=some c->x=y
 has:∀x,(X.env.kindOf x=some .cell\/X.env.kindOf x=some .free)->∃c,X.env.cells.lookup x=some c
 z3:∀x c,X.fn x=true->X.env.cells.lookup x=some c->X.gZ.heap.objs.size<=c
 hd:X.calm=true->X.A.handled=none
 frames:X.A.frames=some X.stack
 G2:X.stack=X.outer\/(X.stack=X.env::X.outer/\X.env.frame=some X.env.locals)
 NM:∀b∈X.ex,b≠X.env.locals/\∀x c,X.env.cells.lookup x=some c->c≠b
 bs:∀b o,X.base.get? b=some o->X.gZ.heap.get? b=some o/\X.q9 b=none
 tf:X.base.objs.size<=X.gZ.heap.objs.size
 T8:∀b o,X.base.get? b=some o->b∉X.ex
 Zd:∀b∈X.ex,b∉X.fs
 zN:X.gZ.heap.FunFrames X.base X.outer
 vk:∀b∈X.fs,X.q9 b=none
structure Inv(X:Cx)(pins:BM)(σ:Qge)(H:Hp)(s:Qb):Prop where
 ok:X.Ok
 os:s.os=X.gZ.os
 bare:AllBare s.gens
 base:Un X.fs X.ex X.q9 H X.gZ.heap s.heap
 loc:∃m,s.heap.Ns X.env.locals m/\∀(i:Nat) (x:Str) (v:V),X.N[i]? = some x->σ[i]? = some Qat->yA X.env.scope x->∃u,RelV v u/\Look X.env s.heap m x u
 cell:∀x c,X.env.cells.lookup x=some c->∃v,s.heap.IsCell c v
 free:H X.env.locals=none
 nS:∀x c,X.env.cells.lookup x=some c->H c=none
 pin:∀p∈X.pn++pins,s.heap.get? p.1=some p.2/\H p.1=none/\p.1≠X.env.locals/\p.1∉X.fs/\∀v,p.2.data ≠ .cell v
 fC:xY X.prog X.w H s.heap
 len:σ.length=X.N.length
variable{X:Cx}{pins:BM}{σ:Qge}{s:Qb}
theorem Cx.Ok.avX(ok:X.Ok){o:Obj}(e:X.base.get? b=some o):b∉X.fs:=λa=>by
 have:=(ok.zN.mem a).1;grind
theorem Inv.bs(I:Qz):∀b o,X.base.get? b=some o->s.heap.get? b=some o/\H b=none:=λb o e=>
 ⟨I.base.keep b o (I.ok.bs b o e).1 (I.ok.bs b o e).2 (I.ok.avX e) (I.ok.T8 b o e),I.base.free b o (I.ok.bs b o e).1 (I.ok.bs b o e).2 (I.ok.T8 b o e)⟩
theorem Inv.bk(I:Qz):∀b o,X.base.get? b=some o->s.heap.get? b=some o:=λb o e=>(I.bs b o e).1
theorem Inv.mod(I:Qz):Mod X.K X.mg X.base:=I.ok.mod
theorem Inv.xZ(I:Qz):X.K.In s.heap:=I.ok.mod.vi.keeps I.bk
theorem Inv.nolimit(I:Qz):s.heap.NoLimit:=I.ok.mod.nolimit.keeps I.bk
theorem Inv.lt(I:Qz):X.env.locals<s.heap.objs.size:=let ⟨_,a,_⟩:=I.loc;a.lt
theorem Inv.sz(I:Qz):X.gZ.heap.objs.size<=s.heap.objs.size:=oy I.ok.above (p7 I.lt)
theorem Inv.avY(I:Qz)(h:s.heap.objs.size<=a):a∉X.fs:=λc=>by
 obtain⟨_,o,b,_⟩:=I.ok.zN.mem c;exact absurd (pE (nz b) (oy I.sz h)) (z4 _)
theorem Inv.xw(I:Qz):∀x c,X.env.cells.lookup x=some c->c≠X.env.locals:=λx c e z=>by
 obtain⟨v,o,b,hd⟩:=I.cell x c e;obtain⟨m,⟨o',es,ep,d,a,_⟩,_⟩:=I.loc;grind
theorem Inv.zN(I:Qz):s.heap.FunFrames X.base X.outer:=by
 have all:∀(l:DA),(∀b∈y9 l,b∈X.fs)->X.gZ.heap.FunFrames X.base l->s.heap.FunFrames X.base l:=by
  intro l
  induction l with
  | nil=>intro _ _;trivial
  | cons env r d=>
   intro hs i;obtain⟨j,⟨L,o,hf,h,g,hd⟩,f⟩:=i;have c:=hs L (by unfold y9;rw[rl,hf];exact eU);obtain⟨sl,e⟩:=I.base.slot L o g (I.ok.vk L c) c λz=>I.ok.Zd L z c;exact⟨j,⟨L,_,hf,h,e,hd⟩,d (λb a=>hs b (by unfold y9;rw[rl,hf];exact jk _ a)) f⟩
 exact all _ (λ_ a=>a) I.ok.zN
theorem Inv.stack(I:Qz):s.heap.FunFrames X.base X.stack:=by
 obtain e|⟨e,hf⟩:=I.ok.G2
 .rw[e];exact I.zN
 .rw[e];obtain⟨m,a,_⟩:=I.loc;refine .cons (by rw[I.ok.kind];decide) hf a ?_ I.zN;exact Heap.get?_none_of_le (oy I.ok.tf I.ok.above)
theorem Inv.Mt(I:Qz):∀b∈y9 X.stack,b∈X.env.locals::X.fs:=λb a=>by
 obtain e|⟨e,hf⟩:=I.ok.G2
 .rw[e]at a;exact jk _ a
 .rw[e]at a;unfold y9 at a;rw[rl,hf]at a;exact a
theorem Inv.Fp(I:Qz):∀b∈y9 X.stack,H b=none:=λb a=>by
 obtain e|a:=eu.1 (I.Mt b a)
 .rw[e];exact I.free
 .obtain⟨_,o,c,_⟩:=I.ok.zN.mem a;exact I.base.free b o c (I.ok.vk b a) λz=>I.ok.Zd b z a
variable{t':Nat}
theorem Inv.step{g':Array GenState}{d':Drawn}{ch:BN}(I:Qz)
  (g:∀b∈ch,QgE/\b≠X.env.locals/\(∀x c,X.env.cells.lookup x=some c->c≠b)/\∀p∈X.pn++pins,p.1≠b)
  (keep:∀b o,b≠X.env.locals->b∉X.fs->b∉ch->s.heap.get? b=some o->H b=none->h'.get? b=some o)
  (slot:∀b o,b≠X.env.locals->b∈X.fs->b∉ch->s.heap.get? b=some o->H b=none->∃sl,h'.get? b=some {o with slots:=sl}) (free:∀b o,b∉ch->s.heap.get? b=some o->H b=none->H' b=none)
  (there:∀b o,b∉ch->s.heap.get? b=some o->∃o',h'.get? b=some o')
  (zL:∀b xs,H b=some Qbi->H' b=some Qbi) (fO:∀b o u,H b=some (.gM o u)->H' b=some (.gM o u)) (zM:∀b ps,H b=some (.tbl ps)->∃more,H' b=some (.tbl (ps++more)))
  (ns:∀m,s.heap.Ns X.env.locals m->h'.Ns X.env.locals m) (fC:xY X.prog X.w H' h') (G:AllBare g') :
  Inv X pins σ H' {s with heap:=h',gens:=g',drawn:=d',toks:=t'}:=by
 have y:∀b o,X.gZ.heap.get? b=some o->b≠X.env.locals:=λb o e=>oI Qhm;have h:∀b o,X.gZ.heap.get? b=some o->b∉X.ex->b∉ch:=λb o e a j=>by
  rcases(g b j).1 with z|z
  .exact a z
  .exact absurd (pE (nz e) z) (z4 _)
 have cellK:∀x c,X.env.cells.lookup x=some c->∀v,s.heap.IsCell c v->h'.IsCell c v:=λx c e v ⟨o,t,hd⟩=>by
  have f:c∉ch:=λz=>(g c z).2.2.1 x c e rfl;by_cases D:c∈X.fs
  .obtain⟨sl,q⟩:=slot c o (I.xw x c e) D f t (I.nS x c e);exact⟨_,q,hd⟩
  .exact⟨o,keep c o (I.xw x c e) D f t (I.nS x c e),hd⟩
 refine⟨I.ok,I.os,G,⟨λb o e n j a=>?_,λb o e n j a=>?_,λb o e n a=>?_,λb o e a=>?_,λb xs e=>zL b xs (I.base.zL b xs e),λb o xs e=>fO b o xs (I.base.fO b o xs e),λb ps e=>?_⟩,?_,λx c e=>?_,?_,λx c e=>?_,λp C=>?_,fC,I.len⟩
 .exact keep b o (y b o e) j (h b o e a) (I.base.keep b o e n j a) Qjs
 .obtain⟨sl,e1⟩:=I.base.slot b o e n j a;obtain⟨A,e2⟩:=slot b _ (y b o e) j (h b o e a) e1 Qjs;exact⟨A,e2⟩
 .obtain⟨o',e1⟩:=I.base.there b o e a;exact free b o' (h b o e a) e1 Qjs
 .obtain⟨o',e1⟩:=I.base.there b o e a;exact there b o' (h b o e a) e1
 .obtain⟨m1,e1⟩:=I.base.zM b ps e;obtain⟨m2,e2⟩:=zM b _ e1;exact⟨m1++m2,by rw[e2,Array.append_assoc]⟩
 .obtain⟨m,E,F⟩:=I.loc;refine⟨m,ns m E,λi x v e1 e2 J=>?_⟩;obtain⟨u,r,l⟩:=F i x v e1 e2 J;refine⟨u,r,?_⟩;obtain l|⟨k,c,e,z⟩:=l
  .exact .inl l
  .exact .inr ⟨k,c,e,cellK x c e _ z⟩
 .obtain⟨v,z⟩:=I.cell x c e;exact⟨v,cellK x c e v z⟩
 .obtain⟨m,⟨o,_,_,t,_⟩,_⟩:=I.loc;exact free _ o (λz=>(g _ z).2.1 rfl) t I.free
 .obtain⟨v,o,t,hd⟩:=I.cell x c e;exact free c o (λz=>(g c z).2.2.1 x c e rfl) t (I.nS x c e)
 .obtain⟨e,n,ne,B,d⟩:=I.pin p C;have f:p.1∉ch:=λz=>(g p.1 z).2.2.2 p C rfl;exact⟨keep p.1 p.2 ne B f e n,free p.1 p.2 f e n,ne,B,d⟩
theorem Inv.un(I:Qz)(u:Un X.fs [] H H' s.heap h')(fC:xY X.prog X.w H' h'):Inv X pins σ H' {s with heap:=h',toks:=t'}:=by
 obtain⟨m,⟨o,es,ep,f,r⟩,_⟩:=id I.loc;obtain⟨sl,i⟩:=u.any f I.free WA;exact I.step (ch:=[]) (λ_ z=>nomatch z) (λb o _ a _ e n=>u.keep b o e n a WA) (λb o _ a _ e n=>u.slot b o e n a WA) (λb o _ e n=>u.free b o e n WA) (λb o _ e=>u.there b o e WA) u.zL u.fO u.zM (λj hm=>by
  obtain⟨o',c,d,g,h⟩:=hm;rw[f]at g;cases g;exact⟨_,c,d,i,h⟩) fC I.bare
theorem Inv.call{g':Array GenState}{d':Drawn}{ch:BN}(I:Qz)(u:Un Qb0 ch H H' s.heap h')(fC:xY X.prog X.w H' h')(l:AllBare g')
  (d:∀b∈ch,QgE/\b≠X.env.locals/\(∀x c,X.env.cells.lookup x=some c->c≠b)/\∀p∈X.pn++pins,p.1≠b) :
  Inv X pins σ H' {s with heap:=h',gens:=g',drawn:=d',toks:=t'}:=by
 obtain⟨m,⟨o,es,ep,i,r⟩,_⟩:=id I.loc;obtain⟨sl,f⟩:=u.any i I.free λz=>(d _ z).2.1 rfl;exact I.step d (λb o f q a e n=>u.keep b o e n (λz=>(eu.1 (I.Mt b z)).elim f q) a) (λb o _ _ a e n=>u.any e n a) (λb o a e n=>u.free b o e n a) (λb o a e=>u.there b o e a) u.zL u.fO u.zM (λt hm=>by
  obtain⟨o',g,h,j,k⟩:=hm;rw[i]at j;cases j;exact⟨_,g,h,f,k⟩) fC l
theorem Inv.turned{it:Addr}(I:Qz)(k:∀b o,b≠it->s.heap.get? b=some o->h'.get? b=some o)(j:H it=none)(f:it≠X.env.locals)
  (h1:it∈X.ex\/X.gZ.heap.objs.size<=it) (h2:∀x c,X.env.cells.lookup x=some c->c≠it) (i:∀p∈X.pn++pins,p.1≠it):Inv X pins σ H {s with heap:=h',toks:=t'}:=by
 have d:∀b u,H b=some u->b≠it:=λb u e z=>by grind
 refine I.step (ch:=[it]) (λb h=>?_) (λb o _ _ a e _=>k b o (λz=>a (by simp[z])) e) (λb o _ _ a e _=>⟨ _,k b o (λz=>a (by simp[z])) e⟩) (λ_ _ _ _ n=>n)
  (λb o a e=>⟨o,k b o (λz=>a (by simp[z])) e⟩) (λ_ _ e=>e) (λ_ _ _ e=>e) (λb ps e=>⟨#[],‹_› ⟩) (λm hm=>?_) (λb u e=>?_) I.bare
 .have e:=by simpa using h
  subst e;exact⟨h1,f,h2,i⟩
 .obtain⟨o,es,ep,g,r⟩:=hm;exact⟨o,es,ep,k _ o (qs f) g,r⟩
 .refine(I.fC b u e).AH (λc v a q=>k c v ?_ q) Qdc λ_ _ q=>q;obtain z|z:=a
  .rw[z];exact d b u e
  .exact d c _ z
theorem Inv.tok(I:Qz)(t:Nat):Inv X pins σ H {s with toks:=t}:=I.un Un.refl I.fC
theorem Inv.kept(I:Qz)(k:∀b u,s.heap.get? b=some u->h'.get? b=some u):Inv X pins σ H {s with heap:=h',toks:=t'}:=I.un (Un.kept k) (I.fC.kept k)
theorem Inv.laid(I:Qz)(k:∀b u,s.heap.get? b=some u->h'.get? b=some u)(c:s.heap.objs.size<=a)(new:gQ X.prog X.w Qbs h' a o) :
  Inv X pins σ (upd H a o) {s with heap:=h',toks:=t'}:=I.un (Un.laid k c (I.fC.fresh c)) (I.fC.laid k c new)
theorem Inv.write(I:Qz)(c:Nm (H x))(he:e=x\/H e=some Qea)(k:∀b u,b≠e->s.heap.get? b=some u->h'.get? b=some u)(a:∃u,h'.get? e=some u)
  (new:gQ X.prog X.w (upd H x o) h' x o):Inv X pins σ (upd H x o) {s with heap:=h',toks:=t'}:=I.un (Un.write c he k a) (I.fC.write c he k a new)
theorem Inv.x6{a:BM}(I:Qz)(h:∀p∈a,s.heap.get? p.1=some p.2/\H p.1=none/\p.1≠X.env.locals/\p.1∉X.fs/\∀v,p.2.data ≠ .cell v):Inv X a σ H s:=
 ⟨I.ok,I.os,I.bare,I.base,I.loc,I.cell,I.free,I.nS,λp b=>(f9.1 b).elim (λz=>I.pin p (nv _ z)) (h p),I.fC,I.len⟩
variable{i:Nat}
def Gh{N:At}(c:N.Nodup){j:Nat}{x:Str}(a:N[i]? = some x)(b:N[j]? = some x):i=j:=by
 obtain⟨h1,e1⟩:=pd.1 a;obtain⟨h2,e2⟩:=pd.1 b;exact(List.getElem_inj c).1 (e1.trans e2.symm)
variable{M:Model}{A:Qal}{E:BS}{v:V}{u:Value}{Q:Qfz}
abbrev _root_.ES:=List Keyword
abbrev _root_.AB(X:Cx)(p:Pos)(e:Expr):Prop:=((backTo p QjX).all QfZ&&(backToKw p Qff).all QfA&&decide ([e].length+([]:ES).length+Qfi<30))=true
abbrev _root_.Cc:=List Expr
abbrev _root_.AC(X:Cx)(e:Expr)(es:Cc):Prop:=starEach Qab X.env=(false,eval e X.env)::starEach es X.env
abbrev _root_.AD(x:Str):Prop:=Qhk=false
abbrev _root_.AE(x:Str):Prop:=(x==("__classdict__":Str))=false
abbrev _root_.AL(X:Cx)(p:Pos)(es:Cc):Prop:=(backTo p (starEach es X.env)).any (·.1)=false
abbrev _root_.AM(X:Cx)(y:Str):Prop:=X.fn y=true\/X.env.scope.names.lookup y=some .local
abbrev _root_.AN(X:Cx)(e:Expr):Prop:=∀x,foldedSetIterable e X.env x=pure x
abbrev _root_.AR(X:Cx)(e d:Expr):Prop:=starEach [e,d] X.env=[(false,eval e X.env),(false,eval d X.env)]
abbrev _root_.AS(X:Cx)(e:Expr)(f:Str):Prop:=attributeBase e f X.env QeN=eval e X.env
def Zf{x:Str}(I:Qz)(hN:Qa9)(hi:X.N[i]? = some x)(g:Qc3)(r:QbT)
  (h:∀s',Inv X pins (σ.set i Qat) H s'->(∃a,Heap.SameBut a s.heap s'.heap/\(a=X.env.locals\/X.env.cells.lookup x=some a))->Q () s') (hf:AM X x:=by first|exact .inl rfl|exact .inr rfl|assumption):wpAny M A (storeName X.env x u) Q E s:=by
 obtain⟨m,V,hl⟩:=id I.loc;have Z:(X.env.scope.kind == .class || (X.env.scope.kind == .module&&X.env.locals != X.env.globals))=false:=by rw[I.ok.kind];rfl
 have t:i<σ.length:=by rw[I.len];exact(pd.1 hi).1
 have xw:=I.xw;have tracked:∀{a:Addr} {h':Heap},(∃o,s.heap.get? a=some o/\H a=none)->Heap.SameBut a s.heap h'->xY X.prog X.w H h':=λ{a h'} ha hs b ob e=>by
  obtain⟨_,_,QI⟩:=ha;refine(I.fC b ob e).AH (λc K f q=>(hs.2 c ?_).trans q) Qdc λ_ _ q=>q;rintro rfl;obtain rfl|f:=f
  .rw[QI]at e;cases e
  .rw[QI]at f;cases f
 obtain l|l:=g
 .refine wpAny_storeName_local l V (λh' U hs=>?_) Z;obtain⟨oL,_,_,T,_⟩:=id V;refine h _ ⟨I.ok,I.os,I.bare,⟨λb o e n D g=>?_,λb o e n D g=>?_,I.base.free,λb o e g=>?_,I.base.zL,I.base.fO,I.base.zM⟩,⟨_,U,λj y v' e1 e2 W=>?_⟩,λy c e=>?_,I.free,I.nS,λp S=>?_,tracked ⟨oL,T,I.free⟩ hs,by simpa using I.len⟩ ⟨_,hs,.inl rfl⟩
  .exact(hs.2 b (oI Qhm)).trans (I.base.keep b o e n D g)
  .obtain⟨sl,e1⟩:=I.base.slot b o e n D g;exact⟨sl,(hs.2 b (oI Qhm)).trans e1⟩
  .obtain⟨o',e1⟩:=I.base.there b o e g;exact⟨o',(hs.2 b (oI Qhm)).trans e1⟩
  .by_cases B:j=i
   .subst B;rw[hi]at e1;cases e1;rw[Fs t]at e2;cases e2;exact⟨u,r,.inl ⟨l,WA⟩⟩
   .rw[JP (qs B)]at e2;obtain⟨O,P,q⟩:=hl j y v' e1 e2 W;refine⟨O,P,?_⟩;obtain⟨k,e⟩|⟨k,c,e,z⟩:=q
    .refine .inl ⟨k,?_⟩;have:y≠x:=λe=>B (Gh hN e1 (e▸hi));simp[this,e]
    .exact .inr ⟨k,c,e,z.sameBut hs (xw y c e)⟩
  .obtain⟨K,z⟩:=I.cell y c e;exact⟨K,z.sameBut hs (xw y c e)⟩
  .obtain⟨e,n,ne,R,d⟩:=I.pin p S;exact⟨(hs.2 p.1 ne).trans e,n,ne,R,d⟩
 .have C:X.fn x=true:=by
   obtain z|z:=hf
   .exact z
   .rw[z]at l;cases l
  obtain⟨c,f⟩:=I.ok.has x (.inl l);obtain⟨K,z⟩:=I.cell x c f;refine wpAny_storeName_cell I.ok.kind l f z (λh' J hs=>?_);obtain⟨oc,F,Y⟩:=id z;refine h {s with heap:=h'} ⟨I.ok,I.os,I.bare,⟨λb o e n D g=>?_,λb o e n D g=>?_,I.base.free,λb o e g=>?_,I.base.zL,I.base.fO,I.base.zM⟩,⟨m,V.sameBut hs (Ne.symm (xw x c f)),λj y v' e1 e2 W=>?_⟩,λy L e=>?_,I.free,I.nS,λp S=>?_,tracked ⟨oc,F,I.nS x c f⟩ hs,by simpa using I.len⟩ ⟨c,hs,.inr f⟩
  .exact(hs.2 b QiO).trans (I.base.keep b o e n D g)
  .obtain⟨sl,e1⟩:=I.base.slot b o e n D g;exact⟨sl,(hs.2 b QiO).trans e1⟩
  .obtain⟨o',e1⟩:=I.base.there b o e g;exact⟨o',(hs.2 b QiO).trans e1⟩
  .by_cases B:j=i
   .subst B;rw[hi]at e1;cases e1;rw[Fs t]at e2;cases e2;exact⟨u,r,.inr ⟨.inl l,c,f,J⟩⟩
   .rw[JP (qs B)]at e2;obtain⟨O,P,q⟩:=hl j y v' e1 e2 W;refine⟨O,P,?_⟩;obtain q|⟨k,L,e,z'⟩:=q
    .exact .inl q
    .refine .inr ⟨k,L,e,z'.sameBut hs ?_⟩;rintro rfl;exact B (Gh hN e1 (I.ok.inj _ _ _ e f▸hi))
  .by_cases G:L=c
   .subst G;exact⟨_,J⟩
   .obtain⟨w2,z2⟩:=I.cell y L e;exact⟨w2,z2.sameBut hs G⟩
  .obtain⟨e,n,ne,R,d⟩:=I.pin p S;refine⟨(hs.2 p.1 ?_).trans e,n,ne,R,d⟩;intro q;rw[q,F]at e;have q':oc=p.2:=o7 e;exact d K (by rw[← q'];exact Y)
def AI{x:Str}(I:Qz)(b:Qa9)(hi:X.N[i]? = some x)(a:Qc3)(r:QbT)
  (h:∀s',Inv X pins (σ.set i Qat) H s'->Q () s') (hf:AM X x:=by first|exact .inl rfl|exact .inr rfl|assumption):wpAny M A (storeName X.env x u) Q E s:=
 Zf I b hi a r (λs' c _=>h s' c) hf
theorem Inv.arJ{s':Qb}{ch:BN}(I:Qz)(d:s'.os=s.os)(u:Un Qb0 ch H H' s.heap s'.heap)(fC:xY X.prog X.w H' s'.heap)(f:AllBare s'.gens)
  (a:∀b∈ch,QgE/\b≠X.env.locals/\(∀x c,X.env.cells.lookup x=some c->c≠b)/\∀p∈X.pn++pins,p.1≠b):Inv X pins σ H' s':=by
 obtain⟨h',g',d',t',o'⟩:=s';have e:=d;subst e;exact I.call u fC f a
abbrev _root_.Da:=Option Addr
abbrev XK:=Value->Da->Hp->Prop
abbrev St:=List (Option V)
abbrev VK:=V->Hp->Prop
abbrev TE:=St->Hp->VK->Prop
abbrev _root_.EN:=Bool->Hp->Prop
abbrev TT:=St->Hp->EN->Prop
abbrev _root_.EQ:=BY->Hp->Prop
abbrev TA:=St->Hp->EQ->Prop
structure Ends where
 nx:St->Hp->Prop
 rt:VK
 bk:St->Hp->Prop:=λ_ _=>False
 ct:St->Hp->Prop:=λ_ _=>False
abbrev TS:=Ends->St->Hp->Prop
def EP(X:Cx)(pins:BM)(σ:St)(Q:VK)(u:Value)(s':Qb):Prop:=∃v H',Inv X pins σ H' s'/\RelV v u/\Q v H'
def TP(X:Cx)(pins:BM)(σ:St)(Q:EN)(b:Bool)(s':Qb):Prop:=∃H',Inv X pins σ H' s'/\Q b H'
def AP(X:Cx)(pins:BM)(σ:St)(Q:EQ)(us:B2)(s':Qb):Prop:=∃vs H',Inv X pins σ H' s'/\Vals vs us/\Q vs H'
def SP(X:Cx)(pins:BM)(D:Ends)(f:Flow)(s':Qb):Prop:=
 match f with
 | .next=>∃σ' H',Inv X pins σ' H' s'/\D.nx σ' H'
 | .brk=>∃σ' H',Inv X pins σ' H' s'/\D.bk σ' H'
 | .cont=>∃σ' H',Inv X pins σ' H' s'/\D.ct σ' H'
 | .ret u=>∃v σ' H',Inv X pins σ' H' s'/\RelV v u/\D.rt v H'
def PE(X:Cx)(e:Expr)(t:TE):Prop:=
 ∀(pins:BM) (s:Qb) (σ:St) (H:Hp) (Q:VK),Inv X pins σ H s->t σ H Q->wpAny Qr X.A QeN Qa1 X.xe s
def PT(X:Cx)(e:Expr)(t:TT):Prop:=
 ∀(pins:BM) (s:Qb) (σ:St) (H:Hp) (Q:EN),Inv X pins σ H s->t σ H Q->wpAny Qr X.A (isTrue e X.env QeN) QeG X.xe s
def PW(X:Cx)(e:Expr)(t:TT):Prop:=
 ∀(whole:Sem Value) (pins:BM) (s:Qb) (σ:St) (H:Hp) (Q:EN),Inv X pins σ H s->t σ H Q->wpAny Qr X.A (isTrue e X.env whole) QeG X.xe s
def PA(X:Cx)(es:Cc)(t:TA):Prop:=
 ∀(pos:Pos) (pins:BM) (s:Qb) (σ:St) (H:Hp) (Q:EQ),Inv X pins σ H s->t σ H Q->wpAny Qr X.A Qk6 (AP X pins σ Q) X.xe s
def PS(X:Cx)(st:Stmt)(t:TS):Prop:=
 ∀(pins:BM) (s:Qb) (σ:St) (H:Hp) (D:Ends),Inv X pins σ H s->t D σ H->wpAny Qr X.A (exec st X.env) (SP X pins D) X.xe s
abbrev _root_.CS:=List Stmt
def T9(X:Cx)(st:CS)(t:TS):Prop:=
 ∀(pins:BM) (s:Qb) (σ:St) (H:Hp) (D:Ends),Inv X pins σ H s->t D σ H->wpAny Qr X.A (execs st X.env) (SP X pins D) X.xe s
noncomputable def fX{α:Type}{t:Sem α}{Q b:α->Shared->Prop}(h:wpAny M A t Q E s)(hQ:∀a s,Q a s->b a s):wpAny M A t b E s:=o3 h hQ λ_ _ x=>x
section
noncomputable def av2(i:Nat):TE:=λσ H Q=>∃v,σ[i]? = some Qat/\Q v H
def tC(v:V):TE:=λ_ H Q=>Q v H
def lq{x:Str}{pos:Pos}(j:X.N[i]? = some x)(hv:yA X.env.scope x)(hd:AD x:=by decide)(kL:AE x:=by decide):PE X Qan (av2 i):=by
 intro pins s σ H Q I h;obtain⟨v,e,h⟩:=h;obtain⟨m,f,g⟩:=I.loc;obtain⟨u,r,l⟩:=g i x v j e hv;have fin:EP X pins σ Q u s:=⟨v,H,I,r,h⟩;obtain⟨a,hm⟩|⟨a,c,d,b⟩:=l
 .exact wpAny_Name (wpAny_loadName_local I.ok.kind a f hm fin) hd
 .obtain a|a:=a
  .exact wpAny_Name (wpAny_loadName_cell I.ok.kind a d b fin) hd
  .exact wpAny_Name (wpAny_loadName_free I.ok.kind a d b fin kL) hd
noncomputable def acV{i j pos}:PE X Qjn (tC QaL):=λ_ _ _ H _ I h=>wpAny_Constant_int ⟨.int i,H,I.tok _,⟨_,rfl⟩,h⟩
noncomputable def alK{b j pos}:PE X (.Constant (.bool b) j pos) (tC (.bl b)):=λ_ _ _ H _ I h=>Constant_bool ⟨.bl b,H,I,rfl,h⟩
noncomputable def amU{x j pos}:PE X QjN (tC Qbj):=λ_ _ _ H _ I h=>Calls.Constant_str ⟨.str x,H,I.tok _,⟨_,rfl⟩,h⟩
def Gl(X:Cx)(x:Str):Prop:=X.env.kindOf x=some .globalImplicit
def ud{σ:St}{x:Str}{pos:Pos}{Q:BS}(I:Qz)(a:Q3)(hm:X.mg x=some u)(h:Q u s)
  (hd:AD x:=by decide):wpAny Qr X.A (eval Qan X.env) Q E s:=
 Calls.Name_function_global I.ok.kind a (Calls.loadGlobal_global (I.ok.glob▸I.mod.glob.keeps I.bk) hm h) hd
def qp{σ:St}{x:Str}{pos:Pos}{Q:BS}(I:Qz)(b:Q3)(hm:X.mg x=none)(hv:bootBuiltins x=some u)(h:Q u s)
  (a:QfM:=by decide) (hd:AD x:=by decide):wpAny Qr X.A (eval Qan X.env) Q E s:=by
 obtain⟨mb,h1,h2⟩:=I.mod.blt;exact Calls.Name_function_global I.ok.kind b (Calls.loadGlobal_builtin (I.ok.glob▸I.mod.glob.keeps I.bk) hm (I.ok.blt▸h1.keeps I.bk) ((h2 x a).trans hv) h) hd
def Ft{x:Str}{pos:Pos}(a:Q3)(hm:X.mg x=some u)(r:QbT)(hd:AD x:=by decide):PE X Qan (tC v):=
 λ_ _ _ H _ I h=>ud I a hm ⟨v,H,I,r,h⟩ hd
def Xe{x:Str}{pos:Pos}(b:Q3)(hm:X.mg x=none)(hv:bootBuiltins x=some u)(r:QbT)(a:QfM:=by decide)(hd:AD x:=by decide):PE X Qan (tC v):=
 λ_ _ _ H _ I h=>qp I b hm hv ⟨v,H,I,r,h⟩ a hd
variable{a b:Expr}{ta tb:TE}{pos:Pos}
noncomputable def tB(t:TE):TT:=λσ H Q=>t σ H λx H1=>∃c,x=.bl c/\Q c H1
def amV{e:Expr}{t:TE}(h:PE X e t)(he:∀whole,isTrue e X.env whole=(do let v ← whole;standAt e.pos;holding [v] (truthy v)):=by intro _;rfl):PT X e (tB t):=by
 intro pins s σ H Q I hw;refine isTrue_plain (fX (h pins s σ H _ I hw) λv s1 zz=>?_) (he _);obtain⟨x,H1,c,a,b⟩:=zz;obtain⟨d,rfl,q⟩:=b;cases a;exact IP ⟨H1,c,q⟩
variable{tA tB':TT}{rest:Cc}
noncomputable def av3(t u:TT):TT:=λσ H Q=>t σ H λc H1=>if c=true then u σ H1 Q else Q false H1
noncomputable def tOr(t u:TT):TT:=λσ H Q=>t σ H λc H1=>if c=true then Q true H1 else u σ H1 Q
noncomputable def av4(t:TT):TT:=λσ H Q=>t σ H λc H1=>Q (!c) H1
theorem Xf(b:PT X a tA):PW X (.BoolOp .And [a] pos) tA:=by
 intro d pins s σ H Q I h;refine isTrue_and (fX (b pins s σ H Q I h) λc s1 e=>?_);cases c with
 | true=>exact isTrue_and_nil e
 | false=>exact e
theorem acW(b:PT X a tA):PW X (.BoolOp .Or [a] pos) tA:=by
 intro d pins s σ H Q I h;refine isTrue_or (fX (b pins s σ H Q I h) λc s1 e=>?_);cases c with
 | false=>exact isTrue_or_nil e
 | true=>exact e
theorem acX(i:PT X a tA)(g:PW X (.BoolOp .And (b::rest) pos) tB'):PW X (.BoolOp .And (a::b::rest) pos) (av3 tA tB'):=by
 intro f pins s σ H Q I h;refine isTrue_and (fX QdG λc s1 zz=>?_);obtain⟨H1,e,d⟩:=zz;cases c with
 | true=>exact g f pins s1 σ H1 Q e d
 | false=>exact⟨H1,e,d⟩
theorem TU(i:PT X a tA)(g:PW X (.BoolOp .Or (b::rest) pos) tB'):PW X (.BoolOp .Or (a::b::rest) pos) (tOr tA tB'):=by
 intro f pins s σ H Q I h;refine isTrue_or (fX QdG λc s1 zz=>?_);obtain⟨H1,e,d⟩:=zz;cases c with
 | true=>exact⟨H1,e,d⟩
 | false=>exact g f pins s1 σ H1 Q e d
noncomputable def amW(b:PT X a tA):PT X (.UnaryOp .Not a pos) (av4 tA):=λpins s σ H Q I h=>isTrue_not (b pins s σ H _ I h)
noncomputable def arK(ta tb:TE):TE:=λσ H Q=>ta σ H λx H1=>∃c,x=.bl c/\if c=true then tb σ H1 Q else Q (.bl false) H1
noncomputable def av5(ta tb:TE):TE:=λσ H Q=>ta σ H λx H1=>∃c,x=.bl c/\if c=true then Q Qbh H1 else tb σ H1 Q
noncomputable def amX{op}{t:TE}(h:PE X a t):PE X (.BoolOp op [a] pos) t:=λpins s σ H Q I hw=>BoolOp_one (h pins s σ H Q I hw)
theorem amY(i:Qcb)(g:PE X (.BoolOp .And (b::rest) pos) tb):PE X (.BoolOp .And (a::b::rest) pos) (arK ta tb):=by
 intro pins s σ H Q I h;refine BoolOp_and (fX QdG λv s1 zz=>?_);obtain⟨x,H1,e,f,d⟩:=zz;obtain⟨c,rfl,d⟩:=d;cases f;refine IP ?_;cases c with
 | true=>exact g pins s1 σ H1 Q e d
 | false=>exact⟨.bl _,H1,e,rfl,d⟩
theorem arL(i:Qcb)(g:PE X (.BoolOp .Or (b::rest) pos) tb):PE X (.BoolOp .Or (a::b::rest) pos) (av5 ta tb):=by
 intro pins s σ H Q I h;refine BoolOp_or (fX QdG λv s1 zz=>?_);obtain⟨x,H1,e,f,d⟩:=zz;obtain⟨c,rfl,d⟩:=d;cases f;refine IP ?_;cases c with
 | false=>exact g pins s1 σ H1 Q e d
 | true=>exact⟨.bl true,H1,e,rfl,d⟩
noncomputable def tIf(t:TT)(ta tb:TE):TE:=λσ H Q=>t σ H λc H1=>if c=true then ta σ H1 Q else tb σ H1 Q
theorem acZ{c:Expr}(g:PT X c tA)(j:Qcb)(i:PE X b tb):PE X (.IfExp c a b pos) (tIf tA ta tb):=by
 intro pins s σ H Q I h;refine wpAny_IfExp (fX Qfx λd s1 zz=>?_);obtain⟨H1,f,e⟩:=zz;cases d with
 | true=>exact j pins s1 σ H1 Q f e
 | false=>exact i pins s1 σ H1 Q f e
end
def oG(K:Frag)(H:Hp)(a:Addr)(xs:BY):Prop:=
 Rd H a QaO ∨
  ∃(o:Obj) (its:CO) (n:Nat),K.lookup a=some o/\o.cls=.type "list" /\ o.dict=none/\o.data=.seq its n/\its.size<=sizeLine/\Vals xs its.toList
def AG(K:Frag)(H:Hp)(a:Addr)(xs:BY):Prop:=
 Rd H a Qbi ∨
  ∃(o:Obj) (its:CO) (n:Nat),K.lookup a=some o/\o.cls=.type "tuple" /\ o.data=.seq its n/\its.size<=sizeLine/\Vals xs its.toList
noncomputable def av6:Value->Option V
 | .none=>some .non
 | .bool b=>some (.bl b)
 | .int i _=>some QaL
 | .str x _ => some Qbj
 | .bytes b _=>some (.Xc b)
 | .float b _=>some (.flt b)
 | .ref a=>some Qaj
 | .type n=>some (.ty n)
 | _=>none
theorem RelV.abs{x:V}(r:RelV x u):av6 u=some x:=by
 cases x with
 | non=>cases r;rfl
 | bl _=>cases r;rfl
 | int _=>obtain⟨t,rfl⟩:=r;rfl
 | str _=>obtain⟨t,rfl⟩:=r;rfl
 | Xc _=>obtain⟨t,rfl⟩:=r;rfl
 | flt _=>obtain⟨t,rfl⟩:=r;rfl
 | ref _=>cases r;rfl
 | ty _=>cases r;rfl
theorem RelV.inj{x y:V}(r:RelV x u)(q:QcI):x=y:=o7 (r.abs.symm.trans q.abs)
theorem Vals.inj{ys:BY}(h:QcA)(q:Vals ys us):xs=ys:=by
 induction h generalizing ys with
 | nil=>cases q;rfl
 | cons r _ i=>cases q with
  | cons a t'=>rw[r.inj a,i t']
variable{σ:St}{ys:BY}{K:Frag}
theorem oG.of(h:H a=some QaO):oG K H a xs:=.inl (.inl h)
theorem AG.of(h:H a=some Qbi):AG K H a xs:=.inl (.inl h)
theorem Inv.list(I:Qz)(h:oG X.K H a xs):∃its:B2,Vals xs its/\PlainL s.heap a its.toArray/\xs.length<=sizeLine:=by
 obtain h|⟨o,its,n,b,c,hd,hs,hz,r⟩:=h
 .obtain⟨z,its,n,r,e⟩:=h.ok I.fC;exact⟨its,r,⟨_,n,e,rfl,rfl,rfl⟩,z⟩
 .refine⟨ _,r,⟨o,n,I.xZ a o b,c,hd,‹_› ⟩,?_⟩;have e:=r.length;grind
theorem Inv.tuple(I:Qz)(h:AG X.K H a xs):∃its:B2,Vals xs its/\IsTup s.heap a its.toArray/\xs.length<=sizeLine:=by
 obtain h|⟨o,its,n,b,c,hs,hz,r⟩:=h
 .obtain⟨z,its,r,p⟩:=h.ok I.fC;exact⟨its,r,p,z⟩
 .refine⟨ _,r,⟨o,I.xZ a o b,c,n,‹_› ⟩,?_⟩;have e:=r.length;grind
theorem Inv.Gi(I:Qz)(h:oG X.K H a xs)(h':oG X.K H a ys):xs=ys:=by
 obtain⟨its,r,⟨o,n,e,_,_,d⟩,_⟩:=I.list h;obtain⟨f,c,⟨o',g,b,_,_,d'⟩,_⟩:=I.list h';rw[e]at b;cases b;rw[d]at d';injection d' with d1 _;have:its=f:=by simp_all
 subst this;exact r.inj c
theorem Inv.Zg(I:Qz)(h:AG X.K H a xs)(h':AG X.K H a ys):xs=ys:=by
 obtain⟨its,r,⟨o,e,_,n,d⟩,_⟩:=I.tuple h;obtain⟨f,c,⟨o',b,_,g,d'⟩,_⟩:=I.tuple h';rw[e]at b;cases b;rw[d]at d';injection d' with d1 _;have:its=f:=by simp_all
 subst this;exact r.inj c
abbrev Cx.nt(X:Cx)(E:BS):Cx:={X with xe:=E}
abbrev Cx.Mu(X:Cx):Cx:=X.nt λ_ _=>False
theorem Cx.Ok.nt(ok:X.Ok)(E:BS):(X.nt E).Ok:=
 ⟨ok.mod,ok.kind,ok.glob,ok.blt,ok.above,ok.inj,ok.has,ok.z3,ok.hd,ok.frames,ok.G2,ok.NM,ok.bs,ok.tf,ok.T8,ok.Zd,ok.zN,ok.vk⟩
theorem Cx.Ok.oH(ok:(X.nt E).Ok):X.Ok:=
 ⟨ok.mod,ok.kind,ok.glob,ok.blt,ok.above,ok.inj,ok.has,ok.z3,ok.hd,ok.frames,ok.G2,ok.NM,ok.bs,ok.tf,ok.T8,ok.Zd,ok.zN,ok.vk⟩
theorem Inv.nt(I:Qz)(E:BS):Inv (X.nt E) pins σ H s:=⟨I.ok.nt E,I.os,I.bare,I.base,I.loc,I.cell,I.free,I.nS,I.pin,I.fC,I.len⟩
theorem Inv.oH(I:Inv (X.nt E) pins σ H s):Inv X pins σ H s:=⟨I.ok.oH,I.os,I.bare,I.base,I.loc,I.cell,I.free,I.nS,I.pin,I.fC,I.len⟩
theorem SP.oH{D:Ends}{f:Flow}{s':Qb}(h:SP (X.nt E) pins D f s'):SP X pins D f s':=by
 cases f with
 | next=>obtain⟨σ',H',I,q⟩:=h;exact⟨σ',H',I.oH,q⟩
 | brk=>obtain⟨σ',H',I,q⟩:=h;exact⟨σ',H',I.oH,q⟩
 | cont=>obtain⟨σ',H',I,q⟩:=h;exact⟨σ',H',I.oH,q⟩
 | ret u=>obtain⟨v,σ',H',I,r,q⟩:=h;exact⟨v,σ',H',I.oH,r,q⟩
theorem T9.Mu{st:CS}{t:TS}(h:T9 X.Mu st t):T9 X st t:=λpins s σ H D I hw=>
 o3 (h pins s σ H D (I.nt _) hw) (λ_ _ q=>q.oH) λ_ _ z=>False.elim z
section
variable{st:Stmt}{rest:CS}{t u:TS}{e:Expr}{te:TE}{pos:Pos}
def arM:TS:=λD σ H=>D.nx σ H
def av7(t u:TS):TS:=λD σ H=>t {D with nx:=u D} σ H
noncomputable def ah0:T9 X [] arM:=λ_ _ σ H _ I h=>wpAny_execs_nil ⟨σ,H,I,h⟩
theorem Gj(h1:PS X st t)(h2:T9 X rest u):T9 X (st::rest) (av7 t u):=by
 intro pins s σ H D I h;refine wpAny_execs_cons (fX (h1 pins s σ H _ I h) λf s1 q=>?_);cases f with
 | next=>
  obtain⟨σ',H',a,q⟩:=q;exact h2 pins s1 σ' H' D a q
 | ret v=>exact q
 | brk=>exact q
 | cont=>exact q
def amZ:TS:=λD σ H=>D.bk σ H
def arN:TS:=λD σ H=>D.ct σ H
noncomputable def ac0:PS X (.Break pos) amZ:=λ_ _ σ H _ I h=>wpAny_Break ⟨σ,H,I,h⟩
noncomputable def QJ:PS X (.Continue pos) arN:=λ_ _ σ H _ I h=>wpAny_Continue ⟨σ,H,I,h⟩
theorem Inv.quiet(I:Qz):interactive X.env=false:=by simp[interactive,I.ok.kind]
noncomputable def arO(te:TE):TS:=λD σ H=>te σ H λ_ H1=>D.nx σ H1
def x8(he:QbU)(hs:QgA:=by rfl):PS X (.Expr e pos) (arO te):=λpins s σ H D I h=>wpAny_Expr_any (fX QbL λv s1 ⟨x,H1,b,c,a⟩=>⟨σ,H1,b,a⟩) I.quiet hs
noncomputable def av8(te:TE):TS:=λD σ H=>te σ H D.rt
def ac1(he:QbU):PS X QjA (av8 te):=λpins s σ H D I h=>wpAny_Return_some (fX QbL λv s1 ⟨x,H1,c,a,b⟩=>⟨x,σ,H1,c,a,b⟩)
noncomputable def av9(c:TT)(t u:TS):TS:=λD σ H=>c σ H λb H1=>if b=true then t D σ H1 else u D σ H1
theorem alL{c:Expr}{a b:CS}{e:TT}(i:PT X c e)(k:T9 X a t)(j:T9 X b u):PS X (.If c a b pos) (av9 e t u):=by
 intro pins s σ H D I h;refine wpAny_If (fX QdG λd s1 zz=>?_);obtain⟨H1,g,f⟩:=zz;cases d with
 | true=>exact k pins s1 σ H1 D g f
 | false=>exact j pins s1 σ H1 D g f
end
abbrev TG:=V->St->Hp->(St->Hp->Prop)->Prop
abbrev FO:=BY->St->Hp->(St->Hp->Prop)->Prop
def PG(X:Cx)(target:Expr)(t:TG):Prop:=
 ∀(pins:BM) (s:Qb) (σ:St) (H:Hp) (v:V) (u:Value) (Q:St->Hp->Prop),Inv X pins σ H s->RelV v u->t v σ H Q →
  wpAny Qr X.A (assign target X.env u) (λ_ s'=>∃σ' H',Inv X pins σ' H' s'/\Q σ' H') X.xe s
def PU(X:Cx)(ts:Cc)(t:FO):Prop:=
 ∀(pins:BM) (s:Qb) (σ:St) (H:Hp) (vs:BY) (us:B2) (Q:St->Hp->Prop),Inv X pins σ H s->Vals vs us->t vs σ H Q →
  wpAny Qr X.A (assignInOrder ((assignEach ts X.env).map (·.2)) us) (λ_ s'=>∃σ' H',Inv X pins σ' H' s'/\Q σ' H') X.xe s
abbrev SI:=V->V->V->Hp->(Hp->Prop)->Prop
def Zs(X:Cx)(t:SI):Prop:=
 ∀(pins:BM) (s:Qb) (σ:St) (H:Hp) (o i v:V) (a b u:Value) (Q:Hp->Prop),Inv X pins σ H s->RelV o a->RelV i b->RelV v u->t o i v H Q →
  wpAny Qr X.A (setItem a b u) (λ_ s'=>∃H',Inv X pins σ H' s'/\Q H') X.xe s
abbrev PM:=V->V->Hp->VK->Prop
def PIp(X:Cx)(op:Operator)(t:PM):Prop:=
 ∀(pins:BM) (s:Qb) (σ:St) (H:Hp) (x y:V) (v u:Value) (Q:VK),Inv X pins σ H s->RelV x v->RelV y u->t x y H Q →
  wpAny Qr X.A (inplaceOp op v u) Qa1 X.xe s
variable{pos:Pos}
noncomputable def K7(i:Nat):TG:=λv σ H Q=>Q (σ.set i Qat) H
def uf{x:Str}(b:Qa9)(hi:X.N[i]? = some x)(a:Qc3)(hf:AM X x:=by first|exact .inl rfl|exact .inr rfl|assumption):PG X Qan (K7 i):=λpins s σ H v u Q I r h=>wpAny_assign_Name (AI I b hi a r (λs' c=>⟨_,H,c,h⟩) hf)
noncomputable def Zp:FO:=λvs σ H Q=>vs=[]/\Q σ H
noncomputable def TV(t:TG)(u:FO):FO:=λvs σ H Q=>∃v r,vs=v::r/\t v σ H λσ' H'=>u r σ' H' Q
def ah1:PU X [] Zp:=by
 intro pins s σ H vs us Q I r h;obtain⟨e,h⟩:=h;exact assignInOrder_nil ⟨σ,H,I,h⟩
variable{es:Cc}
def QK{e:Expr}{t:TG}{u:FO}(h1:PG X e t)(h2:PU X es u)
  (hs:(assignEach Qab X.env).map (·.2)=assign e X.env::(assignEach es X.env).map (·.2):=by rfl):PU X Qab (TV t u):=by
 intro pins s σ H vs us Q I r h;obtain⟨v,f,e1,h⟩:=h;subst e1;cases r with
 | cons r b=>
  rw[hs];refine assignInOrder_cons (fX (h1 pins s σ H _ _ _ I r h) λ_ s1 zz=>?_);obtain⟨a,H1,d,c⟩:=zz;exact h2 pins s1 a H1 _ _ Q d b c
noncomputable def Zl(K:Frag)(n:Nat)(t:FO):TG:=λv σ H Q=>∃a xs,v=.ref a/\AG K H a xs/\xs.length=n/\t xs σ H Q
variable{k:Nat}
def am2{t:FO}{n:Nat}(m:QaA)(h:PU X es t)
  (j:(assignEach es X.env).length=n:=by rfl) (d:(assignEach es X.env).findIdx? (·.1)=none:=by rfl):PG X (.Tuple es k pos) (Zl X.K n t):=by
 intro pins s σ H v u Q I r hw;obtain⟨a,xs,e1,i,l,hw⟩:=hw;subst e1;cases r;obtain⟨its,c,g,hz⟩:=I.tuple i;refine assign_Tuple_tuple (I.ok.hd m) g (by simp[j,← l,c.length]) d λh' f=>?_;have p:=I.kept (t':=s.toks) λb o e=>f b o Qf9 e;exact h pins _ σ H xs _ Q p (‹_›) hw
noncomputable def awa(to a:TE)(t:SI):TG:=λv σ H Q=>to σ H λo H1=>a σ H1 λi H2=>t o i v H2 λb=>Q σ b
def am3{o i:Expr}{to a:TE}{t:SI}(g:PE X o to)(hi:PE X i a)(hs:Zs X t)
  (n:∀v,assign (.Subscript o i pos) X.env v=(do
   let U ← holding [v] (eval o X.env)
   let iv ← holding [v,U] (eval i X.env)
   standAt pos
   holding [v,U,iv] (setItem U iv v)
   release [v,U,iv] []):=by intro _;rfl):PG X (.Subscript o i pos) (awa to a t):=by
 intro pins s σ H v u Q I r h;refine fF (w8 (fX Qfx λU s1 zz=>?_));obtain⟨x,H1,l,c,f⟩:=zz;refine fF (w8 (fX (hi pins s1 σ H1 _ l f) λiv s2 zz=>?_));obtain⟨y,H2,k,b,e⟩:=zz;refine fF (MW (fF (w8 (fX (hs pins s2 σ H2 x y v U iv u _ k c b r e) λ_ s3 zz=>?_))));obtain⟨m,j,d⟩:=zz;exact wpAny_release ⟨σ,m,j,d⟩
noncomputable def Y2(te:TE)(g:TG):TS:=λD σ H=>te σ H λx H1=>g x σ H1 D.nx
variable{tg:Expr}{te:TE}
def am4{e:Expr}{g:TG}(he:QbU)(c:PG X tg g)(hs:swapsWithSole [tg] e pos.line X.env=pure false:=by rfl)(hw:swappedStores [tg] e X.env=pure none:=by rfl)
  (h1:(assignEach [tg] X.env).map (·.2)=[assign tg X.env]:=by rfl):PS X (.Assign [tg] e pos) (Y2 te g):=by
 intro pins s σ H D I h;refine wpAny_Assign_stores (fX QbL λv s1 zz=>?_) hs hw;obtain⟨x,H1,d,a,b⟩:=zz;rw[h1];exact fX (c pins s1 σ H1 x v _ d a b) λ_ s2 q=>q
def ac3{x:Str}{e:Expr}{pos':Pos}(d:Qa9)(hi:X.N[i]? = some x)(c:Qc3)(he:QbU)(hs:Qeg:=by rfl)(hf:AM X x:=by first|exact .inl rfl|exact .inr rfl|assumption) :
  PS X Qi0 (Y2 te (K7 i)):=by
 intro pins s σ H D I h;refine wpAny_Assign_Name (fX QbL λv s1 zz=>?_) hs;obtain⟨y,H1,g,a,b⟩:=zz;exact AI g d hi c a (λs2 f=>⟨_,H1,f,b⟩) hf
noncomputable def awb(i:Nat)(te:TE)(a:PM):TS:=λD σ H=>∃x,σ[i]? = some (some x)/\te σ H λy H1=>a x y H1 λz H2=>D.nx (σ.set i (some z)) H2
theorem am5{x:Str}{e:Expr}{op:Operator}{j:PM}{pos':Pos}(G:Qa9)(hi:X.N[i]? = some x)(g:Qc3)(he:QbU)(B:PIp X op j)(hf:AM X x:=by first|exact .inl rfl|exact .inr rfl|assumption) :
  PS X (.AugAssign Qei op e pos) (awb i te j):=by
 intro pins s σ H D I h;obtain⟨v,e1,h⟩:=h;obtain⟨m,C,E⟩:=I.loc;have f:yA X.env.scope x:=by obtain k|k:=g;exact .inl k;exact .inr (.inl k)
 obtain⟨u,r,l⟩:=E i x v hi e1 f;refine wpAny_AugAssign_Name ?_;have go:wpAny Qr X.A QeN (λw d=>wpAny Qr X.A (inplaceOp op u w) (λr b=>wpAny Qr X.A (storeName X.env x r) (λ_=>SP X pins D .next) X.xe b) X.xe d) X.xe s:=by
  refine fX QbL λw s1 zz=>?_;obtain⟨y,H1,L,p,t⟩:=zz;refine fX (B pins s1 σ H1 v y u w _ L r p t) λz s2 zz=>?_;obtain⟨M,H2,K,o,q⟩:=zz;exact AI K G hi g o (λs3 J=>⟨_,H2,J,q⟩) hf
 obtain⟨a,hm⟩|⟨a,c,F,n⟩:=l
 .exact wpAny_loadName_local I.ok.kind a C hm go
 .obtain a|a:=a
  .exact wpAny_loadName_cell I.ok.kind a F n go
  .obtain k|k:=g
   .have:X.env.scope.names.lookup x=some _:=a;simp_all
   .have:X.env.scope.names.lookup x=some _:=a;simp_all
noncomputable def ipI(f:Int->Int->Int):PM:=λx y H Q=>∃i j,x=.int i/\y=.int j/\Q (.int (f i j)) H
def am6:PIp X .Add (ipI λi j=>i+j):=by
 intro pins s σ H x y v u Q I b a h;obtain⟨i,j,e1,e2,q⟩:=h;subst e1;subst e2;obtain⟨t,rfl⟩:=b;obtain⟨t',rfl⟩:=a;exact iadd_int ⟨.int _,H,I.tok _,⟨_,rfl⟩,q⟩
def am7(c:TT)(tb:TS):TS:=λD σ H=>∃W:Nat->St->Hp->Prop,(∃m,W m σ H)/\∀m σ H,W m σ H →
 c σ H λb H1=>if b=true then ∃N:St->Hp->Prop,(∀σ' H',N σ' H'->∃a,a<m/\W a σ' H')/\tb {D with nx:=N,ct:=N,bk:=D.nx} σ H1 else D.nx σ H1
variable{c:Expr}
theorem ac4{body:CS}{o:TT}{tb:TS}(p:QgU)(u:PT X c o)(x:T9 X body tb):PS X (.While c body [] pos) (am7 o tb):=by
 intro pins s σ H D I h;obtain⟨W,⟨m0,w0⟩,turn⟩:=h;refine wpAny_While (codeAny_whileLoop (λn s'=>∃σ' H',Inv X pins σ' H' s'/\W n σ' H') ?_ m0 ⟨σ,H,I,w0⟩);rintro n s1 ⟨d,H1,y,t⟩;refine B0 p (fX (u pins s1 d H1 _ y (turn n d H1 t)) λb s2 zz=>?_);obtain⟨H2,r,i⟩:=zz;cases b with
 | true=>
  obtain⟨N,q,i⟩:=i;refine B0 p (fX (x pins s2 d H2 _ r i) λf s3 g=>?_);cases f with
  | next=>
   obtain⟨a,e,m,k⟩:=g;obtain⟨l,hm,j⟩:=q a e k;exact⟨l,hm,a,e,m,j⟩
  | cont=>
   obtain⟨a,e,m,k⟩:=g;obtain⟨l,hm,j⟩:=q a e k;exact⟨l,hm,a,e,m,j⟩
  | brk=>exact g
  | ret v=>exact g
 | false=>
  exact wpAny_execs_nil ⟨d,H2,r,i⟩
structure It where
 go:Nat->Hp->Prop
 u3:Nat->Hp->V->Hp->Prop
 stop:Nat->Hp->Prop
def pH(X:Cx)(pins:BM)(H:Hp)(b:Addr):Prop:=
 H b=none/\b≠X.env.locals/\b∉X.fs/\QgE/\(∀x c,X.env.cells.lookup x=some c->c≠b)/\∀p∈X.pn++pins,p.1≠b
theorem Inv.JM(I:Qz)(a:s.heap.objs.size<=b)(f:H' b=none):pH X pins H' b:=by
 refine⟨f,Nat.ne_of_gt (pE I.lt a),I.avY a,.inr (oy I.sz a),λx c e z=>?_,λp d z=>?_⟩
 .obtain⟨v,q⟩:=I.cell x c e;exact absurd (pE q.lt (z▸a)) (z4 _)
 .exact absurd (pE (nz (I.pin p d).1) (z▸a)) (z4 _)
structure Turn(P:Qak)(w:World)(K:Frag)(tg:Expr)(J:It)(fp:BN)(it:Addr)(tn:QhM):Prop where
 mem:it∈fp
 obj:∀i h,tn i h->∀b∈fp,∃o,h.get? b=some o/\∀v,o.data ≠ .cell v
 keep:∀i h h',tn i h->(∀b∈fp,∀o,h.get? b=some o->h'.get? b=some o)->tn i h'
 item:∀(X:Cx),X.prog=P->X.w=w->X.K=K->X.calm=true->∀(i:Nat) (pins:BM) (s:Qb) (σ:St) (H:Hp) (E:BS),Inv X pins σ H s->(∀b∈fp,pH X pins H b)->tn i s.heap->J.go i H →
  wpAny Qdm X.A (pyNext QbD) (λr s1=>∃u,r=some u ∧
   wpAny Qdm X.A (letOwnedTupleGo tg QbD u) (λ_ s2=>∃x H',Inv X pins σ H' s2/\RelV x u/\J.u3 i H x H'/\tn (i+1) s2.heap/\∀b∈fp,H' b=none) E s1) E s
 done:∀(X:Cx),X.prog=P->X.w=w->X.K=K->X.calm=true->∀(i:Nat) (pins:BM) (s:Qb) (σ:St) (H:Hp) (E:BS),Inv X pins σ H s->(∀b∈fp,pH X pins H b)->tn i s.heap->J.stop i H →
  wpAny Qdm X.A (pyNext QbD) (λr s1=>r=none/\Inv X pins σ H s1) E s
 self:∀(A:Qal) (i:Nat) (s:Qb) (Q:BS) (E:BS),tn i s.heap->Q QbD s->wpAny Qdm A (pyIter QbD) Q E s
abbrev TI:=St->Hp->(It->Hp->Prop)->Prop
def PIE(X:Cx)(pins:BM)(σ:St)(tg:Expr)(R:QfV)(a:Value)(s2:Qb):Prop:=
 ∃(it:Addr) (fp:BN) (tn:QhM) (J:It) (H':Hp),a=.ref it/\Inv X pins σ H' s2/\Turn X.prog X.w X.K tg J fp it tn/\tn 0 s2.heap/\(∀b∈fp,pH X pins H' b)/\R J H'
def PI(X:Cx)(tg iter:Expr)(a:TI):Prop:=
 ∀(pins:BM) (s:Qb) (σ:St) (H:Hp) (R:QfV),Inv X pins σ H s->a σ H R →
  wpAny Qr X.A (eval iter X.env) (λv s1=>wpAny Qr X.A (pyIter v) (PIE X pins σ tg R) X.xe s1) X.xe s
def Xg{it:Addr}{o:Obj}{n:Qa8}{vs:CO}(a:s.heap.get? it=some o)(c:o.cls=.type n)(hd:o.data=.fields vs)
  (b:["enumerate","zip","dict_itemiterator","dict_reverseitemiterator","odict_iterator","itertools.zip_longest","itertools.pairwise"].contains n=false) (hQ:Q () s):wpAny M A (letOwnedTupleGo tg QbD u) Q E s:=by
 cases tg<;>first
  | exact oa hQ
  | (cases u<;>first
    | exact oa hQ
    | (refine fF (wpAny_load a ?_)
       rw[c,hd];show wpAny M A (if (["enumerate","zip","dict_itemiterator","dict_reverseitemiterator","odict_iterator","itertools.zip_longest","itertools.pairwise"].contains n&&vs[0]? == some _)=true then _ else _) Q E s;rw[bF (by intro h;rw[b]at h;cases h)];exact oa hQ))
noncomputable def Itl(K:Frag)(a:Addr):It:=
 ⟨λi H=>∃xs x,oG K H a xs/\xs[i]? = some x,λi H x H'=>H'=H/\∀xs,oG K H a xs->xs[i]? = some x,λi H=>∃xs,oG K H a xs/\xs.length<=i⟩
noncomputable def Itt(K:Frag)(a:Addr):It:=
 ⟨λi H=>∃xs x,AG K H a xs/\xs[i]? = some x,λi H x H'=>H'=H/\∀xs,AG K H a xs->xs[i]? = some x,λi H=>∃xs,AG K H a xs/\xs.length<=i⟩
noncomputable def Nw(lo:Int)(n:Nat):It:=⟨λi _=>i<n,λi H x H'=>H'=H/\x=.int (lo+i),λi _=>n<=i⟩
theorem Zh(a it:Addr):Turn P w K tg (Itl K a) [it] it (λi h=>h.IsListIter it a i) where
 mem:=by simp
 obj:=λi h st b f=>by
  have e:b=it:=by simpa using f
  subst e;obtain⟨o,e,c,d⟩:=st;simp_all
 keep:=λi h h' st k=>st.at λo e=>k it WA o e
 item:=by
  intro X n hw q v i pins s σ H E I hf st m;subst n hw q;obtain⟨xs,x,g,l⟩:=m;obtain⟨its,j,p,hz⟩:=I.list g;obtain⟨u,C,A⟩:=j.get l;obtain⟨f0,f1,f2,t,f4,r⟩:=hf it WA;refine wpAny_pyNext_list_item st p.isList (x:=u) (by simpa using C) λh' y z=>?_;have F:=I.turned (t':=s.toks) (λb o f e=>(z.2 b f).trans e) f0 f1 t f4 r;obtain⟨o,e,c,d⟩:=id y;exact⟨u,rfl,Xg (s:={s with heap:=h'}) e c d Wp ⟨x,H,F,A,⟨rfl,λys B=>by rw[I.Gi B g];exact l⟩,y,λb f=>(hf b f).1⟩⟩
 done:=by
  intro X n hw q v i pins s σ H E I hf st m;subst n hw q;obtain⟨xs,g,l⟩:=m;obtain⟨its,j,p,hz⟩:=I.list g;obtain⟨f0,f1,f2,t,f4,r⟩:=hf it WA;have G:=j.length;exact wpAny_pyNext_list_end (I.ok.hd v) st p.isList WF λh' D=>⟨rfl,I.turned (t':=s.toks) (λb o f e=>D b o f e) f0 f1 t f4 r⟩
 self:=λ_ _ _ _ _ st h=>wpAny_pyIter_listiter st h
theorem Ua(a it:Addr):Turn P w K tg (Itt K a) [it] it (λi h=>h.IsTupleIter it a i) where
 mem:=by simp
 obj:=λi h st b f=>by
  have e:b=it:=by simpa using f
  subst e;obtain⟨o,e,c,d⟩:=st;simp_all
 keep:=λi h h' st k=>st.at λo e=>k it WA o e
 item:=by
  intro X n hw q v i pins s σ H E I hf st m;subst n hw q;obtain⟨xs,x,g,l⟩:=m;obtain⟨its,j,p,hz⟩:=I.tuple g;obtain⟨u,C,A⟩:=j.get l;obtain⟨f0,f1,f2,t,f4,r⟩:=hf it WA;refine wpAny_pyNext_tuple_item st (p) (x:=u) (by simpa using C) λh' y z=>?_;have F:=I.turned (t':=s.toks) (λb o f e=>(z.2 b f).trans e) f0 f1 t f4 r;obtain⟨o,e,c,d⟩:=id y;exact⟨u,rfl,Xg (s:={s with heap:=h'}) e c d Wp ⟨x,H,F,A,⟨rfl,λys B=>by rw[I.Zg B g];exact l⟩,y,λb f=>(hf b f).1⟩⟩
 done:=by
  intro X n hw q v i pins s σ H E I hf st m;subst n hw q;obtain⟨xs,g,l⟩:=m;obtain⟨its,j,p,hz⟩:=I.tuple g;obtain⟨f0,f1,f2,t,f4,r⟩:=hf it WA;have G:=j.length;exact wpAny_pyNext_tuple_end (I.ok.hd v) st (p) WF λh' D=>⟨rfl,I.turned (t':=s.toks) (λb o f e=>D b o f e) f0 f1 t f4 r⟩
 self:=λ_ _ _ _ _ st h=>wpAny_pyIter_tupleiter st h
theorem Ub(it:Addr)(lo:Int)(n:Nat):Turn P w K tg (Nw lo n) [it] it (λi h=>IsRangeIter h it (lo+(i:Nat)*1) ((n:Int)-(i:Nat)) 1) where
 mem:=by simp
 obj:=λi h st b a=>by simp_all
 keep:=λi h h' st k=>k it WA _ st
 item:=by
  intro X j hw l d i pins s σ H E I hf st c;subst j hw l;obtain⟨f0,f1,f2,g,f4,f⟩:=hf it WA;have W:=Walks.range (prog:=X.prog) (w:=X.w) (I.ok.hd d) it lo 1 n;refine W.item i s _ _ c st λv h' tk hv m kk=>?_;obtain⟨t,rfl⟩:=hv;have q:Inv X pins σ H {s with heap:=h',toks:=tk}:=I.turned (λb o a e=>kk b o (by simpa using a) e) f0 f1 g f4 f;refine⟨_,rfl,Xg m rfl rfl Wp ⟨.int (lo+i),H,q,⟨t,?_⟩,⟨rfl,rfl⟩,m,λb a=>(hf b a).1⟩⟩;rw[Int.mul_one]
 done:=by
  intro X j hw l d i pins s σ H E I hf st c;obtain⟨f0,f1,f2,g,f4,f⟩:=hf it WA;exact wpAny_pyNext_range_end (I.ok.hd d) st (by have:n<=i:=c;lia) λh' p=>⟨rfl,I.turned (p) f0 f1 g f4 f⟩
 self:=λ_ _ _ _ _ st h=>wpAny_pyIter_rangeiter st h
def arU(K:Frag)(tl:TE):TI:=λσ H R=>tl σ H λx H1=>∃a,x=.ref a/\(∃xs,oG K H1 a xs)/\R (Itl K a) H1
def awc(K:Frag)(tl:TE):TI:=λσ H R=>tl σ H λx H1=>∃a,x=.ref a/\(∃xs,AG K H1 a xs)/\R (Itt K a) H1
def Xh{l:Expr}{tl:TE}(i:PE X l tl):PI X tg l (arU X.K tl):=by
 intro pins s σ H R I h;refine fX QdG λv s1 zz=>?_;obtain⟨x,H1,c,d,f⟩:=zz;obtain⟨a,e,⟨xs,g⟩,q⟩:=f;subst e;cases d;obtain⟨its,k,p,hz⟩:=c.list g;refine wpAny_pyIter_list p.isList ?_;refine⟨ _,_,_,_,H1,rfl,c.kept λb o e=>ot _ e,Zh a _,⟨_,pk _ rfl,rfl,rfl⟩,λb j=>?_,q⟩;have e:=by simpa using j
 subst e;exact c.JM (iP _) Qhz
def am8{l:Expr}{tl:TE}(i:PE X l tl):PI X tg l (awc X.K tl):=by
 intro pins s σ H R I h;refine fX QdG λv s1 zz=>?_;obtain⟨x,H1,c,d,f⟩:=zz;obtain⟨a,e,⟨xs,g⟩,q⟩:=f;subst e;cases d;obtain⟨its,k,p,hz⟩:=c.tuple g;refine wpAny_pyIter_tuple (p) ?_;refine⟨ _,_,_,_,H1,rfl,c.kept λb o e=>ot _ e,Ua a _,⟨_,pk _ rfl,rfl,rfl⟩,λb j=>?_,q⟩;have e:=by simpa using j
 subst e;exact c.JM (iP _) Qhz
theorem QL{R:QfV}{lo hi:Int}{t u v:Tok}{tk:Nat}(I:Qz)(h1:-(2 ^ 62)<=lo)(h2:lo<2 ^ 62)(d:-(2 ^ 62)<=hi)(c:hi<2 ^ 62)
  (q:R (Nw lo (hi-lo).toNat) H):wpAny Qr X.A (pyIter Qeq) (PIE X pins σ tg R) E {s with heap:=s.heap.push {cls:=.type "range",data:=.fields #[.int lo t,.int hi u,.int 1 v]},toks:=tk}:=by
 refine wpAny_pyIter_range (IsRange.new ..) (small_one h1 h2 d c) ?_;have a:Inv X pins σ H {s with heap:=s.heap.push {cls:=.type "range",data:=.fields #[.int lo t,.int hi u,.int 1 v]},toks:=tk}:=I.kept λb o e=>ot _ e;refine⟨ _,_,_,_,H,rfl,
  a.kept λb o e=>ot _ e,Ub _ lo _,?_,λb f=>?_,q⟩
 .have e1:lo+((0:Nat))*1=lo:=by simp
  have e2:(((hi-lo).toNat))-((0:Nat))=Builtin.Range.rangeSize lo hi 1:=by rw[rangeSize_one];grind
  rw[e1,e2];exact pk _ rfl
 .have e:b=(s.heap.push {cls:=.type "range",data:=.fields #[.int lo t,.int hi u,.int 1 v]}).objs.size:=by simp_all
  subst e;exact a.JM (iP _) (a.fC.fresh (iP _))
def arV(ta:TA):TI:=λσ H R=>ta σ H λvs H1=>∃j:Int,vs=[.int j] /\ -(2 ^ 62)<=j/\j<2 ^ 62/\R (Nw 0 j.toNat) H1
def arW(ta:TA):TI:=λσ H R=>ta σ H λvs H1=>∃i j:Int,vs=[.int i,.int j]/\(-(2 ^ 62)<=i/\i<2 ^ 62 /\ -(2 ^ 62)<=j/\j<2 ^ 62)/\R (Nw i (j-i).toNat) H1
variable{p:Pos}
theorem K8{a:Expr}{ta:TA}(g:Qdj)(hm:Qc4)(i:PA X [a] ta)(hs:starEach [a] X.env=[(false,eval a X.env)]:=by rfl):PI X tg (.Call (.Name "range" p) [a] [] pos) (arV ta):=by
 intro pins s σ H R I h;refine Call_ (qp I g hm boot_range (EG (fX Qjg λus s1 zz=>?_) hs rfl));obtain⟨vs,H1,k,d,b⟩:=zz;obtain⟨j,e,b,f,q⟩:=b;subst e;cases d with
 | cons r c=>
  cases c;obtain⟨t,rfl⟩:=r;exact call_range_1 (QL k We We b f WD)
theorem Zi{a b:Expr}{ta:TA}(n:Qdj)(hm:Qc4)(o:PA X [a,b] ta)(hs:AR X a b:=by rfl)(u:starEach [b] X.env=[(false,eval b X.env)]:=by rfl) :
  PI X tg (.Call (.Name "range" p) [a,b] [] pos) (arW ta):=by
 intro pins s σ H R I h;refine Call_ (qp I n hm boot_range (EG (fX (o pos pins s σ H _ I h) λus s1 zz=>?_) WD (by rw[u];rfl)));obtain⟨vs,H1,v,f,d⟩:=zz;obtain⟨i,j,e,⟨d,m,l,k⟩,q⟩:=d;subst e;cases f with
 | cons r c=>
  cases c with
  | cons g c=>
   cases c;obtain⟨t,rfl⟩:=r;obtain⟨t',rfl⟩:=g;exact call_range_2 (QL v d m l k q)
abbrev _root_.Db:=Nat->Nat
def awd(c:TI)(g:TG)(tb:TS):TS:=λD σ H=>c σ H λJ H1=>∃W:Nat->Nat->St->Hp->Prop,(∃m,W 0 m σ H1)/\∀i m σ H,W i m σ H →
 (J.stop i H/\D.nx σ H)\/(J.go i H/\∃N:St->Hp->Prop,(∀σ' H',N σ' H'->∃b,b<m/\W (i+1) b σ' H')/\∀x H',J.u3 i H x H'->g x σ H' λa H2=>tb {D with nx:=N,ct:=N,bk:=D.nx} a H2)
noncomputable def Gk(fp:BN)(h:Heap):BM:=fp.filterMap λb=>(h.get? b).map λo=>(b,o)
def mQ{fp:BN}{o:Obj}(a:b∈fp)(e:h.get? b=some o):(b,o)∈Gk fp h:=Pe.2 ⟨b,a,by rw[e];rfl⟩
theorem Zj{fp:BN}{p:Addr×Obj}(a:p∈Gk fp h):p.1∈fp/\h.get? p.1=some p.2:=by
 obtain⟨b,c,e⟩:=Pe.1 a;cases q:h.get? b with
 | none=>rw[q]at e;cases e
 | some o=>
  rw[q]at e;have d:=o7 e;subst d;exact⟨c,q⟩
theorem Inv.pinned{fp:BN}(I:Qz)(hf:∀b∈fp,pH X pins H b)(g:∀b∈fp,∃o,s.heap.get? b=some o/\∀v,o.data ≠ .cell v):Inv X (pins++Gk fp s.heap) σ H s:=
 I.x6 λp f=>(f9.1 f).elim (λz=>I.pin p (j9 _ z)) λz=>by
  obtain⟨a,e⟩:=Zj z;obtain⟨f0,f1,f2,_⟩:=hf p.1 a;obtain⟨o,c,d⟩:=g p.1 a;rw[e]at c;cases c;exact⟨e,f0,f1,f2,d⟩
theorem Inv.vS{pl:BM}(I:Inv X (pins++pl) σ H s):Inv X pins σ H s:=I.x6 λp a=>I.pin p (j9 _ (nv _ a))
def ac5{iter:Expr}{body:CS}{O:TI}{g:TG}{tb:TS}(z:QgU)(P:QaA)(hi:PI X tg iter O)(hg:PG X tg g)(k:T9 X body tb)
  (hs:Qcc:=by intro _;rfl):PS X (.For tg iter body [] pos) (awd O g tb):=by
 intro pins s σ H D I h;refine wpAny_For (fX (hi pins s σ H _ I h) λv s1 h1=>fX h1 λaa s2 h2=>?_) hs;obtain⟨it,fp,tn,J,H2,e,I2,T,F,f2,W,⟨m0,w0⟩,turn⟩:=h2;subst e;have j:∀{H':Hp},(∀b∈fp,H' b=none)->∀b∈fp,pH X pins H' b:=λhn b k=>⟨hn b k,(f2 b k).2⟩;refine codeAny_forLoop_any (λn s'=>∃i σ' H',Inv X pins σ' H' s'/\tn i s'.heap/\(∀b∈fp,H' b=none)/\W i n σ' H') ?_ m0 ⟨0,σ,H2,I2,F,λb k=>(f2 b k).1,w0⟩;rintro n s3 ⟨i,c,C,R,t,B,Z⟩;obtain⟨stop,qn⟩|⟨go,N,hN,step⟩:=turn i n c C Z
 .refine B0 z (fX (T.done X rfl rfl rfl P i pins s3 c C X.xe R (j B) t stop) λr s4 zz=>?_);obtain⟨K,I4⟩:=zz;subst K;exact wpAny_execs_nil ⟨c,C,I4,qn⟩
 .refine B0 z (fX (T.item X rfl rfl rfl P i pins s3 c C X.xe R (j B) t go) λr s4 zz=>?_);obtain⟨u,K,h4⟩:=zz;subst K;refine B0 z (fX h4 λ_ s5 zz=>?_);obtain⟨x,S,I5,r5,U,Xi,L⟩:=zz;have M:=I5.pinned (j L) (T.obj _ _ Xi);refine B0 z (fX (hg _ s5 c S x u _ M r5 (step x S U)) λ_ s6 zz=>?_);obtain⟨E,H6,I6,q6⟩:=zz;refine B0 z (fX (k _ s6 E H6 _ I6 q6) λf G q=>?_);have again:∀{a:St} {p:Hp},Inv X (pins++Gk fp s5.heap) a p G->N a p->∃m,m<n/\∃i σ' H',Inv X pins σ' H' G/\tn i G.heap/\(∀b∈fp,H' b=none)/\W i m σ' H':=λ{a p} l y=>by
   obtain⟨m',hm,Y⟩:=hN a p y;refine⟨m',hm,i+1,a,p,l.vS,T.keep _ _ _ Xi λb k o e=>(l.pin (b,o) (j9 _ (j9 _ (mQ k e)))).1,λb k=>?_,Y⟩;obtain⟨o,e,d⟩:=T.obj _ _ Xi b k;exact(l.pin (b,o) (j9 _ (j9 _ (mQ k e)))).2.1
  cases f with
  | next=>obtain⟨a,p,l,y⟩:=q;exact again l y
  | cont=>obtain⟨a,p,l,y⟩:=q;exact again l y
  | brk=>obtain⟨a,p,l,q⟩:=q;exact⟨a,p,l.vS,q⟩
  | ret v=>obtain⟨V,a,p,l,r7,q⟩:=q;exact⟨V,a,p,l.vS,r7,q⟩
abbrev R2:=V->V->Hp->VK->Prop
def AJ(X:Cx)(f:Value->Value->Sem Value)(r:R2):Prop:=
 ∀(pins:BM) (s:Qb) (σ:St) (H:Hp) (x y:V) (v u:Value) (Q:VK),Inv X pins σ H s->RelV x v->RelV y u->r x y H Q →
  wpAny Qr X.A (f v u) Qa1 X.xe s
def U2(X:Cx)(f:Value->Sem Value)(r:Qkd):Prop:=
 ∀(pins:BM) (s:Qb) (σ:St) (H:Hp) (x:V) (v:Value) (Q:VK),Inv X pins σ H s->RelV x v->r x H Q →
  wpAny Qr X.A (f v) Qa1 X.xe s
def qq(X:Cx)(f:Value)(r:QjY):Prop:=
 ∀(pins:BM) (s:Qb) (σ:St) (H:Hp) (xs:BY) (us:B2) (Q:VK),Inv X pins σ H s->Vals xs us->r xs H Q →
  wpAny Qr X.A (call f us) Qa1 X.xe s
def awg(X:Cx)(r:V->Hp->EN->Prop):Prop:=
 ∀(pins:BM) (s:Qb) (σ:St) (H:Hp) (x:V) (v:Value) (Q:EN),Inv X pins σ H s->RelV x v->r x H Q →
  wpAny Qr X.A (truthy v) QeG X.xe s
noncomputable def GS(r:R2)(ta tb:TE):TE:=λσ H Q=>ta σ H λx H1=>tb σ H1 λy H2=>r x y H2 Q
noncomputable def tUn(r:Qkd)(ta:TE):TE:=λσ H Q=>ta σ H λx H1=>r x H1 Q
noncomputable def rI(C:QhU)(g:Int->Int->V):R2:=λx y H Q=>∃i j,x=.int i/\y=.int j/\C i j/\Q (g i j) H
noncomputable def y6(g:Int->Int->V):R2:=λx y H Q=>∃i j,x=.int i/\y=.int j/\Q (g i j) H
def rU(g:Int->V):V->Hp->VK->Prop:=λx H Q=>∃i,x=.int i/\Q (g i) H
variable{a b:Expr}{ta tb:TE}{f:Value->Value->Sem Value}
def Sr(l:Qcb)(k:PE X b tb){R:V->V->Hp->Prop}(I:Qz)
  (h:ta σ H λx H1=>tb σ H1 λy H2=>R x y H2) {Q:BS}
  (hf:∀v u s2 x y H2,Inv X pins σ H2 s2->RelV x v->RelV y u->R x y H2->wpAny Qr X.A (f v u) Q X.xe s2) :
  wpAny Qr X.A (eval a X.env) (λv d=>wpAny Qr X.A (eval b X.env) (λu c=>wpAny Qr X.A (f v u) Q X.xe c) X.xe d) X.xe s:=by
 refine fX (l pins s σ H _ I h) λv s1 zz=>?_;obtain⟨x,H1,n,g,j⟩:=zz;refine fX (k pins s1 σ H1 _ n j) λu s2 zz=>?_;obtain⟨y,H2,m,e,i⟩:=zz;exact hf v u s2 x y H2 m g e i
noncomputable def QN{op:Operator}{r:R2}(e:Qj9)(g:Qcb)(f:PE X b tb):PE X (.BinOp a op b pos) (GS r ta tb):=λpins s σ H Q I h=>wpAny_BinOp Qkv
def arY{op:UnaryOp}{r:Qkd}(d:U2 X (unaryOp op) r)(e:Qcb):PE X (.UnaryOp op a pos) (tUn r ta):=λpins s σ H Q I h=>UnaryOp_ (fX (e pins s σ H _ I h) λv s1 ⟨x,H1,f,b,c⟩=>d pins s1 σ H1 x v Q f b c)
def KU{C:QhU}{g:Int->Int->Int}
  (rule:∀(i j:Int) (t u:Tok) (s:Qb) (Q:BS) (E:BS),C i j->Q (.int (g i j) s.toks) {s with toks:=s.toks+1}->wpAny Qr X.A QjQ Q E s) :
  AJ X f (rI C λi j=>.int (g i j)):=by
 intro pins s σ H x y v u Q I b a h;obtain⟨i,j,rfl,rfl,c,q⟩:=h;obtain⟨t,rfl⟩:=b;obtain⟨t',rfl⟩:=a;exact rule i j t t' s _ _ c ⟨.int _,H,I.tok _,⟨_,rfl⟩,q⟩
def ar0{g:Int->Int->Int}
  (rule:∀(i j:Int) (t u:Tok) (s:Qb) (Q:BS) (E:BS),Q (.int (g i j) s.toks) {s with toks:=s.toks+1}->wpAny Qr X.A QjQ Q E s) :
  AJ X f (y6 λi j=>.int (g i j)):=by
 intro pins s σ H x y v u Q I b a h;obtain⟨i,j,rfl,rfl,q⟩:=h;obtain⟨t,rfl⟩:=b;obtain⟨t',rfl⟩:=a;exact rule i j t t' s _ _ ⟨.int _,H,I.tok _,⟨_,rfl⟩,q⟩
def So{g:QfN}
  (rule:∀(i j:Int) (t u:Tok) (s:Qb) (Q:BS) (E:BS),Q (.bool (g i j)) s->wpAny Qr X.A QjQ Q E s) :
  AJ X f (y6 λi j=>.bl (g i j)):=by
 intro pins s σ H x y v u Q I b a h;obtain⟨i,j,rfl,rfl,q⟩:=h;obtain⟨t,rfl⟩:=b;obtain⟨t',rfl⟩:=a;exact rule i j t t' s _ _ ⟨.bl _,H,I,rfl,q⟩
def Z7(i j:Int):Prop:=0<j/\j<1073741824
def Z0(i j:Int):Prop:=0<=j/\j<=1000000/\i.natAbs<2 ^ 64
def OK(i j:Int):Prop:=(-(2 ^ 64)<i/\i<2 ^ 64)\/(-(2 ^ 64)<j/\j<2 ^ 64)
theorem OK.ok{i j:Int}(h:OK i j):IntMulOk i j:=by
 obtain⟨h1,h2⟩|⟨h1,h2⟩:=h
 .exact .of_left (intBits_le_64 h1 h2)
 .exact .of_right (intBits_le_64 h1 h2)
def ac6:AJ X (binaryOp .Add) (y6 λi j=>.int (i+j)):=ar0 λ_ _ _ _ _ _ _ q=>add_int q
def ac7:AJ X (binaryOp .Sub) (y6 λi j=>.int (i-j)):=ar0 λ_ _ _ _ _ _ _ q=>sub_int q
def anc:AJ X (binaryOp .Mult) (rI OK λi j=>.int (i*j)):=KU λ_ _ _ _ _ _ _ a q=>mul_int q a.ok
theorem ah3:AJ X (binaryOp .FloorDiv) (rI Z7 λi j=>.int (i / j)):=KU λi j _ _ _ _ _ a q=>by
 have h1:=a.1;have h2:=a.2;exact floordiv_int We (by rw[Int.fdiv_eq_ediv_of_nonneg i We];exact q) (.inl (PyProof.noPylong_small We))
theorem ane:AJ X (binaryOp .Mod) (rI (λ_ j=>0<j) λi j=>.int (i % j)):=KU λi j _ _ _ _ _ a q=>mod_int' We (by rw[Int.fmod_eq_emod_of_nonneg i We];exact q)
def anf:AJ X (binaryOp .Pow) (rI Z0 λi j=>.int (i ^ j.toNat)):=KU λ_ _ _ _ _ _ _ a q=>pow_int_small a.1 a.2.1 a.2.2 q
def unI{f:Value->Sem Value}{g:Qfb}
  (rule:∀(i:Int) (t:Tok) (s:Qb) (Q:BS) (E:BS),Q (.int (g i) s.toks) {s with toks:=s.toks+1}->wpAny Qr X.A (f Qf0) Q E s) :
  U2 X f (rU λi=>.int (g i)):=by
 intro pins s σ H x v Q I a h;obtain⟨i,rfl,q⟩:=h;obtain⟨t,rfl⟩:=a;exact rule i t s _ _ ⟨.int _,H,I.tok _,⟨_,rfl⟩,q⟩
def ang:U2 X (unaryOp .USub) (rU λi=>.int (-i)):=unI λ_ _ _ _ _ q=>neg_int q
noncomputable def ZO:V->V->Bool
 | .non,.non=>true | .non,.int _=>true | .int _,.non=>true | .non,.bl _=>true | .bl _,.non=>true | .non,.str _=>true | .str _,.non=>true
 | .int _,.int _=>true | .bl _,.bl _=>true | .str _,.str _=>true | .Xc _,.Xc _=>true
 | .int _,.str _=>true | .str _,.int _=>true | .bl _,.str _=>true | .str _,.bl _=>true
 | _,_=>false
def rEq:R2:=λx y H Q=>ZO x y=true/\Q (.bl (decide (x=y))) H
def rNe:R2:=λx y H Q=>ZO x y=true/\Q (.bl (!decide (x=y))) H
def Xj{i j:Int}:decide (V.int i=V.int j)=(i==j):=by
 rw[M9];simp
def ac8{i j:Bool}:decide (V.bl i=V.bl j)=(i==j):=by
 rw[M9];simp
def Xk{i j:Str}:decide (V.str i=V.str j)=(i==j):=by
 rw[M9];simp
theorem Xl{i j:Array UInt8}:decide (V.Xc i=V.Xc j)=(i.toList==j.toList):=by
 rw[M9];simp_all
def dR{Q:VK}{k a:Bool}(I:Qz)(q:Q (.bl k) H)(e:k=a):EP X pins σ Q (.bool a) s:=by
 subst e;exact⟨.bl k,H,I,rfl,q⟩
theorem alM:AJ X (compareOp .Eq) rEq:=by
 intro pins s σ H x y v u Q I b a h;obtain⟨hs,q⟩:=h;cases x with
 | non=>
  cases b;cases y with
  | non=>cases a;exact PySem.EqNone.eq_none_none Qav
  | bl j=>cases a;exact PySem.EqNone.eq_none_bool Qav
  | int j=>obtain⟨t',rfl⟩:=a;exact PySem.EqNone.eq_none_int Qav
  | str j=>obtain⟨t',rfl⟩:=a;exact PySem.EqNone.eq_none_str Qav
  | _=>exact absurd (show false=true from hs) q7
 | bl i=>
  cases b;cases y with
  | non=>cases a;exact PySem.EqNone.eq_bool_none Qav
  | bl j=>cases a;exact eq_bool (dR I q ac8)
  | str j=>obtain⟨t',rfl⟩:=a;exact PySem.EqMixed.eq_bool_str Qav
  | _=>exact absurd (show false=true from hs) q7
 | int i=>
  obtain⟨t,rfl⟩:=b;cases y with
  | non=>cases a;exact PySem.EqNone.eq_int_none Qav
  | int j=>obtain⟨t',rfl⟩:=a;exact eq_int (dR I q Xj)
  | str j=>obtain⟨t',rfl⟩:=a;exact PySem.EqMixed.eq_int_str Qav
  | _=>exact absurd (show false=true from hs) q7
 | str i=>
  obtain⟨t,rfl⟩:=b;cases y with
  | non=>cases a;exact PySem.EqNone.eq_str_none Qav
  | bl j=>cases a;exact PySem.EqMixed.eq_str_bool Qav
  | int j=>obtain⟨t',rfl⟩:=a;exact PySem.EqMixed.eq_str_int Qav
  | str j=>obtain⟨t',rfl⟩:=a;exact eq_str (dR I q Xk)
  | _=>exact absurd (show false=true from hs) q7
 | Xc i=>
  obtain⟨t,rfl⟩:=b;cases y with
  | Xc j=>obtain⟨t',rfl⟩:=a;exact PySem.W.eq_bytes (dR I q Xl)
  | _=>exact absurd (show false=true from hs) q7
 | _=>cases y<;>exact absurd (show false=true from hs) q7
theorem alN:AJ X (compareOp .NotEq) rNe:=by
 intro pins s σ H x y v u Q I b a h;obtain⟨hs,q⟩:=h;cases x with
 | non=>
  cases b;cases y with
  | non=>cases a;exact PySem.EqNone.ne_none_none Qav
  | bl j=>cases a;exact PySem.EqNone.ne_none_bool Qav
  | int j=>obtain⟨t',rfl⟩:=a;exact PySem.EqNone.ne_none_int Qav
  | str j=>obtain⟨t',rfl⟩:=a;exact PySem.EqNone.ne_none_str Qav
  | _=>exact absurd (show false=true from hs) q7
 | bl i=>
  cases b;cases y with
  | non=>cases a;exact PySem.EqNone.ne_bool_none Qav
  | bl j=>cases a;exact ne_bool (dR I q (congrArg not ac8))
  | str j=>obtain⟨t',rfl⟩:=a;exact PySem.EqMixed.ne_bool_str Qav
  | _=>exact absurd (show false=true from hs) q7
 | int i=>
  obtain⟨t,rfl⟩:=b;cases y with
  | non=>cases a;exact PySem.EqNone.ne_int_none Qav
  | int j=>obtain⟨t',rfl⟩:=a;exact ne_int (dR I q (congrArg not Xj))
  | str j=>obtain⟨t',rfl⟩:=a;exact PySem.EqMixed.ne_int_str Qav
  | _=>exact absurd (show false=true from hs) q7
 | str i=>
  obtain⟨t,rfl⟩:=b;cases y with
  | non=>cases a;exact PySem.EqNone.ne_str_none Qav
  | bl j=>cases a;exact PySem.EqMixed.ne_str_bool Qav
  | int j=>obtain⟨t',rfl⟩:=a;exact PySem.EqMixed.ne_str_int Qav
  | str j=>obtain⟨t',rfl⟩:=a;exact ne_str (dR I q (congrArg not Xk))
  | _=>exact absurd (show false=true from hs) q7
 | Xc i=>
  obtain⟨t,rfl⟩:=b;cases y with
  | Xc j=>obtain⟨t',rfl⟩:=a;exact PySem.W.ne_bytes (dR I q (congrArg not Xl))
  | _=>exact absurd (show false=true from hs) q7
 | _=>cases y<;>exact absurd (show false=true from hs) q7
def ar6:AJ X (compareOp .Lt) (y6 λi j=>.bl (decide (i<j))):=So λ_ _ _ _ _ _ _ q=>lt_int q
def ar7:AJ X (compareOp .LtE) (y6 λi j=>.bl (decide (i<=j))):=So λ_ _ _ _ _ _ _ q=>le_int q
def alO:AJ X (compareOp .Gt) (y6 λi j=>.bl (decide (j<i))):=So λ_ _ _ _ _ _ _ q=>gt_int q
theorem oJ(b:Expr){op:CmpOp}(h:op ≠ .In:=by decide)(h2:op ≠ .NotIn:=by decide):behindInMarks op b=false:=by
 have e1:(op==CmpOp.In)=false:=by grind
 have e2:(op==CmpOp.NotIn)=false:=by grind
 cases b<;>simp[behindInMarks,e1,e2]
noncomputable def x9{op:CmpOp}{r:R2}(e:AJ X Qh7 r)(g:Qcb)(f:PE X b tb)(hm:behindInMarks op b=false):PE X (.Compare a [op] [b] pos) (GS r ta tb):=λpins s σ H Q I h=>wpAny_Compare1 Qkv hm
noncomputable def ar8(t:TE):TT:=λσ H Q=>t σ H λx H'=>∃k,x=.bl k/\Q k H'
def pI{op:CmpOp}{r:R2}(m:AJ X Qh7 r)(o:Qcb)(n:PE X b tb)(hm:behindInMarks op b=false):PT X (.Compare a [op] [b] pos) (ar8 (GS r ta tb)):=by
 intro pins s σ H Q I h;refine wpAny_isTrue_Compare1 (fX (o pins s σ H _ I h) λv s1 ⟨x,H1,t,g,l⟩=>fX (n pins s1 σ H1 _ t l) λu s2 ⟨y,H2,q,f,j⟩=>
  fX (m pins s2 σ H2 x y v u _ q g f j) λc s3 ⟨z,w,p,d,k,e,i⟩=>?_) hm
 subst e;cases d;exact IP ⟨w,p,i⟩
def ZA(K:Frag)(x:V)(H:Hp)(k:Bool):Prop:=
 match x with
 | .non=>k=false
 | .bl b=>k=b
 | .int i=>k=(i != 0)
 | .str y => y.length <= sizeLine /\ k = ((y.length : Int) != 0)
 | .Xc y=>y.size<=sizeLine/\k=((y.size:Int) != 0)
 | .ref p=>(∃xs,oG K H p xs/\k=!xs.isEmpty)\/(∃xs,AG K H p xs/\k=!xs.isEmpty)\/∃kvs,H p=some Qb5/\k=!kvs.isEmpty
 | _=>False
def Uc{κ:Type}{kvs:QbG}{vs:QdM}(r:Qdy):(!vs.isEmpty)=!kvs.isEmpty:=by
 cases r<;>rfl
def Gm{its:B2}(r:Vals xs its):(!its.toArray.isEmpty)=!xs.isEmpty:=by
 cases r<;>simp
def Gn:(sizeLine:Nat)<2 ^ 63:=by decide
theorem anh:awg X (λx H Q=>∃k,ZA X.K x H k/\Q k H):=by
 intro pins s σ H x v Q I c h;obtain⟨k,e,q⟩:=h;have j:=Gn;have hs:sizeLine=16777216:=p3;cases x with
 | non=>
  cases c;have a:k=false:=e;subst a;exact truthy_none ⟨H,I,q⟩
 | bl b=>
  cases c;have a:k=b:=e;subst a;exact IP ⟨H,I,q⟩
 | int i=>
  obtain⟨t,rfl⟩:=c;have a:k=(i != 0):=e;subst a;exact PySem.P.truthy_int ⟨H,I,q⟩
 | str y=>
  obtain⟨t,rfl⟩:=c;obtain⟨f,a⟩:y.length<=sizeLine/\k=((y.length:Int) != 0):=e;subst a;exact PySem.P.truthy_str We ⟨H,I.tok _,q⟩
 | Xc y=>
  obtain⟨t,rfl⟩:=c;obtain⟨f,a⟩:y.size<=sizeLine/\k=((y.size:Int) != 0):=e;subst a;exact PySem.W.truthy_bytes We ⟨H,I.tok _,q⟩
 | ref p=>
  cases c;have a:(∃xs,oG X.K H p xs/\k=!xs.isEmpty)\/(∃xs,AG X.K H p xs/\k=!xs.isEmpty)\/∃kvs,H p=some Qb5/\k=!kvs.isEmpty:=e;obtain⟨xs,d,a⟩|⟨xs,d,a⟩|⟨kvs,d,a⟩:=a
  .subst a;obtain⟨its,r,pl,hz⟩:=I.list d;have hlen:=r.length;exact wpAny_truthy_list pl.isList (by simp only[ue];lia) ⟨H,I.tok _,by rw[Gm r];exact q⟩
  .subst a;obtain⟨its,r,pl,hz⟩:=I.tuple d;have hlen:=r.length;exact truthy_tuple pl (by simp only[ue];lia) ⟨H,I.tok _,by rw[Gm r];exact q⟩
  .subst a;obtain⟨hz,g,vs,r,m⟩:kvs.length<=sizeLine/\(p==sysModules)=false/\∃vs,KV kvs vs/\s.heap.DictOf (iz X.prog X.w) p vs:=I.fC p _ d;have hlen:kvs.length=vs.length:=Paired.length r;exact wpAny_truthy_dict g m We ⟨H,I.tok _,by rw[Uc r];exact q⟩
 | _=>exact(show False from e).elim
def ac9(d:Qcb)(he:∀whole,isTrue a X.env whole=(do let v ← whole;standAt a.pos;holding [v] (truthy v))) :
  PT X a (λσ H Q=>ta σ H λx H'=>∃k,ZA X.K x H' k/\Q k H'):=λpins s σ H Q I h=>isTrue_plain (fX (d pins s σ H _ I h) λv s1 ⟨x,H1,e,b,c⟩=>anh pins s1 σ H1 x v Q e b c) (he _)
def Gp:AJ X (binaryOp .Add) (λx y H Q=>∃i j,x=.str i/\y=.str j/\i.length+j.length<=sizeLine/\Q (.str (i++j)) H):=by
 intro pins s σ H x y v u Q I b a h;obtain⟨i,j,rfl,rfl,hz,q⟩:=h;obtain⟨t,rfl⟩:=b;obtain⟨t',rfl⟩:=a;exact add_str (λt' tk=>⟨.str _,H,I.tok _,⟨_,rfl⟩,q⟩) hz
theorem vals1{x:V}(r:Vals [x] us):∃u,us=[u]/\RelV x u:=by
 cases r with
 | cons b a=>cases a;exact⟨_,rfl,b⟩
theorem vals2{x y:V}(r:Vals [x,y] us):∃u a,us=[u,a]/\RelV x u/\RelV y a:=by
 cases r with
 | cons e d=>
  cases d with
  | cons c b=>cases b;exact⟨_,_,rfl,e,c⟩
def Zk(b:QaA):qq X (.builtin "max") (λxs H Q=>∃i j,xs=[.int i,.int j]/\Q Qk8 H):=by
 intro pins s σ H xs us Q I r h;obtain⟨i,j,rfl,q⟩:=h;obtain⟨u,c,rfl,⟨t,rfl⟩,⟨t',rfl⟩⟩:=vals2 r;refine max_two_ints (I.ok.hd b) λh' tk k=>⟨_,H,I.kept k,?_,q⟩;by_cases a:j > i
 .rw[cq a,cq a];exact⟨_,rfl⟩
 .rw[bF a,bF a];exact⟨_,rfl⟩
def Zm(b:QaA):qq X (.builtin "min") (λxs H Q=>∃i j,xs=[.int i,.int j]/\Q Qk9 H):=by
 intro pins s σ H xs us Q I r h;obtain⟨i,j,rfl,q⟩:=h;obtain⟨u,c,rfl,⟨t,rfl⟩,⟨t',rfl⟩⟩:=vals2 r;refine min_two_ints (I.ok.hd b) λh' tk k=>⟨_,H,I.kept k,?_,q⟩;by_cases a:j<i
 .rw[cq a,cq a];exact⟨_,rfl⟩
 .rw[bF a,bF a];exact⟨_,rfl⟩
def Zn:qq X (.type "int") (λxs H Q=>(∃i,xs=[.int i]/\Q QaL H)\/∃k,xs=[.bl k]/\Q (.int (if k then 1 else 0)) H):=by
 intro pins s σ H xs us Q I r h;obtain⟨i,rfl,q⟩|⟨k,rfl,q⟩:=h
 .obtain⟨u,rfl,t,rfl⟩:=vals1 r;exact call_int_int ⟨.int i,H,I,⟨_,rfl⟩,q⟩
 .obtain⟨u,rfl,a⟩:=vals1 r;cases a;exact call_int_bool ⟨.int _,H,I.tok _,⟨_,rfl⟩,q⟩
def AK:qq X (.type "str") (λxs H Q=>∃i,xs=[.int i]/\i.natAbs.log2<1920/\Q QjZ H):=by
 intro pins s σ H xs us Q I r h;obtain⟨i,rfl,hz,q⟩:=h;obtain⟨u,rfl,t,rfl⟩:=vals1 r;exact PySem.P.str_of_int hz ⟨.str _,H,I.tok _,⟨_,rfl⟩,q⟩
structure Ud(h:Heap)(x dx C:Addr)(mA:Bn):Prop where
 obj:h.get? x=some (instObj C dx)
 ns:h.Ns1 dx mA
 ne:dx≠x
variable{dx:Addr}
theorem Zo{mA:Bn}(n:h.Ns1 dx mA):∃od,h.get? dx=some od/\∀name,lookIn name od=some (mA name):=by
 obtain⟨o,es,ep,d,hd,f,_,hm⟩:=n;refine⟨o,d,λname=>?_⟩;have e:=hm name;unfold nsFind findBy at e;rw[← Array.find?_toList]at e;unfold lookIn;rw[hd];dsimp;split
 .simp_all
 .have a:es.toList.any (·.refKey)=false:=by
   rw[List.any_eq_false];intro y c;obtain⟨z,t,b⟩:=f y (Array.mem_toList_iff.1 c);simp[DictEntry.refKey,b]
  have g:¬ es.toList.any (·.refKey)=true:=by rw[a];simp_all
  rw[bF g];simp_all
variable{C:Addr}
theorem Ud.look{mA:Bn}(I:Ud h x dx C mA):∃od,PySem.W.InstAt h x (instObj C dx) C (some od)/\∀name,lookIn name od=some (mA name):=
 let ⟨od,a,b⟩:=Zo I.ns
 ⟨od,⟨I.obj,rfl,rfl,a⟩,b⟩
variable{prog:Qak}{f:Addr}{mA:Bn}{name:Str}{v:Value}
def get_map{expr:Bool}{Q:BS}(X:Qgf)(I:Ud s.heap x dx C mA)(d:plainGet K C name=true)(c:hasDictIn K C=true)
  (e:findIn K Q1 name=some none) (hv:mA name=some v) (a:handedIn v=true) (h:Q v {s with toks:=s.toks+1}) :
  wpAny Qaa A (getAttr QaV name expr) Q E s:=by
 obtain⟨od,J,b⟩:=I.look;exact PySem.W.get_value X J (plainGet_of d).1 (PySem.W.findObj_own c e rfl (by rw[b,hv])) a h
variable{pl:QbH}
theorem ada{Q:Value×B2->Shared->Prop}(X:Qgf)(I:Ud s.heap x dx C mA)(a:plainGet K C name=true)
  (hf:findIn K Q1 name=some Qdh) (b:isFn K Q0=true) (hv:mA name=none) (h:Q (.ref f,[.ref x]) s) :
  wpAny Qaa A (getMethod QaV name pl) Q E s:=by
 obtain⟨od,J,c⟩:=I.look;exact PySem.W.method_fn X J (plainGet_of a).1 (plainGet_of a).2 hf (wx.1 b) (by show(lookIn name od).map _=some _;simp_all) h
theorem ah4{ns:At}(X:Qgf)(I:Ud s.heap x dx C mA)
  (hs:findIn K Q1 "__setattr__" = some Qeh) (k:plainOver K C=true) (j:takerIn K C name=some none) (l:hasDictIn K C=true)
  (hw:PySem.Within mA ns) (hsz:ns.length<=sizeLine)
  (h:∀h',Ud h' x dx C (λy=>if y=name then some v else mA y)->Heap.SameBut dx s.heap h'->Q () {s with heap:=h',toks:=s.toks+2}) :
  wpAny Qaa A (setAttr QaV name v) Q E s:=by
 obtain⟨od,J,q⟩:=I.look;refine PySem.W.set_plain X J hs (PySem.W.osa_open X J k j λb=>?_);obtain⟨cd,m,e⟩:=any_some l;have i:=I.obj;refine fF (oa (fF (fF (wpAny_loadPart i (fF (PySem.W.Looks.here (PySem.W.looks_clsIn X m) ?_))))));rw[e];refine oa (fF (oa (fF ?_)));refine wpAny_nsSet1 I.ns λh' a g=>?_;obtain⟨p,n,o,c,d,f⟩:=a.count (PySem.Within.cons name v hw);refine fF (wpAny_lookBehind c (d▸pastItsLine_dict (oy f WE)) ?_);exact oa (h _ ⟨(g.2 _ (qs I.ne)).trans I.obj,a,I.ne⟩ g)
abbrev _root_.D2:=List (Str×Value)
noncomputable def adb{R:Result->Shared->Prop}{vs:B2}{kw:D2}(X:Qgf)(hm:makesIn K C=true)
  (hi:findIn K Q1 "__init__" = some Qdh) (hf:PySem.W.typeIn K Q0=some (.type "function"))
  (h:codeAny Qaa (A.under (.builtin "type.__call__" ⟨.ref C::vs,kw⟩)) (.call Q0 ⟨.ref Qbd::vs,kw⟩) (PySem.W.InitBack Qbd R)
   {s with heap:=(s.heap.push emptyDict).push (instObj C s.heap.objs.size)}) :
  codeAny Qaa A (.call Q1 ⟨vs,kw⟩) R s:=PySem.W.make_core (PySem.W.makes_of X hm) (PySem.W.looks_findIn X hi) (λself=>PySem.W.bind_fn X self hf) Qac h
noncomputable def tu(f:Str)(v:V):CA->CA
 | []=>[(f,v)]
 | (g,x)::r=>if g=f then(g,v)::r else(g,x)::tu f v r
theorem Ef(f g:Str)(v:V):∀fs:CA,(tu f v fs).lookup g=if g=f then some v else fs.lookup g
 | []=>by
  show List.lookup g [(f,v)]=_;by_cases h:g=f
  .have a:=wx.2 h;simp[List.lookup,a,cq h]
  .have a:=Mo.2 h;simp[List.lookup,a,bF h]
 | (k,x)::r=>by
  have c:=Ef f g v r;rw[show tu f v _=(if k=f then(k,v)::r else(k,x)::tu f v r) from rfl];by_cases b:k=f
  .rw[cq b];by_cases h:g=k
   .have a:=wx.2 h;simp[List.lookup,a,cq (h.trans b)]
   .have a:=Mo.2 h;simp[List.lookup,a,bF (λe:g=f=>h (e.trans b.symm))]
  .rw[bF b];by_cases h:g=k
   .simp_all
   .have a:=Mo.2 h;simp[List.lookup,a];exact c
theorem CB(f:Str)(v:V):∀fs:CA,f∈(tu f v fs).map (·.1)/\∀g,g∈fs.map (·.1)->g∈(tu f v fs).map (·.1)
 | []=>⟨by simp[tu],λg h=>by simp at h⟩
 | (k,x)::r=>by
  obtain⟨i1,i2⟩:=CB f v r;rw[show tu f v _=(if k=f then(k,v)::r else(k,x)::tu f v r) from rfl];grind
theorem Eg(f:Str)(v:V):∀fs:CA,(tu f v fs).length<=fs.length+1
 | []=>by simp[tu]
 | (k,x)::r=>by
  have a:=Eg f v r;rw[show tu f v _=(if k=f then(k,v)::r else(k,x)::tu f v r) from rfl];grind
theorem zK.some_of{v:V}{o:Qf8}(r:zK Qat o):∃u,o=some u/\RelV v u:=by
 cases o with
 | none=>exact(r).elim
 | some u=>exact⟨u,rfl,r⟩
theorem zK.none_of{o:Qf8}(r:zK none o):o=none:=by
 cases o with
 | none=>rfl
 | some u=>exact(r).elim
theorem Zq{v:V}(r:QbT):handedIn u=true:=by
 cases v with
 | non=>cases (r);rfl
 | bl b=>cases (r);rfl
 | int i=>obtain⟨t,e⟩:=(r);cases e;rfl
 | str x=>obtain⟨t,e⟩:=(r);cases e;rfl
 | Xc b=>obtain⟨t,e⟩:=(r);cases e;rfl
 | flt b=>obtain⟨t,e⟩:=(r);cases e;rfl
 | ref a=>cases (r);rfl
 | ty n=>cases (r);rfl
variable{a:Addr}{fs:CA}
def Mv(fC:Qbu)(e:H a=some Qda):∃mA,Ud h a dx C mA/\(∀f,zK (fs.lookup f) (mA f))/\PySem.Within mA (fs.map (·.1))/\fs.length<=1000/\H dx=some (.own a):=by
 obtain⟨d,z,ne,b,mA,n,r,q⟩:=(fC a _ e);exact⟨mA,⟨b,n,ne⟩,r,q,z,d⟩
structure jC(K:Frag)(C:Addr):Prop where
 pg:plainGet K C Str.empty=true
 hd:hasDictIn K C=true
 po:plainOver K C=true
 sa:findIn K Q1 "__setattr__" = some Qeh
theorem jC.get(c:jC K C)(f:Str):plainGet K C f=true:=c.pg
def aU(K:Frag)(C:Addr)(f:Str):Prop:=findIn K Q1 f=some none
theorem aU.asa{f:Str}(n:aU K C f):takerIn K C f=some none:=by
 unfold takerIn;rw[n];rfl
structure Meth(K:Frag)(C:Addr)(m:Str)(f:Addr):Prop where
 at_:findIn K Q1 m=some Qdh
 fn:isFn K Q0=true
 kp:keepIn K Q0=true
variable{f:Str}{v:V}
def Ue{b:Bool}{Q:BS}(I:Qz)(e:H a=some Qda)(c:jC X.K C)(n:aU X.K C f)(l:fs.lookup f=some v)
  (h:∀u s',Inv X pins σ H s'->RelV v u->Q u s'):wpAny Qr A (getAttr Qaj f b) Q E s:=by
 obtain⟨mA,O,r,_,_,_⟩:=Mv I.fC e;obtain⟨u,g,d⟩:=zK.some_of (l▸r f);exact get_map I.xZ O (c.get f) c.hd n g (Zq d) (h u _ (I.tok _) d)
def ug{m:Str}{g:Addr}{Q:Value×B2->Shared->Prop}(I:Qz)(e:H a=some Qda)(c:jC X.K C)(k:Meth X.K C m g)(l:Qc6)
  (h:Q (.ref g,[.ref a]) s):wpAny Qr A (getMethod Qaj m pl) Q E s:=by
 obtain⟨mA,O,r,_,_,_⟩:=Mv I.fC e;have b:=zK.none_of (l▸r m);exact ada I.xZ O (c.get m) k.at_ k.fn b h
theorem Ug{y:V}(I:Qz)(e:H a=some Qda)(c:jC X.K C)(n:aU X.K C f)(v:fs.length<1000)(l:QcI)
  (h:∀s',Inv X pins σ (upd H a (.ins C dx (tu f y fs))) s'->Q () s'):wpAny Qr A (setAttr Qaj f u) Q E s:=by
 obtain⟨mA,O,r,i,_,j⟩:=Mv I.fC e;have hz:(fs.map (·.1)).length<=sizeLine:=by rw[dm,p3];lia
 refine ah4 I.xZ O c.sa c.po n.asa c.hd i hz λh' d k=>h _ ?_;have hd:∃o,h'.get? dx=some o:=let ⟨o,_,_,t,_⟩:=d.ns;⟨o,t⟩;refine I.write (e▸True.intro) (.inr j) (λb q p z=>(k.2 b p).trans z) hd ?_;refine⟨ az O.ne▸j,?_,O.ne,d.obj,_,d.ns,λg=>?_,λg m=>?_⟩
 .have:=Eg f y fs;lia
 .rw[Ef];by_cases q:g=f
  .rw[cq q,cq q];exact l
  simp_all
 .by_cases q:g=f
  .rw[q];exact(CB f y fs).1
  .refine(CB f y fs).2 g (i g λz=>m ?_);grind
theorem Inv.made(I:Qz):Inv X pins σ (upd (upd H s.heap.objs.size (.own Qbd)) Qbd (.ins C s.heap.objs.size []))
  {s with heap:=(s.heap.push emptyDict).push (instObj C s.heap.objs.size)}:=by
 have e1:(s.heap.push _).get? _=some emptyDict:=pk _ rfl;have e2:=by
  have:=pk (s.heap.push emptyDict) (o:=instObj C s.heap.objs.size) rfl
  rwa [Heap.size_push]at this
 have c:(s.heap.push _).Ns _ _:=⟨ _,#[],_,e1,rfl,(λe he=>absurd he WA),λ_=>rfl⟩;have d:=I.laid (o:=.own Qbd) (t':=s.toks) (λb u q=>ot _ q) (iP _) ⟨_,e1⟩;refine d.laid (λb u q=>ot _ q) (Nat.le_of_eq (Heap.size_push _ _)) ?_;have ne:s.heap.objs.size≠s.heap.objs.size+1:=oI (IM _);refine⟨by rw[az ne,bD],nZ _,ne,e2,_,(Heap.Ns1.of_empty c).at λo q=>ot _ q,λ_=>True.intro,λy a=>absurd rfl a⟩
noncomputable def ah5{env:Env}{e:Expr}{Q:BS}(b:attributeBase e f env (eval e env)=eval e env)
  (h:wpAny Qaa A (eval e env) (λo a=>wpAny Qaa A (getAttr o f true) Q E a) E s):wpAny Qaa A (eval QfB env) Q E s:=
 Attribute_any_ h (by rw[arm_eval_Attribute,b])
def awi(K:Frag)(ta:TE)(f:Str):TE:=λσ H Q=>ta σ H λx H1=>∃a C dx fs v,x=.ref a/\H1 a=some Qda/\jC K C/\aU K C f/\fs.lookup f=some v/\Q v H1
def awj(K:Frag)(ta tv:TE)(f:Str):TS:=λD σ H=>tv σ H λy H1=>ta σ H1 λx H2=>∃a C dx fs,x=.ref a/\H2 a=some Qda/\jC K C/\aU K C f/\fs.length<1000 ∧
 D.nx σ (upd H2 a (.ins C dx (tu f y fs)))
variable{o e value:Expr}{pos':Pos}{tv:TE}
def Uh(he:PE X e ta)(g:AS X e f):PE X QfB (awi X.K ta f):=by
 intro pins s σ H Q I h;refine ah5 g (fX QbL λu s1 zz=>?_);obtain⟨x,H1,k,b,a,C,dx,fs,v,ex,i,c,n,l,q⟩:=zz;subst ex;obtain rfl:u=Value.ref a:=b;exact Ue k i c n l λm s2 j d=>⟨v,H1,j,d,q⟩
def anj(i:PE X o ta)(hv:PE X value tv)(hs:swapsWith value (some (.Attribute o f pos')) pos.line X.env=pure false):PS X (.Assign [.Attribute o f pos'] value pos) (awj X.K ta tv f):=by
 intro pins s σ H D I h;refine plainObj_wpAny_Assign_Attribute (fX (hv pins s σ H _ I h) λu s1 ⟨y,H1,p,b,q⟩=>fX (i pins s1 σ H1 _ p q) λg s2 zz=>?_) hs;obtain⟨x,H2,m,d,a,C,dx,fs,ex,j,c,n,l,e⟩:=zz;subst ex;obtain rfl:g=Value.ref a:=d;exact Ug m j c n l b λs3 k=>⟨σ,_,k,e⟩
def alP{m:Str}{apos:Pos}{args:Cc}{Q:BS}(he:QbU)(I:Qz)
  (h:te σ H λx H1=>∃a C dx fs g,x=.ref a/\H1 a=some Qda/\jC X.K C/\Meth X.K C m g/\fs.lookup m=none ∧
   ∀s1,Inv X pins σ H1 s1->wpAny Qr X.A (callWith pos (.ref g) [.ref a] (backTo pos (starEach args X.env)) QaX) Q X.xe s1)
  (i:eval Qla X.env=(do
   let U ← eval e X.env
   standAt apos.atName
   let (f,first) ← holding [U] QhK
   callWith pos f first (backTo pos (starEach args X.env)) QaX)) :
  wpAny Qr X.A (eval Qla X.env) Q X.xe s:=by
 refine MO (fX QbL λu s1 zz=>?_) i;obtain⟨x,H1,b,d,a,C,dx,fs,g,ex,j,c,k,l,q⟩:=zz;subst ex;obtain rfl:u=Value.ref a:=d;exact ug b j c k l (q s1 b)
structure eN(k:Nat)(A:Qal):Prop where
 hd:A.handled=none
 dp:A.depth+3*k+5<recursionLimit
 un:A.units+16*k+200<cLine
theorem eN.mono{j:Nat}(r:eN k A)(h:j<=k):eN j A:=⟨r.hd,by have:=r.dp;lia,by have:=r.un;lia⟩
theorem eN.deeper(r:eN Qau A)(env:Env):eN k (A.deeper env):=
 ⟨r.hd,by have:=r.dp;show A.depth+1+3*k+5<_;lia,by have:=r.un;show A.units+3+16*k+200<_;lia⟩
def Ui{kw:D2}:(A.under Qgq).depth=A.depth+1:=rfl
def Uj{kw:D2}:(A.under Qgq).units=A.units+1:=rfl
theorem eN.make(r:eN Qau A)(C:Addr)(us:B2)(kw:D2):eN k (A.under Qgq):=
 ⟨r.hd,by have:=r.dp;rw[Ui];lia,by have:=r.un;rw[Uj];lia⟩
theorem eN.depth(r:eN k A):A.depth<recursionLimit:=by have:=r.dp;lia
theorem eN.units(r:eN k A):A.units+64<cLine:=by have:=r.un;lia
def Zr:TA:=λ_ H Q=>Q [] H
noncomputable def Xm(ta:TE)(tr:TA):TA:=λσ H Q=>ta σ H λx H1=>tr σ H1 λxs H2=>Q (x::xs) H2
variable{t:TA}
noncomputable def dS:PA X [] Zr:=λ_ _ _ _ H Q I h=>Calls.spliced_nil ⟨[],H,I,.nil,h⟩
def bZ(g:QbU)(f:PA X es t)(hs:Qaf:=by rfl):PA X Qab (Xm te t):=by
 intro pos pins s σ H Q I h;rw[hs];show wpAny _ _ (spliced ((false,eval e _)::backTo pos _)) _ _ s;refine Calls.spliced_cons (fX Qfx λu s1 zz=>?_);obtain⟨x,H1,j,b,d⟩:=zz;exact fX (f pos pins s1 σ H1 _ j d) λus s2 ⟨xs,H2,i,a,c⟩=>⟨ _,H2,i,.cons b a,c⟩
def awk(t:TA):TE:=λσ H Q=>t σ H λxs H1=>xs.length<=sizeLine/\∀p,H1 p=none->Q Qdz (upd H1 p Qbi)
def awl(t:TA):TE:=λσ H Q=>t σ H λxs H1=>xs.length<=sizeLine/\∀p,H1 p=none->Q Qdz (upd H1 p QaO)
def ade{U}(h:PA X es t):PE X (.Tuple es U pos) (awk t):=by
 intro pins s σ H Q I c;refine wpAny_Tuple_spliced (fX (h pos pins s σ H _ I c) λus s1 ⟨xs,H1,a,r,z,q⟩=>⟨ r.length▸z,?_⟩);have hf:=a.fC.fresh (iP _);refine⟨.ref _,_,a.laid QjT (iP _) ?_,rfl,q _ hf⟩;exact⟨z,us,r,⟨_,pk _ rfl,rfl,_,rfl⟩⟩
def ank(h:PA X es t):PE X (.List es pos) (awl t):=by
 intro pins s σ H Q I c;refine wpAny_List_spliced (fX (h pos pins s σ H _ I c) λus s1 ⟨xs,H1,a,r,z,q⟩=>⟨ r.length▸z,?_⟩);have hf:=a.fC.fresh (iP _);refine⟨.ref _,_,a.laid QjT (iP _) ?_,rfl,q _ hf⟩;exact⟨z,us,0,r,pk _ rfl⟩
abbrev Sp:=BY->Hp->VK->XK->Prop
abbrev xf:=DA->Hp->Shared->XK->Value->Shared->Prop
structure Uk(P:Qak)(w:World)(K:Frag)(mg:Bn)(base:Heap)(A:Qal)(outer:DA)(s:Qb)(H:Hp):Prop where
 frames:A.frames=some outer
 mod:Mod K mg base
 bs:∀b o,base.get? b=some o->s.heap.get? b=some o/\H b=none
 tf:base.objs.size<=s.heap.objs.size
 zN:s.heap.FunFrames base outer
 vk:∀b∈y9 outer,H b=none
 fC:xY P w H s.heap
 bare:AllBare s.gens
def CE(outer:DA)(P:Qak)(w:World)(H:Hp)(s:Qb)(Q:VK)(u:Value)(s':Qb):Prop:=
 ∃v H',s'.os=s.os/\AllBare s'.gens/\Un (y9 outer) [] H H' s.heap s'.heap/\xY P w H' s'.heap/\RelV v u/\Q v H'
def CR(CX:xf)(outer:DA)(P:Qak)(w:World)(H:Hp)(s:Qb)(Q:VK)(E:XK)(r:Result)(s':Qb):Prop:=
 match r with
 | .ok (.ret u)=>CE outer P w H s Q u s'
 | .ok _=>False
 | .error e=>CX outer H s E e s'
structure eV(P:Qak)(w:World)(K:Frag)(mg:Bn)(base:Heap)(CX:xf)(k:Nat)(f:Addr)(fd:Qax)(ps:At)(sp:Sp):Prop where
 len:∀vs H Q E,sp vs H Q E->vs.length=ps.length
 run:∀(A:Qal) (outer:DA) (s:Qb) (H:Hp) (args:Args) (us:B2) (vs:BY) (Q:VK) (E:XK),eN k A->Uk P w K mg base A outer s H->BindsTo s fd args Qe6->Vals vs us->sp vs H Q E →
  codeAny Qdm A (.call Q0 args) (CR CX outer P w H s Q E) s
variable{mg:Bn}{base:Heap}{CX:xf}{ps:At}
theorem eV.imp{f:Addr}{fd:Qax}{sp a:Sp}(F:eV P w K mg base CX k f fd ps sp)
  (h:∀vs H Q E,a vs H Q E->sp vs H Q E):eV P w K mg base CX k f fd ps a:=
 ⟨λvs H Q E q=>F.len vs H Q E (h _ _ _ _ q),λA outer s H args us vs Q E b he c hv hs=>F.run A _ s H args us vs Q E b he c hv (h _ _ _ _ hs)⟩
theorem Uk.make{outer:DA}(e:Uk P w K mg base A outer s H)(C:Addr)(us:B2)(kw:D2) :
  Uk P w K mg base (A.under Qgq) outer s H:=⟨by first|exact e.frames|(simpa using e.frames),e.mod,e.bs,e.tf,e.zN,e.vk,e.fC,e.bare⟩
variable{s':Qb}
theorem Inv.Sk(I:Qz):Uk X.prog X.w X.K X.mg X.base X.A X.stack s H:=
 ⟨I.ok.frames,I.ok.mod,I.bs,oy I.ok.tf I.sz,I.stack,I.Fp,I.fC,I.bare⟩
theorem Inv.after{Q:VK}(I:Qz)(h:CE X.stack X.prog X.w H s Q u s'):EP X pins σ Q u s':=by
 obtain⟨v,H',os,bare,un,fC,r,q⟩:=h;obtain⟨c,g,d,t,a⟩:=s';obtain rfl:a=s.os:=os;exact⟨v,H',I.call un fC bare (λb z=>absurd z WA),r,q⟩
noncomputable def TC(sp:Sp)(Fv:BY)(E:XK)(t:TA):TE:=λσ H Q=>t σ H λvs H1=>sp (vs++Fv) H1 Q E
def alQ(C:Addr)(m:Str)(sp:Sp)(Fv:BY)(E:XK)(ta:TE)(t:TA):TE:=λσ H Q=>ta σ H λx H1=>∃a dx fs,x=.ref a/\H1 a=some Qda/\fs.lookup m=none ∧
 t σ H1 λvs H2=>sp (x::(vs++Fv)) H2 Q E
def asb(C:Addr)(sp:Sp)(Fv:BY)(E:XK)(t:TA):TE:=λσ H Q=>t σ H λvs H1=>∀x dx,H1 x=none->H1 dx=none->dx≠x →
 sp (.ref x::(vs++Fv)) (upd (upd H1 dx Qea) x (.ins C dx [])) (λv H2=>v=.non/\Q QaV H2) E
def Binds(K:Frag)(fd:Qax)(ps:At)(ds:B2):Prop:=
 ∀(s:Qb) (us:B2),K.In s.heap->(us++ds).length=ps.length->BindsTo s fd ⟨us,[]⟩ (ps.zip (us++ds))
theorem Binds.all{fd:Qax}(h:∀us:B2,us.length=ps.length->bindArgs fd ⟨us,[]⟩=pure Qe6):Binds K fd ps []:=λs us _ a=>by
 rw[n2]at a ⊢;exact .of_eq (h us a)
def Passes(CX:xf)(X:Cx)(E:XK):Prop:=∀(pins:BM) (σ:St) (H:Hp) (s:Qb) (e:Value) (s':Qb),Inv X pins σ H s->CX X.stack H s E e s'->X.xe e s'
section
variable{f:Addr}{fd:Qax}{sp:Sp}{Fv:BY}{ds:B2}{E:XK}{x m:Str}{apos:Pos}
def Gq{Q:VK}{vs:BY}(F:QcM)(d:Qbv)(i:Qc0)(hd:Qds)(c:Qdd)
  (I:Qz) (r:Vals vs us) (h:sp (vs++Fv) H Q E):wpAny Qr X.A (call Q0 us) Qa1 X.xe s:=by
 have b:=r.append hd;have g:=b.length▸F.len _ _ _ _ h;refine wpAny_call (codeAny_mono (F.run X.A _ s H _ _ _ Q E d I.Sk (i s us I.xZ g) b h) λr s' a=>?_);cases r with
 | error e=>exact c pins σ H s e s' I a
 | ok j=>
  cases j with
  | ret u=>exact I.after a
  | next=>exact False.elim a
  | brk=>exact False.elim a
  | cont=>exact False.elim a
def Mw(F:QcM)(d:Qbv)(i:Q3)(hm:QfO)(g:QfC)(j:Qc0)(hd:Qds)(c:Qdd)
  (l:Qd0) (b:AD x:=by decide) (he:Qaf:=by rfl) (hpl:Qas:=by rfl) :
  PE X QgL (TC sp Fv E t):=by
 intro pins s σ H Q I h;refine x4 (ud I i hm ?_ b);refine Pd I.ok.mod.vi g (fX (l pos pins s σ H _ I h) λus s1 ⟨vs,H1,a,r,q⟩=>⟨a.xZ,?_⟩) he hpl;exact Gq F d j hd c a r q
def adg(F:QcM)(c:Qbv)(e:Q3)(hm:QfO)(d:QfC)(g:Qc0)(hd:Qds)(b:Qdd)
  (a:AD x:=by decide):PE X (.Call (.Name x p) [] [] pos) (TC sp Fv E Zr):=by
 intro pins s σ H Q I h;refine x4 (ud I e hm ?_ a);exact callWith_K0 I.xZ d (Gq F c g hd b I .nil h)
def Xn(he:PE X o ta)(c:jC X.K C)(hm:Meth X.K C m f)(F:QcM)(v:Qbv)(y:Qc0)(hd:Qds)(n:Qdd)(z:Qd0)
  (j:Qaf:=by rfl) (hpl:Qas:=by rfl)
  (p:eval Qeo X.env=(do
   let U ← eval o X.env
   standAt apos.atName
   let (f,first) ← holding [U] QhK
   callWith pos f first (backTo pos QcU) QaX):=by rfl) :
  PE X Qeo (alQ C m sp Fv E ta t):=by
 intro pins s σ H Q I h;refine MO (fX QbL λu s1 zz=>?_) p;obtain⟨x,H1,d,g,a,dx,fs,ex,B,l,q⟩:=zz;subst ex;obtain rfl:u=Value.ref a:=g;refine ug d B c hm l ?_;refine Pd I.ok.mod.vi hm.kp (fX (z pos pins s1 σ H1 _ d q) λus s2 ⟨vs,H2,b,r,i⟩=>⟨b.xZ,?_⟩) j hpl;exact Gq (vs:=.ref a::vs) F v y hd n b (.cons rfl r) i
def QO(he:PE X o ta)(c:jC X.K C)(hm:Meth X.K C m f)(F:QcM)(i:Qbv)(j:Qc0)(hd:Qds)(e:Qdd)
  (g:eval Qer X.env=(do
   let U ← eval o X.env
   standAt apos.atName
   let (f,first) ← holding [U] QhK
   callWith pos f first (backTo pos QcX) QaX):=by rfl) :
  PE X Qer (alQ C m sp Fv E ta Zr):=by
 intro pins s σ H Q I h;refine MO (fX QbL λu s1 zz=>?_) g;obtain⟨x,H1,b,d,a,dx,fs,ex,n,l,q⟩:=zz;subst ex;obtain rfl:u=Value.ref a:=d;refine ug b n c hm l ?_;exact callWith_K0 b.xZ hm.kp (Gq (vs:=[.ref a]) F i j hd e b (.cons rfl .nil) q)
structure Mk(K:Frag)(C f:Addr):Prop where
 makes:makesIn K C=true
 init:findIn K Q1 "__init__" = some Qdh
 fn:isFn K Q0=true
 kp:keepIn K Q1=true
def adh{Q:VK}{vs:BY}(M:Mk X.K C f)(F:QcM)(l:Qf7)(n:Qc0)(hd:Qds)
  (j:Qdd) (I:Qz) (r:Vals vs us)
  (h:∀x dx,H x=none->H dx=none->dx≠x->sp (.ref x::(vs++Fv)) (upd (upd H dx Qea) x (.ins C dx [])) (λv H2=>v=.non/\Q QaV H2) E) :
  wpAny Qr X.A (call Q1 us) Qa1 X.xe s:=by
 have d:=h _ _ Qj0 QhA (oI (IM _));have b:=Inv.made (C:=C) I;have c:Vals (V.ref Qbd::(vs++Fv)) _:=.cons rfl (r.append hd);have m:=by
  have e:=c.length;rw[F.len _ _ _ _ d]at e;exact e.symm
 refine wpAny_call (adb I.xZ M.makes M.init (wx.1 M.fn) (codeAny_mono (F.run _ _ _ _ _ _ _ _ E (l.make C us [])
  (b.Sk.make C us []) (n _ _ b.xZ m) c d) λr s' a=>?_))
 cases r with
 | error e=>exact j pins σ _ _ e s' b a
 | ok o=>
  cases o with
  | ret u=>
   obtain⟨v,H',p,g,ev,i⟩:=b.after a;subst ev;exact⟨g,⟨V.ref _,H',p,rfl,i⟩⟩
  | next=>exact False.elim a
  | brk=>exact False.elim a
  | cont=>exact False.elim a
def Mx(M:Mk X.K C f)(F:QcM)(d:Qf7)(g:Q3)(hm:X.mg x=some Q1)(i:Qc0)(hd:Qds)(c:Qdd)
  (j:Qd0) (b:AD x:=by decide) (he:Qaf:=by rfl) (hpl:Qas:=by rfl) :
  PE X QgL (asb C sp Fv E t):=by
 intro pins s σ H Q I h;refine x4 (ud I g hm ?_ b);refine Pd I.ok.mod.vi M.kp (fX (j pos pins s σ H _ I h) λus s1 ⟨vs,H1,a,r,q⟩=>⟨a.xZ,?_⟩) he hpl;exact adh M F d i hd c a r q
end
def PK(X:Cx)(kws:ES)(t:TA):Prop:=
 ∀(pos:Pos) (pins:BM) (s:Qb) (σ:St) (H:Hp) (Q:EQ),Inv X pins σ H s->t σ H Q->wpAny Qr X.A (evalAll ((backToKw pos (keywordEach kws X.env)).map (·.2))) (AP X pins σ Q) X.xe s
variable{x:Str}{awm:Pos}{kws:ES}{nm:Option Str}
noncomputable def adi:PK X [] Zr:=λ_ _ _ _ H Q I h=>wpAny_evalAll_nil ⟨[],H,I,.nil,h⟩
def Xo(g:QbU)(f:PK X kws t):PK X (⟨nm,e,awm⟩::kws) (Xm te t):=by
 intro pos pins s σ H Q I h;refine wpAny_evalAll_cons (fF (fX Qfx λu s1 ⟨x,H1,j,b,d⟩=>fF (MW (oa ?_))));exact fX (f pos pins s1 σ H1 _ j d) λus s2 ⟨xs,H2,i,a,c⟩=>⟨ _,H2,i,.cons b a,c⟩
structure dw(N P:At)(sc:Scope):Prop where
 kind:sc.kind=.function
 co:sc.isCoroutine=false
 gen:sc.isGenerator=false
 nd:N.Nodup
 pre:N.take P.length=P
 par:∀x∈P,sc.names.lookup x=some .local\/sc.names.lookup x=some .cell
 anm:∀y∈sc.names,y.2 ≠ .free
theorem K9{kindOf:Qhq}{x:Str}:∀{binds:D2} {m:Bn},(∀v,(x,v)∉binds)->bindL kindOf binds m x=m x
 | [],_,_=>rfl
 | (n,v)::r,m,h=>by
  unfold bindL;rw[K9 λw hw=>h w (jk _ hw)];split
  .have:x≠n:=by rintro rfl;exact h v eU
   simp[this]
  .rfl
theorem La{kindOf:Qhq}{x:Str}:∀{binds:D2} {m:Bn},(∀v,(x,v)∉binds)->bindC kindOf binds m x=m x
 | [],_,_=>rfl
 | (n,v)::r,m,h=>by
  unfold bindC;rw[La λw hw=>h w (jk _ hw)];split
  .rfl
  .have:x≠n:=by rintro rfl;exact h v eU
   simp[this]
theorem Lb{kindOf:Qhq}{x:Str}{v:Value}:∀{P:At} {vs:B2} {i:Nat} {m:Bn},P.Nodup->P[i]? = some x->vs[i]? = some v->kindOf x=some .local →
  bindL kindOf (P.zip vs) m x=some v
 | [],_,_,_,_,h,_,_=>by simp at h
 | _::_,[],_,_,_,_,h,_=>by simp at h
 | p::P,w::vs,0,m,nd,h1,h2,a=>by
  simp at h1 h2;subst h1;subst h2;show bindL _ ((p,w)::P.zip vs) m p=_;unfold bindL;rw[K9 λv hv=>(si.1 nd).1 (List.of_mem_zip hv).1,cq a];simp
 | p::P,w::vs,i+1,m,nd,h1,h2,a=>by
  unfold bindL;exact Lb (si.1 nd).2 (‹_›) (‹_›) a
theorem Lc{kindOf:Qhq}{x:Str}{v:Value}:∀{P:At} {vs:B2} {i:Nat} {m:Bn},P.Nodup->P[i]? = some x->vs[i]? = some v->kindOf x≠some .local →
  bindC kindOf (P.zip vs) m x=some v
 | [],_,_,_,_,h,_,_=>by simp at h
 | _::_,[],_,_,_,_,h,_=>by simp at h
 | p::P,w::vs,0,m,nd,h1,h2,a=>by
  simp at h1 h2;subst h1;subst h2;show bindC _ ((p,w)::P.zip vs) m p=_;unfold bindC;rw[La λv hv=>(si.1 nd).1 (List.of_mem_zip hv).1,bF a];simp
 | p::P,w::vs,i+1,m,nd,h1,h2,a=>by
  unfold bindC;exact Lc (si.1 nd).2 (‹_›) (‹_›) a
noncomputable def start(N:At)(vs:BY):St:=vs.map some++List.replicate (N.length-vs.length) none
noncomputable def rC(CX:xf)(P:Qak)(w:World)(K:Frag)(mg:Bn)(base:Heap)(N:At)(qual:Str)(scope:Scope)(f:Addr)(cd:Value)(A:Qal)(outer:DA)(s:Qb)(H:Hp)(E:XK):Cx where
 prog:=P
 w:=w
 K:=K
 mg:=mg
 base:=base
 A:=A.deeper Qiy
 N:=N
 gZ:=s
 q9:=H
 env:=envOfC qual scope s.heap.objs.size f cd
 outer:=outer
 stack:=envOfC qual scope s.heap.objs.size f cd::outer
 ex:=[]
 calm:=true
 fn:=λ_=>true
 pn:=[]
 xe:=λe s'=>wpAny Qdm (A.deeper Qiy) (leaving Qiy e) (λ_ a=>CX outer H s E e a) (λb a=>CX outer H s E b a) s'
def QS{sc:Scope}{n:Nat}(h:sc.names.lookup x=some .cell):∃c,(cellsFrom n sc.names []).lookup x=some c:=by
 have q:=cellsFrom_some _ n [] (.inl h);exact Option.isSome_iff_exists.1 q
theorem Zt{N:At}{qual:Str}{scope:Scope}{f:Addr}{cd:Value}{outer:DA}{s1:Qb}{E:XK}{vs:BY}
  (S:dw N ps scope) (hd:QeP) (e0:Uk P w K mg base A outer s H) (B:vs.length=ps.length) (r:Vals vs us)
  (x:InCallC s s.heap.objs.size (bindL (envOfC qual scope s.heap.objs.size f cd).kindOf Qe6 λ_=>none) (cellsFrom Qbd scope.names []) (bindC (envOfC qual scope s.heap.objs.size f cd).kindOf Qe6 λ_=>none) s1) :
  Inv (rC CX P w K mg base N qual scope f cd A outer s H E) [] (start N vs) H s1:=by
 have hpl:ps.length<=N.length:=by have:=congrArg List.length S.pre;rw[sk]at this;lia
 obtain⟨h1,tk,rfl,m⟩:=x.done;have a:∀b:Addr,b∉(rC CX P w K mg base N qual scope f cd A outer s H E).ex:=λb z=>absurd (show b∈([]:BN) from z) WA;refine⟨⟨e0.mod,S.kind,rfl,rfl,iP _,λy z c h1 h2=>?_,λy g=>?_,λy c _ h=>?_,λ_=>hd,Around.frames_deeper e0.frames,.inr ⟨rfl,rfl⟩,λb z=>absurd z (a b),e0.bs,e0.tf,λb _ _=>a b,λb z=>absurd z (a b),e0.zN,e0.vk⟩,
  rfl,e0.bare,Un.kept m,⟨_,x.toInCall.ns,λi y v h1 h2 C=>?_⟩,λy c h=>⟨_,x.cell y c h⟩,e0.fC.fresh (iP _),λy c h=>?_,λp j=>absurd (show p∈([]:BM) from j) WA,e0.fC.kept m,?_⟩
 .exact name_of_addr x.apart (w4 h1) (w4 h2)
 .obtain g|g:=g
  .exact QS g
  .exact absurd rfl (S.anm _ (w4 g))
 .exact p7 (x.above y c (w4 h))
 .have hi:i<vs.length:=by
   unfold start at h2;by_cases hi:i<vs.length
   .exact hi
   .rw[List.getElem?_append_right (by simpa using hi)]at h2;rw[TZ]at h2;split at h2<;>cases h2
  have t:vs[i]? = some v:=by
   unfold start at h2;rw[List.getElem?_append_left (by simpa using hi),List.getElem?_map]at h2;simp_all
  obtain⟨u,l,o⟩:=r.get t;have j:ps[i]? = some y:=by
   rw[← S.pre,List.getElem?_take_of_lt We];exact h1
  have d:ps.Nodup:=by rw[← S.pre];exact S.nd.sublist (List.take_sublist _ _)
  refine⟨u,o,?_⟩;obtain k|k:=S.par y (qz j)
  .exact .inl ⟨k,Lb d j l k⟩
  .obtain⟨c,e⟩:=QS (n:=s.heap.objs.size+1) k;refine .inr ⟨.inl k,c,e,?_⟩;have q:=x.cell y c e;rw[Lc d j l (by show scope.names.lookup y≠_;rw[k];decide)]at q;exact q
 .exact e0.fC.fresh (p7 (x.above y c (w4 h)))
 .unfold start;show _=N.length;grind
abbrev _root_.Cn:=Array (Option Value)
theorem TB{f:Addr}{qual:Str}{params:Arguments}{body:CS}{scope:Scope}{d kV doc pm gy ct oc:Value}{an od:Da}
  {TN:Cn} {N:At} {sp:Sp} (lk:K.lookup f=some ⟨oc,od,.func QkB,TN⟩) (kL:Qke) (S:dw N ps scope)
  (len:∀vs H Q E,sp vs H Q E->vs.length=ps.length)
  (B:∀(A:Qal) (outer:DA) (s:Qb) (H:Hp) (vs:BY) (Q:VK) (E:XK),eN k (A.deeper (envOfC qual scope s.heap.objs.size f gy))->sp vs H Q E →
   ∃t,T9 (rC CX P w K mg base N qual scope f gy A outer s H E) body t/\t {nx:=λ_ H'=>Q .non H',rt:=Q} (start N vs) H) :
  eV P w K mg base CX Qau f QkB ps sp:=by
 refine⟨len,λA outer s H args us vs Q E c e0 p r g=>?_⟩;have m:=len _ _ _ _ g;have h:=e0.mod.vi.keeps λb o e=>(e0.bs b o e).1;have lim:=e0.mod.nolimit.keeps λb o e=>(e0.bs b o e).1;have C:∀y∈ps.zip us,scope.names.lookup y.1=some _\/(scope.names.lookup y.1=some _/\((cellsFrom Qbd _ []).lookup y.1).isSome=true):=λ⟨n,v⟩ i=>by
  obtain q|q:=S.par n (List.of_mem_zip i).1
  .exact .inl q
  .exact .inr ⟨q,cellsFrom_some _ _ _ (.inl q)⟩
 refine codeAny_call_function c.depth (h _ _ lk) rfl S.co S.gen rfl (PySem.W.codeRec_of h kL) (p _ _ _ _ ?_);refine wpAny_newFunctionEnv_cells S.kind C λenv he s1 x=>?_;subst he;refine⟨lim.keeps x.toInCall.keep,codeAny_func ?_⟩;obtain⟨t,j,l⟩:=B A _ s H vs Q E (c.deeper _) g;have I:Inv (rC CX P w K mg base N qual _ f gy A _ s H E) [] _ H s1:=Zt S c.hd e0 m r x;refine o3 (j [] s1 _ H _ I l) (λz s' hs=>?_) λe s' hs=>hs;have fin:∀{σ':St} {H':Hp} {v:V} {u:Value},Inv (rC CX P w K mg base N qual scope f gy A _ s H E) [] σ' H' s'->RelV v u->Q v H'->CE outer P w H s Q u s':=
  λ{σ' H' v u} J a q=>⟨v,H',J.os,J.bare,J.base,J.fC,a,q⟩
 cases z with
 | ret u=>
  obtain⟨v,σ',H',J,a,q⟩:=hs;exact fin J a q
 | next=>
  obtain⟨σ',H',J,q⟩:=hs;exact fin (v:=V.non) J rfl q
 | brk=>
  obtain⟨_,_,_,q⟩:=hs;simp_all
 | cont=>
  obtain⟨_,_,_,q⟩:=hs;exact False.elim q
section
variable{id T:Qa8}{r:QjY}
noncomputable def XN(r:QjY)(t:TA):TE:=λσ H Q=>t σ H λvs H1=>r vs H1 Q
def nU(g:qq X QeI r)(f:Q3)(hm:X.mg x=none)(hv:bootBuiltins x=some QeI)(i:Qd0)(d:QfM:=by decide)(a:AD x:=by decide)
  (he:Qaf:=by rfl) (hpl:Qas:=by rfl):PE X QgL (XN r t):=by
 intro pins s σ H Q I h;refine x4 (qp I f hm hv ?_ d a);exact PyProof.Rows.callWith_builtin1 (fX Qjg λus s1 ⟨vs,H1,j,b,c⟩=>g pins s1 σ H1 vs us Q j b c) he hpl
def k7(g:qq X (.type T) r)(f:Q3)(hm:X.mg x=none)(hv:bootBuiltins x=some (.type T))(i:Qd0)(d:QfM:=by decide)(a:AD x:=by decide)
  (he:Qaf:=by rfl) (hpl:Qas:=by rfl):PE X QgL (XN r t):=by
 intro pins s σ H Q I h;refine x4 (qp I f hm hv ?_ d a);exact EG (fX Qjg λus s1 ⟨vs,H1,j,b,c⟩=>g pins s1 σ H1 vs us Q j b c) he hpl
end
end L2
namespace HT
open PySem PyProof.Rows
abbrev _root_.Ch:=Option Int
noncomputable def JD(n d:Nat):Ch->Nat
 | none=>d
 | some v=>if v<0 then(v+(n:Int)).toNat else min v.toNat n
end HT
namespace L2
open PySem PySem.Spec PyProof.Rows
abbrev TO:=St->Hp->(Ch->Hp->Prop)->Prop
def PO(X:Cx)(e:Qd2)(t:TO):Prop:=
 ∀(pins:BM) (s:Qb) (σ:St) (H:Hp) (Q:Ch->Hp->Prop),Inv X pins σ H s->t σ H Q →
  wpAny Qr X.A (evalPart e X.env) (λu s'=>∃o H',Inv X pins σ H' s'/\IsPart u o/\Q o H') X.xe s
def ah7:TO:=λ_ H Q=>Q none H
noncomputable def asd(t:TE):TO:=λσ H Q=>t σ H λx H1=>∃i,x=.int i/\Q (some i) H1
abbrev _root_.AT:=List Int
theorem intsAre_of{ns:AT}:∀{us:B2},Vals Qb1 us->IntsAre us ns:=by
 induction ns with
 | nil=>intro us r;cases r;exact .nil
 | cons n ns c=>
  intro us r;cases r with
  | cons b a=>
   obtain⟨t,e⟩:=b;subst e;exact .cons n t (c a)
variable{X:Cx}{e:Expr}{te:TE}{lo hi:Qd2}{tl th:TO}{pos p2:Pos}
noncomputable def Xp:PO X none ah7:=λpins s σ H Q I h=>oa ⟨none,H,I,.none,h⟩
def Xq(h:QbU):PO X (some e) (asd te):=by
 intro pins s σ H Q I hw;refine fX (h pins s σ H _ I hw) λu s1 zz=>?_;obtain⟨x,H1,c,a,b⟩:=zz;obtain⟨i,rfl,q⟩:=b;obtain⟨t,rfl⟩:=a;exact⟨ _,H1,c,.int i t,q⟩
def SlR(X:Cx)(r:QiX):Prop:=
 ∀(pins:BM) (s:Qb) (σ:St) (H:Hp) (x:V) (v b a:Value) (lo hi:Ch) (sl:Addr) (Q:VK),Inv X pins σ H s->RelV x v->s.heap.IsSliceOf sl b a .none->IsPart b lo->IsPart a hi->r x lo hi H Q →
  ∃T id,typeLookup (.type T) "__getitem__" = pure (some QeI)/\s.TypeIs v T/\wpAny Qr X.A (getItem v (.ref sl)) Qa1 X.xe s
noncomputable def tSl(r:QiX)(te:TE)(tl th:TO):TE:=λσ H Q=>te σ H λx H1=>tl σ H1 λl H2=>th σ H2 λu a=>r x l u a Q
def QV{r:QiX}(n:SlR X r)(he:QbU)(o:PO X lo tl)(k:PO X hi th):PE X Qlb (tSl r te tl th):=by
 intro pins s σ H Q I h;refine Subscript_ (fX QbL λv s1 zz=>?_);obtain⟨x,H1,A,f,j⟩:=zz;refine wpAny_Slice (fX (o pins s1 σ H1 _ A j) λc s2 ⟨l,H2,z,pl,i⟩=>fX (k pins s2 σ H2 _ z i) λa s3 zz=>?_);obtain⟨u,d,y,pu,g⟩:=zz;refine oa ?_;have w:Inv X pins σ d {s3 with heap:=s3.heap.push {cls:=.type "slice",data:=.fields #[c,a,.none]}}:=y.kept λb B q=>ot _ q;obtain⟨T,id,t,m,p⟩:=n pins _ σ d x v c a l u _ Q w f (Heap.IsSliceOf.new ..) pl pu g;exact tail_any m t p (rfl)
def L4(xs:BY)(lo hi:Ch):BY:=(xs.drop (HT.JD xs.length 0 lo)).take QkM
theorem QW(xs:BY)(lo hi:Ch):(L4 xs lo hi).length<=xs.length:=by
 unfold L4;rw[sk,List.length_drop];lia
noncomputable def My(n:Nat)(i:Int):Option Nat:=if 0<=i then(if i<n then some i.toNat else none) else if -(n:Int)<=i then some (i+n).toNat else none
variable{α:Type}
def za(xs:QT)(i:Int):Option α:=(My xs.length i).bind λj=>xs[j]?
variable{n:Nat}
theorem AO{i:Int}{j:Nat}(h:My n i=some j):seqIndex? i n=some j/\j<n /\ -(n:Int)<=i/\i<n:=by
 unfold My at h;by_cases h0:0<=i
 .rw[cq h0]at h;by_cases h1:i<n
  .rw[cq h1]at h;have e:=o7 h;exact⟨by rw[seqIndex_of h0 h1,e],We,We,h1⟩
  simp_all
 .rw[bF h0]at h;by_cases h1:-n<=i
  .rw[cq h1]at h;have e:=o7 h;exact⟨by rw[seqIndex_neg We h1,e],We,h1,We⟩
  simp_all
theorem Xr{xs:QT}{i:Int}{v:α}(h:za xs i=some v):∃j,seqIndex? i xs.length=some j/\xs[j]? = some v/\j<xs.length /\ -(xs.length:Int)<=i/\i<xs.length:=by
 unfold za at h;cases e:My _ i with
 | none=>rw[e]at h;cases h
 | some j=>
  rw[e]at h;obtain⟨h1,h2,b,a⟩:=AO e;exact⟨j,h1,h,h2,b,a⟩
theorem fD{xs:QT}{j:Nat}{v:α}(h:xs[j]? = some v):za xs (j:Int)=some v:=by
 have a:=(pd.1 h).1;have e:My xs.length j=some j:=by
  unfold My;simp_all
 unfold za;rw[e];exact h
theorem Gs(xs:QT)(v:α):za (xs++[v]) (-1)=some v:=by
 have a:(xs++[v]).length=xs.length+1:=by simp
 have e:My (xs++[v]).length (-1)=some xs.length:=by
  unfold My;grind
 unfold za;simp_all
def rD(b:Expr):Prop:=∀o i,subscripted b false o i=operate [o,i] (getItem o i)
def XA(X:Cx)(r:R2):Prop:=
 ∀(value slice:Expr) (pins:BM) (s:Qb) (σ:St) (H:Hp) (x y:V) (v u:Value) (Q:VK),Inv X pins σ H s->RelV x v->RelV y u->r x y H Q →
  subscripted slice false v u=operate [v,u] (getItem v u)->wpAny Qr X.A (subscriptTail value slice v u) Qa1 X.xe s
abbrev _root_.ET:=V->BY->Hp->VK->Prop
def Xt(X:Cx)(id:Qa8)(r:ET):Prop:=
 ∀(pins:BM) (s:Qb) (σ:St) (H:Hp) (x:V) (xs:BY) (v:Value) (us:B2) (Q:VK),Inv X pins σ H s->RelV x v->Vals xs us->r x xs H Q →
  wpAny Qr X.A (call QeI (v::us)) Qa1 X.xe s
section
variable{a b:Expr}{ta tb:TE}
noncomputable def Gu{r:R2}(e:XA X r)(g:Qcb)(f:PE X b tb)(hs:rD b):PE X (.Subscript a b pos) (GS r ta tb):=λpins s σ H Q I h=>Subscript_ (Sr g f I h λv u s2 x y H2 i d c q=>e a b pins s2 σ H2 x y v u Q i d c q (hs _ _))
def awp(K:Frag):R2:=λx y H Q=>∃p xs i v,x=.ref p/\y=.int i/\oG K H p xs/\za xs i=some v/\Q v H
def awq(K:Frag):R2:=λx y H Q=>∃p xs i v,x=.ref p/\y=.int i/\AG K H p xs/\za xs i=some v/\Q v H
theorem Fw:XA X (awp X.K):=by
 intro value slice pins s σ H x y v u Q I c b h hs;obtain⟨p,xs,i,z,rfl,rfl,d,he,q⟩:=h;cases c;obtain⟨t,rfl⟩:=b;obtain⟨its,r,pl,hz⟩:=I.list d;obtain⟨j,h1,h2,m,g,f⟩:=Xr he;obtain⟨w,n,a⟩:=r.get h2;have l:=r.length;have k:=Gn;have fin:EP X pins σ Q w s:=⟨z,H,I,a,q⟩;by_cases h0:0<=i
 .have e:i.toNat=j:=by
   rw[seqIndex_of h0 f]at h1;grind
  exact item_listR pl.isList h0 We WD fin hs
 .have e:(i+its.toArray.size).toNat=j:=by
   rw[seqIndex_neg We g]at h1;simp_all
  exact subscriptTail_builtinR pl.isList.typeIs slot_list_getitem.lookup
   (wpAny_getItem_list_neg pl.isList We WD We WD ⟨rfl,fin⟩) hs
theorem Ul:XA X (awq X.K):=by
 intro value slice pins s σ H x y v u Q I c b h hs;obtain⟨p,xs,i,z,rfl,rfl,d,he,q⟩:=h;cases c;obtain⟨t,rfl⟩:=b;obtain⟨its,r,pl,hz⟩:=I.tuple d;obtain⟨j,h1,h2,l,k,g⟩:=Xr he;obtain⟨w,m,a⟩:=r.get h2;have f:=r.length;have e:=Gn;have fin:EP X pins σ Q w s:=⟨z,H,I,a,q⟩;exact subscriptTail_builtinR pl.typeIs slot_tuple_getitem.lookup
  (getItem_tuple (j:=j) pl We We WD WD ⟨rfl,fin⟩) hs
noncomputable def Um(its:B2)(n j:Nat)(u:Value):Obj.mapSeq (·.setIfInBounds j u) {cls:=.type "list",data:=.seq its.toArray n}={cls:=.type "list",data:=.seq (its.set j u).toArray n}:=by
 simp[Obj.mapSeq]
theorem Inv.lst{pins:BM}{σ:St}{H:Hp}{s:Qb}{p:Addr}{xs:BY}(I:Qz)(h:H p=some QaO) :
  ∃(its:B2) (n:Nat),Vals xs its/\s.heap.get? p=some {cls:=.type "list",data:=.seq its.toArray n}/\xs.length<=sizeLine:=by
 obtain⟨z,its,n,r,e⟩:=I.fC p _ h;exact⟨its,n,r,e,z⟩
theorem Inv.ano{pins:BM}{σ:St}{H:Hp}{s:Qb}{p:Addr}{xs ys:BY}{its a:B2}{c:Nat}{f:Obj->Obj}(I:Qz)(h:H p=some QaO)
  (d:s.heap.get? p=some {cls:=.type "list",data:=.seq its.toArray n}) (hf:f {cls:=.type "list",data:=.seq its.toArray n}={cls:=.type "list",data:=.seq a.toArray c}) (r:Vals ys a) (hz:ys.length<=sizeLine) (t:Nat) :
  Inv X pins σ (upd H p (.lst ys)) {s with heap:=s.heap.update p f,toks:=t}:=by
 have e:(s.heap.update p f).get? p=some {cls:=.type "list",data:=.seq a.toArray c}:=by
  rw[MM f d (by rw[hf]<;>rfl),hf]
 refine I.write (by rw[h];trivial) Qac (λb u g q=>(JH _ _ (qs g)).trans q) ⟨_,e⟩ ?_;exact⟨hz,a,c,r,e⟩
def ase:V->V->V->Hp->(Hp->Prop)->Prop:=λo i v H Q=>∃p xs k j,o=.ref p/\i=.int k/\H p=some QaO/\My xs.length k=some j/\Q (upd H p (.lst (xs.set j v)))
theorem set_list:Zs X ase:=by
 intro pins s σ H o i v x y u Q I f g e h;obtain⟨p,xs,k,j,rfl,rfl,c,l,q⟩:=h;cases f;obtain⟨t,rfl⟩:=g;obtain⟨its,n,r,a,hz⟩:=I.lst c;obtain⟨h1,h2,w,m⟩:=AO l;have A:=r.length;have z:=Gn;have d:=
  I.ano c a (Um its n j u) (r.set e j) WD s.toks
 by_cases h0:0<=k
 .have b:k.toNat=j:=by
   rw[seqIndex_of h0 m]at h1;grind
  exact PySem.W.ki_setAt a h0 We WD (b▸⟨_,d,q⟩)
 .have b:(k+its.toArray.size).toNat=j:=by
   rw[seqIndex_neg We w]at h1;simp_all
  exact PySem.W.ki_setBack a We WD We (b▸⟨_,d,q⟩)
theorem Mz(lo hi:Ch)(n:Nat):(sliceBounds lo hi none n).1=((HT.JD n 0 lo:Nat):Int)/\(sliceBounds lo hi none n).2.1=((HT.JD n n hi:Nat):Int)/\(sliceBounds lo hi none n).2.2=1:=by
 refine⟨?_,?_,rfl⟩
 .cases lo with
  | none=>simp[sliceBounds,HT.JD]
  | some i=>
   simp[sliceBounds,HT.JD,uc];by_cases h:i<0
   .simp only[h,uc]<;>lia
   .simp[h]<;>lia
 .cases hi with
  | none=>simp[sliceBounds,HT.JD]
  | some i=>
   simp[sliceBounds,HT.JD,uc];by_cases h:i<0
   .simp only[h,uc]<;>lia
   .simp[h]<;>lia
def JN(its:B2)(lo hi:Ch):slicePick its.toArray lo hi none=((its.drop (HT.JD its.length 0 lo)).take (HT.JD its.length its.length hi-HT.JD its.length 0 lo)).toArray:=by
 obtain⟨h1,h2,a⟩:=Mz lo hi _;unfold slicePick;rw[h1,h2,a];simp only[sliceRange_one,pick_run]<;>rfl
def awr(K:Frag):V->Ch->Ch->Hp->VK->Prop:=λx lo hi H Q=>∃a xs,x=.ref a/\oG K H a xs/\∀p,H p=none->Q Qdz (upd H p (.lst (L4 xs lo hi)))
theorem Xs:SlR X (awr X.K):=by
 intro pins s σ H x v g f lo hi sl Q I d hs pl pu h;obtain⟨a,xs,rfl,e,q⟩:=h;cases d;obtain⟨its,r,c,hz⟩:=I.list e;have hlen:=r.length;refine⟨ _,_,slot_list_getitem.lookup,c.isList.typeIs,?_⟩;refine wpAny_getItem_list_slice c.isList hs pl pu .none WA ?_ WE;rw[JN,← hlen];refine⟨.ref _,_,I.laid (λb i q=>ot _ q) (iP _) ?_,rfl,q _ QhA⟩;exact⟨oy (QW xs lo hi) hz,_,0,(r.drop _).take _,pk _ rfl⟩
noncomputable def zf:V->Bool
 | .non=>true
 | .bl _=>true
 | .int _=>true
 | .str _ => true
 | _=>false
noncomputable def t4:V->V->Bool
 | .non,.non=>true
 | .bl a,.bl b=>a==b
 | .bl a,.int b=>(if a then 1 else 0)==b
 | .int a,.bl b=>a==(if b then 1 else 0)
 | .int a,.int b=>a==b
 | .str a, .str b => a == b
 | _,_=>false
theorem anp{A:Qal}{s:Qb}{y x:V}{u v:Value}(d:QcI)(c:RelV x v)(e:zf y=true)(fx:zf x=true):SeqAt.EqAt A s u v (t4 y x):=by
 cases y with
 | non=>
  cases d;cases x with
  | non=>cases c;exact SeqAt.EqAt.same _
  | bl b=>cases c;exact SeqAt.EqAt.none_bool b
  | int b=>obtain⟨t,rfl⟩:=c;exact SeqAt.EqAt.none_int b t
  | str b=>obtain⟨t,rfl⟩:=c;exact SeqAt.EqAt.none_str b t
  | _=>exact absurd (show false=true from fx) q7
 | bl a=>
  cases d;cases x with
  | non=>cases c;exact SeqAt.EqAt.bool_none a
  | bl b=>cases c;exact SeqAt.EqAt.bool_bool a b
  | int b=>obtain⟨t,rfl⟩:=c;exact SeqAt.EqAt.bool_int a b t
  | str b=>obtain⟨t,rfl⟩:=c;exact SeqAt.EqAt.bool_str a b t
  | _=>exact absurd (show false=true from fx) q7
 | int a=>
  obtain⟨t',rfl⟩:=d;cases x with
  | non=>cases c;exact SeqAt.EqAt.int_none a t'
  | bl b=>cases c;exact SeqAt.EqAt.int_bool a t' b
  | int b=>obtain⟨t,rfl⟩:=c;exact SeqAt.EqAt.int_int a t' b t
  | str b=>obtain⟨t,rfl⟩:=c;exact SeqAt.EqAt.int_str a t' b t
  | _=>exact absurd (show false=true from fx) q7
 | str a=>
  obtain⟨t',rfl⟩:=d;cases x with
  | non=>cases c;exact SeqAt.EqAt.str_none a t'
  | bl b=>cases c;exact SeqAt.EqAt.str_bool a t' b
  | int b=>obtain⟨t,rfl⟩:=c;exact SeqAt.EqAt.str_int a t' b t
  | str b=>obtain⟨t,rfl⟩:=c;exact SeqAt.EqAt.str_str a t' b t
  | _=>exact absurd (show false=true from fx) q7
 | _=>exact absurd (show false=true from e) q7
def zr(x:V)(u:Value):Bool:=match u with
 | .none=>t4 .non x
 | .bool b=>t4 (.bl b) x
 | .int i _=>t4 QaL x
 | .str z _ => t4 (.str z) x
 | _=>false
theorem adn{x y:V}{u:Value}(r:QcI)(f:zf y=true):zr x u=t4 y x:=by
 cases y with
 | non=>cases r;rfl
 | bl b=>cases r;rfl
 | int i=>obtain⟨t,rfl⟩:=r;rfl
 | str z=>obtain⟨t,rfl⟩:=r;rfl
 | _=>exact absurd (f) q7
theorem AQ{x:V}:∀{xs:BY} {us:B2},Vals xs us->xs.all zf=true->us.any (zr x)=xs.any λy=>t4 y x
 | _,_,.nil,_=>rfl
 | y::xs,u::us,.cons r t,f=>by
  rw[JE,oD]at f;rw[vx,vx,adn r f.1,AQ t f.2]
theorem vU{A:Qal}{s:Qb}{x:V}{v:Value}(b:RelV x v)(fx:zf x=true):∀{xs:BY} {us:B2},Vals xs us->xs.all zf=true->∀u∈us,SeqAt.EqAt A s u v (zr x u)
 | _,_,.nil,_=>λu a=>by cases a
 | y::xs,u::us,.cons r t,f=>λc a=>by
  rw[JE,oD]at f;obtain rfl|a:=eu.1 a
  .rw[adn r f.1];exact anp r b f.1 fx
  .exact vU b fx t f.2 c a
def ze(x:V)(xs:BY):Bool:=xs.any λy=>t4 y x
def XR(K:Frag)(neg:Bool):R2:=λx y H Q=>∃p xs,y=.ref p/\(oG K H p xs\/AG K H p xs)/\zf x=true/\xs.all zf=true/\Q (.bl (if neg then !ze x xs else ze x xs)) H
def yb:AJ X (compareOp .In) (XR X.K false):=by
 intro pins s σ H x y v u Q I b c h;obtain⟨p,xs,rfl,a,fx,fs,q⟩:=h;cases c;obtain a|a:=a
 .obtain⟨its,r,pl,hz⟩:=I.list a;refine SeqAt.in_listAt _ pl.isList QgT ⟨.bl _,H,I,rfl,?_⟩;rw[show its.toArray.any _=its.any (zr x) by simp,AQ r fs];exact q
 .obtain⟨its,r,pl,hz⟩:=I.tuple a;refine SeqAt.in_tupleAt _ pl QgT ⟨.bl _,H,I,rfl,?_⟩;rw[show its.toArray.any _=its.any (zr x) by simp,AQ r fs];exact q
def pJ:AJ X (compareOp .NotIn) (XR X.K true):=by
 intro pins s σ H x y v u Q I b c h;obtain⟨p,xs,rfl,a,fx,fs,q⟩:=h;cases c;obtain a|a:=a
 .obtain⟨its,r,pl,hz⟩:=I.list a;refine SeqAt.notIn_listAt _ pl.isList QgT ⟨.bl _,H,I,rfl,?_⟩;rw[show its.toArray.any _=its.any (zr x) by simp,AQ r fs];exact q
 .obtain⟨its,r,pl,hz⟩:=I.tuple a;refine SeqAt.notIn_tupleAt _ pl QgT ⟨.bl _,H,I,rfl,?_⟩;rw[show its.toArray.any _=its.any (zr x) by simp,AQ r fs];exact q
theorem MA:qq X (.builtin "len") (λxs H Q=>∃p ys,xs=[.ref p]/\(oG X.K H p ys\/AG X.K H p ys)/\Q (.int ys.length) H):=by
 intro pins s σ H xs us Q I r h;obtain⟨p,ys,rfl,a,q⟩:=h;obtain⟨u,rfl,c⟩:=vals1 r;cases c;have d:=Gn;obtain a|a:=a
 .obtain⟨its,b,pl,hz⟩:=I.list a;have hlen:=b.length;exact Calls.call_len_list pl.isList (by simp only[ue]<;>lia) ⟨.int _,H,I.tok _,⟨s.toks+1,by simp_all ⟩,q⟩
 .obtain⟨its,b,pl,hz⟩:=I.tuple a;have hlen:=b.length;exact len_tuple pl (by simp only[ue]<;>lia) ⟨.int _,H,I.tok _,⟨s.toks+1,by simp_all ⟩,q⟩
theorem AU:qq X QeL (λxs H Q=>∃p ys,xs=[.ref p]/\(oG X.K H p ys\/AG X.K H p ys)/\∀l,H l=none->Q (.ref l) (upd H l (.lst ys))):=by
 intro pins s σ H xs us Q I r h;obtain⟨p,ys,rfl,c,q⟩:=h;obtain⟨u,rfl,i⟩:=vals1 r;cases i;have fin:∀(its:List _),Vals ys its->ys.length<=sizeLine->∀(h':Heap) (g:Nat),(∀b o',s.heap.get? b=some o'->h'.get? b=some o') →
   h'.get? _=some _->EP X pins σ Q _ _:=λits a hz h' g kp e=>
  ⟨.ref _,_,I.laid (t':=s.toks) kp (iP _) (show gQ _ X.w _ h' _ (.lst ys) from⟨hz,its,g,a,e⟩),rfl,q _ QhA⟩
 obtain c|c:=c
 .obtain⟨its,a,pl,hz⟩:=I.list c;have hlen:=a.length;obtain⟨o,d,f,n,hd⟩:=pl.isList;exact call_list_seq p Qac d f hd (fin its a hz) WE
 .obtain⟨its,a,pl,hz⟩:=I.tuple c;have hlen:=a.length;obtain⟨o,d,f,n,hd⟩:=pl;exact call_list_seq p QaK d f hd (fin its a hz) WE
theorem zg:qq X (.type "tuple") (λxs H Q=>∃p ys,xs=[.ref p]/\((oG X.K H p ys/\∀l,H l=none->Q (.ref l) (upd H l (.tup ys)))\/(AG X.K H p ys/\Q Qdz H))):=by
 intro pins s σ H xs us Q I r h;obtain⟨p,ys,rfl,h⟩:=h;obtain⟨u,rfl,f⟩:=vals1 r;cases f;obtain⟨c,q⟩|⟨c,q⟩:=h
 .obtain⟨its,a,pl,hz⟩:=I.list c;have hlen:=a.length;refine call_tuple_list pl.isList (λh' kp=>?_) WE;have d:=I.kept (t':=s.toks) kp;have g:=
   d.laid (t':=s.toks) (λb o e=>ot _ e) (iP _) (show gQ _ X.w _ _ _ (.tup ys) from⟨hz,its,a,IsTup.new _ _⟩)
  exact⟨.ref _,_,g,rfl,q _ (d.fC.fresh (iP _))⟩
 .obtain⟨its,a,pl,hz⟩:=I.tuple c;exact call_tuple_same pl ⟨.ref p,H,I,rfl,q⟩
def Ri(K:Frag)(T:Qa8)(x:V)(H:Hp):Prop:=match x with
 | .str _ => T = "str"
 | .int _=>T="int"
 | .ref p=>(T="list" /\ ∃xs,oG K H p xs)\/(T="tuple" /\ ∃o,K.lookup p=some o/\o.cls=.type "tuple" /\ o.dict=none) ∨
   (T="dict" /\ ((∃kvs,H p=some Qb5)\/∃kvs,H p=some (.dT kvs)))\/(T="set" /\ ∃S n,H p=some (.set S n))
 | _=>False
theorem ado{pins:BM}{σ:St}{H:Hp}{s:Qb}{T:Qa8}{x:V}{v:Value}(I:Qz)(r:RelV x v)(ty:Ri X.K T x H) :
  s.TypeIs v T/\∀a,v=.ref a->∃d,s.heap.get? a=some d/\d.dict=none:=by
 cases x with
 | str z=>
  obtain⟨t,rfl⟩:=r;cases (ty);exact⟨typeIs_str s z t,λ_ e=>nomatch e⟩
 | int i=>
  obtain⟨t,rfl⟩:=r;cases (ty);exact⟨typeIs_int s i t,λ_ e=>nomatch e⟩
 | ref p=>
  cases r;obtain⟨rfl,xs,f⟩|⟨rfl,o,b,g,hd⟩|⟨rfl,b⟩|⟨rfl,S,n,b⟩:=ty
  .obtain⟨its,_,pl,_⟩:=I.list f;refine⟨pl.isList.typeIs,λa e=>?_⟩;obtain⟨o,n,e,c,hd,_⟩:=pl;simp_all
  .refine⟨⟨o,I.xZ p o b,g⟩,λa e=>?_⟩;cases e;exact⟨o,I.xZ _ o b,hd⟩
  .have z:∃o,s.heap.get? p=some o/\o.ExactDict:=by
    obtain⟨kvs,b⟩|⟨kvs,b⟩:=b
    .obtain⟨_,_,_,_,o,_,_,e,ex,_⟩:=I.fC p _ b;simp_all
    .obtain⟨_,_,_,_,o,_,_,e,ex,_⟩:=I.fC p _ b;simp_all
   obtain⟨o,e,ex⟩:=z;refine⟨⟨o,e,ex.1⟩,λa e2=>?_⟩;cases e2;exact⟨o,e,ex.2.1⟩
  .obtain⟨o,_,_,_,e,ex,_⟩:=I.fC p _ b;refine⟨⟨o,e,ex.1⟩,λa e2=>?_⟩;cases e2;exact⟨o,e,ex.2.1⟩
 | _=>exact False.elim ty
noncomputable def awu(K:Frag)(T:Qa8)(r:ET)(to:TE):TE:=λσ H Q=>to σ H λx H1=>Ri K T x H1/\r x [] H1 Q
noncomputable def tBM(K:Frag)(T:Qa8)(r:ET)(to:TE)(t:TA):TE:=λσ H Q=>to σ H λx H1=>Ri K T x H1/\t σ H1 λxs H2=>r x xs H2 Q
variable{o:Expr}{es:Cc}{to:TE}{t:TA}{name:Str}{apos vV:Pos}{T id:Qa8}{r:ET}
def ant(pa:PlainAttrs T)(slot:Slot T name id)(b:Qlm)(hm:Xt X id r)(g:PE X o to)
  (f:AS X o name:=by rfl) (a:Qjt=true:=by rfl):PE X (.Call (.Attribute o name apos) [] [] vV) (awu X.K T r to):=by
 intro pins s σ H Q I h;refine wpAny_Call_method0_late f a (fX Qfx λv s1 zz=>?_);obtain⟨x,H1,d,c,ty,e⟩:=zz;obtain⟨h1,h2⟩:=ado d c ty;exact⟨T,id,pa,slot,b,h1,h2,Calls.callWith_builtin rfl (PySem.evalArgs_none (hm pins s1 σ H1 x [] v [] Q d c .nil e))⟩
def Le(pa:PlainAttrs T)(slot:Slot T name id)(b:Qlm)(hm:Xt X id r)(m:PE X o to)(n:Qd0)
  (l:AS X o name:=by rfl)
  (g:((backTo vV QcU).all QfZ&&(backToKw vV Qff).all QfA
   && decide ((e::es).length+([]:ES).length+Qfi<30))=true:=by rfl)
  (a:Qjt=true:=by rfl) (hs:Qaf:=by rfl) (p:AL X vV es:=by rfl) :
  PE X (.Call (.Attribute o name apos) Qab [] vV) (tBM X.K T r to t):=by
 intro pins s σ H Q I h;refine wpAny_Call_method_late l g a rfl (fX (m pins s σ H _ I h) λv s1 zz=>?_);obtain⟨x,H1,f,c,ty,k⟩:=zz;obtain⟨h1,h2⟩:=ado f c ty;refine⟨T,id,pa,slot,b,h1,h2,?_⟩;have d:=n vV pins s1 σ H1 _ f k;rw[hs]at d ⊢;refine Calls.callWith_builtin (‹_›) (Calls.evalArgs_plain ?_);exact fX d λus s2 ⟨vs,H2,q,i,j⟩=>hm pins s2 σ H2 x vs v us Q q c i j
end
def Ki(X:Cx)(id:Qa8)(r:ET):Prop:=
 ∀(pins:BM) (s:Qb) (σ:St) (H:Hp) (x:V) (xs:BY) (v:Value) (us:B2) (Q:VK),Inv X pins σ H s->RelV x v->Vals xs us->r x xs H Q →
  wpAny Qr X.A (call QeI (v::us)) Qa1 X.xe s
variable{x:V}{us:B2}
theorem Vals.one(h:Vals [x] us):∃u,us=[u]/\RelV x u:=by
 cases h with
 | cons r h=>cases h;exact⟨_,rfl,r⟩
theorem Vals.two{y:V}(h:Vals [x,y] us):∃u v,us=[u,v]/\RelV x u/\RelV y v:=by
 cases h with
 | cons r h=>cases h with
  | cons q h=>cases h;exact⟨_,_,rfl,r,q⟩
theorem Vals.zero:∀{us:B2},Vals [] us->us=[]
 | _,.nil=>rfl
variable{xs:BY}
theorem Vals.dropLast(h:QcA):Vals xs.dropLast us.dropLast:=by
 induction h with
 | nil=>exact .nil
 | cons r t a=>
  cases t with
  | nil=>exact .nil
  | cons q t'=>exact .cons r a
theorem Vals.eraseIdx:∀{xs:BY} {us:B2} (i:Nat),Vals xs us->Vals (xs.eraseIdx i) (us.eraseIdx i)
 | _,_,_,.nil=>.nil
 | _,_,0,.cons _ t=>t
 | _,_,i+1,.cons r t=>.cons r (Vals.eraseIdx i t)
theorem Vals.rep{xs:BY}{us:B2}(h:QcA):∀k:Nat,Vals (List.replicate k xs).flatten (List.replicate k us).flatten
 | 0=>.nil
 | k+1=>Vals.append h (Vals.rep h k)
theorem Lf{α:Type}:∀(l:QT) (i:Nat),(l.eraseIdx i).length<=l.length
 | [],_=>iP _
 | _::_,0=>tI _
 | _::r,i+1=>Nat.succ_le_succ (Lf r i)
theorem foldl_rep(its:B2):∀(k:Nat) (acc:B2),
  List.foldl (λb a=>b++a) acc.toArray (List.replicate k its.toArray)=(acc++(List.replicate k its).flatten).toArray
 | 0,acc=>by simp
 | k+1,acc=>by
  have e:acc.toArray++its.toArray=(acc++its).toArray:=by simp
  have e2:(acc++its)++(List.replicate k its).flatten=acc++(List.replicate Qau its).flatten:=by
   rw[List.replicate_succ,List.flatten_cons,nr]
  rw[← e2,← foldl_rep its k _,← e,List.replicate_succ,A0]
variable{pins:BM}{σ:St}{H:Hp}{s:Qb}{l:Addr}{ys:BY}
theorem Inv.L1{its a:B2}{f:CO->CO}{t':Nat}(I:Qz)(d:H l=some QaO)
  (e:s.heap.get? l=some {cls:=.type "list",data:=.seq its.toArray n}) (hf:f its.toArray=a.toArray) (hv:Vals ys a) (hz:ys.length<=sizeLine) :
  Inv X pins σ (upd H l (.lst ys)) {s with heap:=s.heap.update l (Obj.mapSeq f),toks:=t'}:=by
 have q:=PySem.IsL.update e f;rw[hf]at q;refine I.write (d▸trivial) Qac (λg u c b=>(JH _ _ (qs c)).trans b) ⟨_,q⟩ ?_;exact⟨hz,a,_,hv,q⟩
theorem Inv.YP{its:B2}{t':Nat}(I:Qz)(hv:Vals ys its)(hz:ys.length<=sizeLine) :
  Inv X pins σ (upd H s.heap.objs.size (.lst ys)) {s with heap:=s.heap.push {cls:=.type "list",data:=.seq its.toArray},toks:=t'}:=
 I.laid (λ_ _ q=>ot _ q) (iP _) ⟨hz,its,0,hv,pk _ rfl⟩
theorem Inv.fresh(I:Qz):H s.heap.objs.size=none:=I.fC.fresh (iP _)
theorem Inv.LU(I:Qz)(a:H l=some QaO):xs.length<=sizeLine/\∃(its:B2) (n:Nat),Vals xs its/\xs.length=its.length/\s.heap.get? l=some {cls:=.type "list",data:=.seq its.toArray n}:=by
 obtain⟨z,its,n,r,e⟩:=I.fC l _ a;exact⟨z,its,n,r,r.length,e⟩
theorem Gv(h:n<=sizeLine):Builtin.List.listTooLong n=false:=qr We
def ah9:V->BY->Hp->VK->Prop:=λx vs H Q=>∃l xs y,x=.ref l/\vs=[y]/\H l=some QaO/\xs.length<sizeLine/\Q .non (upd H l (.lst (xs++[y])))
theorem yc:Ki X "list.append" ah9:=by
 intro pins s σ H x vs v us Q I b c h;obtain⟨l,xs,y,rfl,rfl,a,hz,q⟩:=h;cases b;obtain⟨u,rfl,d⟩:=c.one;obtain⟨z,its,n,r,f,e⟩:=I.LU a;refine x2 F.slot_list_append ⟨_,e,rfl⟩ F.entry_list_append (F.args_list_append_2 _ _) (PySem.list_append l _ n u WE) ⟨e,?_⟩;refine⟨.non,_,I.L1 a e WA (r.append (.cons d .nil)) ?_,rfl,q⟩;grind
def aww:V->BY->Hp->VK->Prop:=λx vs H Q=>∃l xs y,x=.ref l/\vs=[]/\H l=some QaO/\xs[xs.length-1]? = some y/\Q y (upd H l (.lst xs.dropLast))
theorem anu:Ki X "list.pop" aww:=by
 intro pins s σ H x vs v us Q I d f h;obtain⟨l,xs,y,rfl,rfl,c,i,q⟩:=h;cases d;have b:=f.zero;subst b;obtain⟨z,its,n,r,k,e⟩:=I.LU c;obtain⟨u,j,g⟩:=r.get i;have a:its.toArray[its.toArray.size-1]? = some u:=by simp_all
 refine x2 F.slot_list_pop ⟨_,e,rfl⟩ F.entry_list_pop (F.args_list_pop_1 _) (MeetsSeq.list_pop_last l _ n u a WD) ⟨e,?_⟩;refine⟨y,_,I.L1 c e ?_ r.dropLast ?_,g,q⟩
 .simp_all
 .rw[List.length_dropLast];lia
def anv:V->BY->Hp->VK->Prop:=λx vs H Q=>∃l xs i k y,x=.ref l/\vs=[.int i]/\H l=some QaO /\ -(2 ^ 63)<=i/\i<2 ^ 63/\seqIndex? i xs.length=some k/\xs[k]? = some y/\Q y (upd H l (.lst (xs.eraseIdx k)))
theorem adt:Ki X "list.pop" anv:=by
 intro pins s σ H x vs v us Q I c d h;obtain⟨l,xs,i,k,y,rfl,rfl,b,h1,h2,m,g,q⟩:=h;cases c;obtain⟨u,rfl,f⟩:=d.one;obtain⟨t,rfl⟩:=f;obtain⟨z,its,n,r,j,e⟩:=I.LU b;obtain⟨w,hw,a⟩:=r.get g;refine x2 F.slot_list_pop ⟨_,e,rfl⟩ F.entry_list_pop (F.args_list_pop_2 _ _)
  (MeetsSeq.list_pop_at l _ n i t k w (fitsIndex_both h1 h2) WD WD WD) ⟨e,?_⟩
 refine⟨y,_,I.L1 b e ?_ (r.eraseIdx k) ?_,a,q⟩
 .simp_all
 .have:=Lf xs k;lia
def len_rep(xs:QT)(k:Nat):(List.replicate k xs).flatten.length=k*xs.length:=by simp
end L2
namespace Att
open PySem PySem.W PySem.Calls PyProof.Rows
def EH{P:Params}{h:Heap}:∀(ns:AT) (vs:B2),WellAll P h vs (ns.map WData.int)->IntsAre vs ns:=by
 intro ns
 induction ns with
 | nil=>
  intro vs w;cases w;exact .nil
 | cons n ns c=>
  intro vs w;cases w with
  | cons a b=>
   cases a;exact .cons _ _ (c _ b)
theorem Zu{l:OpenLaw}{n:Nat}(k:l.most=some n){P:Params}{h:Heap}{args:List WData}{vals:B2}
  (f:l.row.toRowW.claim.pre args=true) (c:WellAll P h vals args) :
  ∃a vs ns,vals=[Value.ref a]/\args=[WData.list (ns.map WData.int)]/\h.get? a=some {cls:=.type "list",data:=.seq vs.toArray}/\IntsAre vs ns/\ns.length<=n:=by
 have NI:=(pre_splitW f).1;have m:=(pre_splitW f).2;obtain⟨d,r,rfl,h1,h2⟩:=hasAllW_cons NI;obtain rfl:=hasAllW_nil h2;obtain⟨xs,rfl,o⟩:=hasW_list h1;obtain⟨ns,rfl⟩:=items_int o;have hlen:ns.length<=n:=by
  have b:=by
   have b:=(holds_andW m).1;rw[k]at b;exact b
  have p:=condW_of b (w_not (w_lt w_lit (w_len_list (w_arg rfl))));simp_all
 cases c with
 | cons i g=>
  cases g;cases i with
  | list j e=>exact⟨_,_,ns,rfl,rfl,j,EH ns _ e,hlen⟩
def Zv(l:OpenLaw)(args:List WData):l.row.toRowW.claim.post args QfK args=true:=
 postW_of
  (rfl)
  (w_eq_bool (w_res rfl) w_lit) rfl
def QY{l:OpenLaw}{n:Nat}{q:Qak}{loose:At}{m:Bn->Heap->Prop}{k:Qj1}{d:DefRec}
  (u:l.most=some n) (h:Qka)
  (call:∀(w:World) (gZ b:Qb) (mg mb:Bn) (c:Addr) (o:Obj) (pm cd doc:Value) (a:Addr) (vs:B2) (ns:AT),
   Ground q loose [] m w gZ mg mb b.heap->k w b.heap →
   b.heap.get? c=some o->o.data=.func (docDef d.name d.params d.body d.scope pm cd doc)->b.heap.CodeRec cd d.name->mg d.name=some (.ref c) →
   b.heap.get? a=some {cls:=.type "list",data:=.seq vs.toArray}->IntsAre vs ns->ns.length<=n->b.gens=#[] →
   codeAny (model l.prog w) callerA (.call (.ref c) ⟨[.ref a],[]⟩) (λr s'=>r=.ok (.ret QfK)/\OldK b.heap s'.heap/\s'.os=b.os/\AllBare s'.gens) b) :
  WalkO q loose m k l.row.toRowW d [] QiY:=by
 intro w gZ b mg mb G Y c o pm cd doc A kV t hd kL hD g x args vals as B j p e v;obtain rfl:A=.none:=Dflts.none hD h;obtain rfl:kV=.none:=Dflts.noKw hD;obtain⟨a,vs,ns,rfl,rfl,i,hints,hlen⟩:=Zu u B e;refine enter_call (codeAny_mono (call w gZ b mg mb c o pm cd doc a vs ns G Y t (fd_plain hd) kL g i hints hlen x) λr s' s=>?_);obtain⟨rfl,h2,z,y⟩:=s;exact⟨.inl ⟨ _,_,[],rfl,λ_=>rfl,.bool true,Zv l _,λ_=>⟨List.Pairwise.nil,λ_ hm=>(nomatch hm)⟩⟩,h2,z,y⟩
noncomputable def ledger(h:Heap)(L d:Addr):BM:=(List.range h.objs.size).filterMap λa=>if a=L\/a=d then none else(h.get? a).map λo=>(a,o)
end Att
namespace L2
open PySem PySem.Spec PyProof.Rows
theorem Lg:∀{vs:B2} {ns:AT},IntsAre vs ns->Vals Qb1 vs
 | _,_,.nil=>.nil
 | _,_,.cons n t h=>.cons ⟨t,rfl⟩ (Lg h)
def inClass(s:Stmt)(j:Nat):Stmt:=match s with
 | .ClassDef _ _ _ body _ _ _ _ _ _ _=>body.getD j (.Pass ⟨0,0,0,0⟩)
 | _=>.Pass ⟨0,0,0,0⟩
def pK(s:Stmt):Arguments:=match s with
 | .FunctionDef _ a _ _ _ _ _ _ _ _=>a
 | _=>{posonlyargs:=[],args:=[],vararg:=none,kwonlyargs:=[],kw_defaults:=[],kwarg:=none,defaults:=[]}
def dQ(s:Stmt):CS:=match s with
 | .FunctionDef _ _ b _ _ _ _ _ _ _=>b
 | _=>[]
def ai(s:Stmt):Scope:=match s with
 | .FunctionDef _ _ _ _ _ _ sc _ _ _=>sc
 | _=>{kind:=.function,names:=[],isGenerator:=false,isCoroutine:=false}
noncomputable abbrev mJ:xf:=λ_ _ _ _ _ _=>False
abbrev E0:XK:=λ_ _ _=>False
variable{X:Cx}
noncomputable def vG:Passes mJ X E0:=λ_ _ _ _ _ _ _ h=>h.elim
structure Zw(K:Frag)(x qual:Str)(st:Stmt)(f:Addr)(fd:Qax):Prop where
 ex:∃(oc:Value) (od:Da) (kV doc pm:Value) (an:Da) (gy ct:Value) (TN:Cn),
  fd=fnOf x qual (pK st) Qbl Qaz .none kV doc pm an gy ct/\K.lookup f=some ⟨oc,od,.func fd,TN⟩/\codeIn K gy qual=true
 kp:keepIn K Q0=true
variable{P:Qak}{w:World}{K:Frag}{mg:Bn}{base:Heap}
theorem Zw.ok{x qual:Str}{st:Stmt}{f:Addr}{fd:Qax}{N ps:At}{k:Nat}{sp:Sp}(F:QcZ)(S:QbV)(len:∀vs H Q E,sp vs H Q E->vs.length=ps.length)
  (b:∀(gy:Value) (A:Qal) (outer:DA) (s:Qb) (H:Hp) (vs:BY) (Q:VK) (E:XK),eN k (A.deeper Qci)->sp vs H Q E →
   ∃t,T9 (rC mJ P w K mg base N qual Qaz f gy A outer s H E).Mu Qbl t/\t {nx:=λ_ H'=>Q .non H',rt:=Q} (start N vs) H):eV P w K mg base mJ Qau f fd ps sp:=by
 obtain⟨oc,od,kV,doc,pm,an,gy,ct,TN,rfl,lk,kL⟩:=F.ex;refine TB lk kL S len λA outer s H vs Q E a c=>?_;obtain⟨t,h,q⟩:=b gy A _ s H vs Q E a c;exact⟨t,h.Mu,q⟩
theorem Zw.binds{x qual:Str}{st:Stmt}{f:Addr}{fd:Qax}{ps:At}(F:QcZ)
  (h:∀(kV doc pm:Value) (an:Da) (gy ct:Value) (us:B2),us.length=ps.length->bindArgs Qgg ⟨us,[]⟩=pure Qe6):Binds K fd ps []:=by
 obtain⟨oc,od,kV,doc,pm,an,gy,ct,TN,rfl,lk,kL⟩:=F.ex;exact .all (h kV doc pm an gy ct)
def adv{x qual:Str}{st:Stmt}{f:Addr}{oc:Value}{od an:Da}{TN:Cn}{kV doc pm gy ct:Value}(l:Qlp)
  (c:Qke) (k:QhN):Zw K x qual st f Qgg:=⟨⟨oc,od,kV,doc,pm,an,gy,ct,TN,rfl,l,c⟩,k⟩
def dG{n:Nat}(h:n<=1000):n<sizeLine:=vT h Wp
def JQ{A B:Prop}(h:B):if false=true then A else B:=‹_›
def JR{A B:Prop}(h:A):if true=true then A else B:=‹_›
def aM(H H':Hp):Prop:=∀b o,H b=some o->H' b=some o
theorem aM.refl(H:Hp):aM H H:=λ_ _ h=>h
variable{H:Hp}
theorem aM.trans{H1 H2:Hp}(a:aM H H1)(b:aM H1 H2):aM H H2:=λc o h=>b c o (a c o h)
variable{H':Hp}
theorem aM.free(e:QbW){l:Addr}(h:H' l=Option.none):H l=Option.none:=by
 cases q:H l with
 | none=>rfl
 | some o=>
  rw[e l o q]at h;cases h
variable{a:Addr}
theorem aM.seq{xs:BY}(e:QbW)(h:oG K H a xs):oG K H' a xs:=by
 rcases h with(h|⟨o,h⟩)|h
 .exact .inl (.inl QdH)
 .exact .inl (.inr ⟨o,e _ _ h⟩)
 .exact .inr h
section
variable{κ:Type}[DecidableEq κ]
noncomputable def vW(kvs:QbG)(k:κ):Option V:=(kvs.find? λa=>decide (a.1=k)).map (·.2)
noncomputable def putK(kvs:QbG)(k:κ)(v:V):List (κ×V):=
 if Qfk=true then kvs.map QkN else kvs++[(k,v)]
def tD{p:κ×V}{r:QbG}{k:κ}(e:p.1=k):vW (p::r) k=some p.2:=by simp[vW,yn,e]
def qu{p:κ×V}{r:QbG}{k:κ}(e:¬ p.1=k):vW (p::r) k=vW r k:=by simp[vW,yn,e]
theorem QZ(k:κ):∀kvs:List (κ×V),Qfk=(vW kvs k).isSome
 | []=>rfl
 | p::r=>by
  rw[vx];by_cases e:p.1=k
  .simp only[tD e,p8 e,Bool.true_or,Option.isSome_some]
  .rw[qu e,qr e,Bool.false_or];exact QZ k r
theorem Eh(kvs:QbG)(k:κ)(v:V):(putK kvs k v).length<=kvs.length+1:=by
 unfold putK;split
 .rw[dm];lia
 .rw[n6,o1,List.length_nil];lia
theorem zK.Zx{o:QdW}{u:Qf8}(r:zK o u):o.isSome=u.isSome:=by
 cases o with
 | none=>cases u with
  | none=>rfl
  | some _=>exact(show False from r).elim
 | some _=>cases u with
  | none=>exact(show False from r).elim
  | some _=>rfl
theorem zK.getD{o:QdW}{u:Qf8}{d:V}{d':Value}(r:zK o u)(rd:RelV d d'):RelV (o.getD d) (u.getD d'):=by
 cases o with
 | none=>cases u with
  | none=>exact rd
  | some _=>exact(show False from r).elim
 | some _=>cases u with
  | none=>exact(show False from r).elim
  | some _=>exact r
theorem KV.val{kvs:QbG}{vs:QdM}(r:Qdy)(k:κ):zK (vW kvs k) (valueAt vs k):=by
 unfold KV at r
 induction r with
 | nil=>exact True.intro
 | @cons p q ps a h t d=>
  obtain⟨h1,h2⟩:=h;by_cases e:p.1=k
  .have c:q.1=k:=h1.symm.trans e;have b:valueAt (q::a) k=some q.2:=by simp[valueAt,yn,c]
   rw[tD e,b];exact h2
  .have c:¬ q.1=k:=λz=>e (h1.trans z);have b:valueAt (q::a) k=valueAt a k:=by simp[valueAt,yn,c]
   rw[qu e,b];exact d
theorem KV.any{kvs:QbG}{vs:QdM}(r:Qdy)(k:κ):Qfk=vs.any λa=>decide (a.1=k):=by
 unfold KV at r
 induction r with
 | nil=>rfl
 | cons h t b=>rw[vx,vx,b,h.1]
theorem KV.rf{kvs:QbG}{vs:QdM}(r:Qdy)(k:κ){y:V}{u:Value}(b:QcI) :
  KV Qkz (vs.map λa=>if a.1=k then(a.1,u) else a):=by
 unfold KV at r ⊢
 induction r with
 | nil=>exact .nil
 | @cons p q ps d h t c=>
  rw[og,og];refine .cons ?_ c;obtain⟨h1,h2⟩:=h;by_cases e:p.1=k
  .rw[cq e,cq (h1.symm.trans e)];exact⟨h1,b⟩
  .rw[bF e,bF (λz=>e (h1.trans z))];exact⟨h1,h2⟩
theorem KV.put{kvs:QbG}{vs:QdM}(r:Qdy)(k:κ){y:V}{u:Value}(a:QcI):KV (putK kvs k y) (stored vs k u):=by
 unfold putK stored;rw[r.any k];by_cases e:(vs.any λb=>decide (b.1=k))=true
 .rw[cq e,cq e];exact r.rf k a
 .rw[bF e,bF e];exact Paired.snoc r ⟨rfl,a⟩
theorem KV.keys{kvs:QbG}{vs:QdM}(r:Qdy):kvs.map (·.1)=vs.map (·.1):=by
 unfold KV at r
 induction r with
 | nil=>rfl
 | cons h t a=>rw[og,og,a,h.1]
theorem KV.length{kvs:QbG}{vs:QdM}(r:Qdy):kvs.length=vs.length:=Paired.length r
end
variable{u:Value}
theorem alS{k:Key}(r:RelV (kV k) u):(iz P w).is k u=true:=by
 cases k with
 | inl i=>obtain⟨t,e⟩:=(show ∃t,u=Value.int i t from r);subst e;exact QG P w i t
 | inr x=>obtain⟨t,e⟩:=(show ∃t,u=Value.str x t from r);subst e;exact QH P w x t
theorem Lh{P:Qak}{w:World}:∀{ks:EO} {us:B2},Vals (ks.map kV) us->ItemsAre Qdt ks us
 | [],_,r=>by rw[List.map_nil]at r;cases r;exact .nil
 | k::ks,_,r=>by
  rw[og]at r;cases r with
  | cons h t=>exact .cons (alS h) (Lh t)
abbrev KT(H:Hp):Bz->List Qfy->Prop:=Paired λp q=>p.1=q.1/\H q.2.1=some (.tup (p.1.map kV))/\RelV p.2 q.2.2
variable{kvs:Bz}{xs:List Qfy}
theorem KT.val(r:KT H kvs xs)(k:EO):zK (vW kvs k) ((atKey xs k).map (·.2)):=by
 induction r with
 | nil=>exact True.intro
 | @cons p q ps a h t d=>
  obtain⟨h1,_,h2⟩:=h;by_cases e:p.1=k
  .have c:q.1=k:=h1.symm.trans e;have b:atKey (q::a) k=some q.2:=by simp[atKey,yn,c]
   rw[tD e,b];exact h2
  .have c:¬ q.1=k:=λz=>e (h1.trans z);have b:atKey (q::a) k=atKey a k:=by simp[atKey,yn,c]
   rw[qu e,b];exact d
variable{y:V}
theorem KT.rf(r:KT H kvs xs)(k:EO)(b:QcI) :
  KT H Qkz (xs.map (putAt k u)):=by
 induction r with
 | nil=>exact .nil
 | @cons p q ps f h t c=>
  rw[og,og];refine .cons ?_ c;obtain⟨h1,h2,d⟩:=h;unfold putAt;by_cases e:p.1=k
  .rw[cq e,cq (h1.symm.trans e)];exact⟨h1,h2,b⟩
  .rw[bF e,bF (λz=>e (h1.trans z))];exact⟨h1,h2,d⟩
theorem KT.put(r:KT H kvs xs)(k:EO){b:Addr}(d:H b=some (.tup (k.map kV)))(a:QcI) :
  KT H (putK kvs k y) (storedH xs k b u):=by
 have e:(kvs.any λc=>decide (c.1=k))=(atKey xs k).isSome:=by
  rw[QZ,(r.val k).Zx,Option.isSome_map]
 unfold putK storedH;rw[e];by_cases q:(atKey xs k).isSome=true
 .rw[cq q,cq q];exact r.rf k a
 .rw[bF q,bF q];exact Paired.snoc r ⟨rfl,d,a⟩
theorem KT.keeps(r:KT H kvs xs)(a:∀b ys,H b=some (.tup ys)->H' b=some (.tup ys)):KT H' kvs xs:=
 Paired.SH r λ_ _ z=>⟨z.1,a _ _ z.2.1,z.2.2⟩
variable{h:Heap}
def alT{u:HO}(ok:Qbu)(e:Rd H a u):gQ P w H h a u:=e.ok ok
def asi{kvs:Cl}(ok:Qbu)(e:Rd H a Qb5):kvs.length<=sizeLine/\Qc8=false/\∃vs,KV kvs vs/\h.DictOf Qdt a vs:=
 show gQ P w H h a Qb5 from alT ok e
def alU{kvs:Cl}(ok:Qbu)(e:H a=some Qb5):kvs.length<=sizeLine/\Qc8=false/\∃vs,KV kvs vs/\h.DictOf Qdt a vs:=asi ok (.inl e)
def adw{ks:EO}(ok:Qbu)(e:H a=some (.tup (ks.map kV))):(tupleKind Qdt).is h ks a:=by
 obtain⟨_,its,r,o,h1,h2,n,b⟩:=(show gQ P w H h a (.tup (ks.map kV)) from ok a _ e);exact⟨o,its.toArray,n,h1,h2,b,by simpa using Lh r⟩
def asj(ok:Qbu)(e:Rd H a (.dT kvs)):kvs.length<=sizeLine/\Qc8=false ∧
  ∃xs,KT H kvs xs/\h.DictOfH Qkc a xs:=by
 obtain⟨z,y,xs,r,o,es,ep,h1,h2,i,g,f⟩:=(show gQ P w H h a (.dT kvs) from alT ok e);refine⟨z,y,xs,r,o,es,ep,h1,h2,i,g,λx b=>?_,f⟩;have all:∀{l:Bz} {m:List Qfy},KT H l m->∀x∈m,(tupleKind Qdt).is h x.1 x.2.1:=by
  intro l m q
  induction q with
  | nil=>intro x b;exact nomatch b
  | @cons p q ps j c t d=>
   intro x b;obtain e|b:=eu.1 b
   .subst e;exact adw ok (by rw[← c.1];exact c.2.1)
   .exact d x b
 exact all r x b
def asl(ok:Qbu)(e:H a=some (.dT kvs)):kvs.length<=sizeLine/\Qc8=false ∧
  ∃xs,KT H kvs xs/\h.DictOfH Qkc a xs:=asj ok (.inl e)
def LS(H:Hp)(a:Addr)(y v:V)(H':Hp):Prop:=
 (∃kvs k,H a=some Qb5/\y=kV k/\kvs.length<sizeLine/\H'=upd H a (.dK (putK kvs k v))) ∨
 ∃kvs k b,H a=some (.dT kvs)/\y=.ref b/\H b=some (.tup (k.map kV))/\kvs.length<sizeLine/\H'=upd H a (.dT (putK kvs k v))
theorem LS.k{kvs:Cl}{k:Key}{v:V}(e:H a=some Qb5)(b:kvs.length<sizeLine):LS H a (kV k) v (upd H a (.dK (putK kvs k v))):=.inl ⟨kvs,k,e,rfl,b,rfl⟩
variable{pins:BM}{σ:St}{s:Qb}{v:V}{r:Value}{A:Qal}{E:BS}
theorem Inv.big(I:Qz):sysModules<s.heap.objs.size:=by
 have h:mainGlobals<s.heap.objs.size:=(I.mod.glob.keeps I.bk).lt;exact Nat.lt_trans Wp h
noncomputable def Xu{h':Heap}{t':Nat}{c:HO}(I:Qz)(d:Nm (H a))(hs:Heap.SameBut a s.heap h')(he:∃q,h'.get? a=some q)(new:gQ X.prog X.w (upd H a c) h' a c) :
  Inv X pins σ (upd H a c) {s with heap:=h',toks:=t'}:=
 I.write (x:=a) (e:=a) d Qac (λb q f z=>(hs.2 b f).trans z) he new
def anz{h':Heap}{kvs:Cl}{vs:List (Key×Value)}(z:kvs.length<=sizeLine)(hd:Qc8=false)(rel:Qdy)(dd:h'.DictOf Qdt a vs) :
  gQ P w H' h' a Qb5:=⟨z,hd,vs,rel,dd⟩
theorem Zy{Q:Qfz}(x:A.units+1<cLine)(I:Qz)(g:LS H a y v H')(n:QcI)(o:RelV v r)(h:∀s',Inv X pins σ H' s'->Q () s') :
  wpAny Qr A (setItem Qaj u r) Q E s:=by
 obtain⟨kvs,k,e,j,l,m⟩|⟨kvs,k,b,e,j,t,l,m⟩:=g
 .subst j m;obtain⟨z,hd,vs,rel,dd⟩:=alU I.fC e;have hz:vs.length<=sizeLine:=by rw[← rel.length];exact z
  have i:(putK kvs k v).length<=sizeLine:=by have:=Eh kvs k v;lia
  refine wpAny_setItem_pairs (hsz:=hz) (alS n) dd λh' d hs=>h _ ?_;have he:∃q,h'.get? a=some q:=let ⟨q,_,_,f,_⟩:=d;⟨q,f⟩;exact Xu I (by rw[e];exact True.intro) hs he (anz i hd (rel.put k o) d)
 .subst j m;cases (show u=Value.ref b from n);obtain⟨z,hd,xs,rel,dd⟩:=asl I.fC e;have hz:xs.length<=sizeLine:=by rw[← Paired.length rel];exact z
  have i:(putK kvs k v).length<=sizeLine:=by have:=Eh kvs k v;lia
  refine wpAny_setItem_heap (hsz:=hz) (tupleKind_room_in1 x) (adw I.fC t) dd λh' d hs=>h _ ?_;obtain⟨q,es,ep,f,h2,D,C,_,B⟩:=d;refine Xu I (by rw[e];exact True.intro) hs ⟨q,f⟩ ⟨i,hd,_,(rel.put k t o).keeps λc ys p=>?_,q,es,ep,f,h2,D,C,B⟩;rw[az (arF p e (λz=>nomatch z))];exact p
noncomputable def asn(td ty tv:TE):TS:=λD σ H=>tv σ H λv H1=>td σ H1 λx H2=>ty σ H2 λy c=>∃a b,x=.ref a/\LS c a y v b/\D.nx σ b
variable{o i value:Expr}{pos pos':Pos}{td ty tv:TE}
def aia(k:X.A.units+1<cLine)(l:PE X o td)(hi:PE X i ty)(hv:PE X value tv)(hs:swapsWith value (some (.Subscript o i pos')) pos.line X.env=pure false) :
  PS X (.Assign [.Subscript o i pos'] value pos) (asn td ty tv):=by
 intro pins s σ H D I h;refine wpAny_Assign_Subscript (fX (hv pins s σ H _ I h) λr s1 ⟨v,H1,q,d,j⟩=>fX (l pins s1 σ H1 _ q j) λu s2 ⟨x,H2,p,c,f⟩=>fX (hi pins s2 σ H2 _ p f) λw s3 zz=>?_) hs;obtain⟨y,z,n,b,a,t,ex,g,e⟩:=zz;subst ex;obtain rfl:u=Value.ref a:=c;exact Zy k n g b d λs4 m=>⟨σ,t,m,e⟩
noncomputable def ady(h:Heap)(a:sysModules<h.objs.size):gQ P w H (h.push {cls:=.type "dict",data:=.dict #[]}) h.objs.size (.dK []):=
 ⟨nZ _,Mo.2 (qs (oI a)),[],.nil,Heap.DictOf.new h⟩
def anA:TE:=λ_ H Q=>∀p,H p=none->Q Qdz QhL
def adz:PE X (.Dict [] [] pos) anA:=λpins s σ H Q I h=>
 wpAny_Dict_empty ⟨.ref s.heap.objs.size,_,I.laid (a:=s.heap.objs.size) (o:=.dK []) (t':=s.toks) (λ_ _ q=>ot _ q) (iP _) (ady s.heap I.big),rfl,h _ QhA⟩
structure M2(X:Cx)(o:Expr)(m:Str)(apos:Pos)(e f:Expr)(vV:Pos):Prop where
 base:attributeBase o m X.env (eval o X.env)=eval o X.env
 few:((backTo vV (starEach [e,f] X.env)).all QfZ&&(backToKw vV Qff).all QfA
  && decide (([e,f]:Cc).length+([]:ES).length+Qfi<30))=true
 line:Qjt=true
 trees:backTo vV (starEach [e,f] X.env)=[(false,eval e X.env),(false,eval f X.env)]
end L2
namespace L3
open PySem PySem.Spec PyProof.Rows L2
inductive D where
 | non|bl (b:Bool)|int (i:Int)|str (x:Str)
 | tup (ds:List D)|lst (ds:List D)|ins (c:Str) (fs:List (Str×D))|tE (kvs:List (Key×D))
 | dct (kvs:List (EO×D))
 | any
 | val (v:V)
 | Ei (w:World) (ds es:List D)
abbrev _root_.BB:=List D
abbrev _root_.CI:=List (Key×D)
inductive T where
 | sh (d:D)|tup (ts:List T)|lst (ts:List T)|ins (c:Str) (fs:List (Str×T))|tE (kvs:CI)|dct (kvs:List (EO×T))
 | pin (x:Addr) (t:T)
 | Ei (w:World) (ds es:BB)
abbrev _root_.B1:=List (Str×T)
abbrev _root_.Bi:=List T
abbrev _root_.Cf:=List (EO×T)
abbrev _root_.DO:=List (EO×D)
abbrev _root_.Do:=List (Str×D)
mutual
def T.gM:T->D
 | .sh d=>d
 | .tup ts=>.tup (fO ts)
 | .lst ts=>.lst (fO ts)
 | .ins c fs=>.ins c (vO fs)
 | .tE kvs=>.tE kvs
 | .dct kvs=>.dct (SF kvs)
 | .pin _ t=>t.gM
 | .Ei w ds es=>.Ei w ds es
def T.fO:Bi->BB
 | []=>[]
 | t::ts=>t.gM::T.fO ts
def T.vO:B1->Do
 | []=>[]
 | (x,t)::fs=>(x,t.gM)::T.vO fs
def T.SF:Cf->DO
 | []=>[]
 | (x,t)::fs=>(x,t.gM)::T.SF fs
end
mutual
def D.NI(w:World):D->Int
 | .int i=>hashInt i
 | .str x => hashStr w x
 | .tup ds=>reduceHash (Builtin.Tuple.tupleHashOf (D.YO w ds))
 | _=>0
def D.YO(w:World):BB->AT
 | []=>[]
 | d::ds=>d.NI w::D.YO w ds
end
def IxP(w:World)(a:Addr)(ds:BB)(vs us:BY)(h:Heap):Prop:=
 Qc8=false/\∃(xs:List (D×Addr×Value)) (o:Obj) (es:Array DictEntry) (ep:Nat),h.get? a=some o/\o.ExactDict/\o.data=.dict es ep/\es.toList=xs.map (λx=>⟨x.1.NI w,.ref x.2.1,x.2.2⟩)/\xs.map (·.1)=ds/\xs.map (λx=>V.ref x.2.1)=vs/\Vals us (xs.map λx=>x.2.2)
abbrev _root_.BC:=Str->Addr
variable(K:Frag)(CL:BC)
mutual
inductive bW(Z:Hp):D->V->Prop where
 | non:bW Z .non .non
 | bl (b:Bool):bW Z (.bl b) (.bl b)
 | int (i:Int):bW Z QaL QaL
 | str (x:Str):bW Z Qbj Qbj
 | any (v:V):bW Z .any v
 | val (v:V):bW Z Qdq v
 | tup {a:Addr} {vs:BY} {ds:BB}:AG K Z a vs->aG Z ds vs->bW Z Qb6 Qaj
 | lst {a:Addr} {vs:BY} {ds:BB}:oG K Z a vs->aG Z ds vs->bW Z QcC Qaj
 | ins {a dx:Addr} {c:Str} {gs:CA} {fs:Do}:Z a=some QeD->nV Z fs gs->bW Z Qa4 Qaj
 | tE {a:Addr} {gs:Cl} {fs:CI}:Z a=some (.dK gs)->c7 Z fs gs->bW Z (.tE fs) Qaj
 | dct {a:Addr} {gs:Bz} {fs:DO}:Rd Z a Qeb->qv Z fs gs->bW Z (.dct fs) Qaj
 | Ei {a:Addr} {w:World} {vs us:BY} {ds es:BB}:Z a=some (.ext (IxP w a ds vs us))->aG Z ds vs->aG Z es us->bW Z (.Ei w ds es) Qaj
inductive aG(Z:Hp):BB->BY->Prop where
 | nil:aG Z [] []
 | cons {d:D} {v:V} {ds:BB} {vs:BY}:bW Z d v->aG Z ds vs->aG Z (d::ds) QaP
inductive nV(Z:Hp):Do->CA->Prop where
 | nil:nV Z [] []
 | cons {x:Str} {d:D} {v:V} {ds:Do} {vs:CA}:bW Z d v->nV Z ds vs->nV Z ((x,d)::ds) ((x,v)::vs)
inductive c7(Z:Hp):CI->Cl->Prop where
 | nil:c7 Z [] []
 | cons {x:Key} {d:D} {v:V} {ds:CI} {vs:Cl}:bW Z d v->c7 Z ds vs->c7 Z ((x,d)::ds) ((x,v)::vs)
inductive qv(Z:Hp):DO->Bz->Prop where
 | nil:qv Z [] []
 | cons {x:EO} {d:D} {v:V} {ds:DO} {vs:Bz}:bW Z d v->qv Z ds vs->qv Z ((x,d)::ds) ((x,v)::vs)
end
mutual
inductive bU(H Z:Hp):T->V->BN->Prop where
 | sh {d:D} {v:V}:bW K CL Z d v->bU H Z Qey v []
 | tup {a:Addr} {vs:BY} {ts:Bi} {fp:BN}:Z a=some (.tup vs)->bA H Z ts vs fp->bU H Z (.tup ts) Qaj fp
 | lst {a:Addr} {vs:BY} {ts:Bi} {fp:BN}:H a=some (.lst vs)->bA H Z ts vs fp->bU H Z (.lst ts) Qaj (a::fp)
 | ins {a dx:Addr} {c:Str} {gs:CA} {fs:B1} {fp:BN}:H a=some QeD->dO H Z fs gs fp->bU H Z Qa4 Qaj (a::fp)
 | tE {a:Addr} {gs:Cl} {kvs:CI}:H a=some (.dK gs)->c7 K CL Z kvs gs->bU H Z (.tE kvs) Qaj [a]
 | dct {a:Addr} {gs:Bz} {kvs:Cf} {fp:BN}:H a=some Qeb->fW H Z kvs gs fp->bU H Z (.dct kvs) Qaj (a::fp)
 | pin {x:Addr} {t:T} {fp:BN}:bU H Z t QaV fp->bU H Z (.pin x t) QaV fp
 | Ei {a:Addr} {w:World} {vs us:BY} {ds es:BB}:H a=some (.ext (IxP w a ds vs us))->aG K CL Z ds vs->aG K CL Z es us->bU H Z (.Ei w ds es) Qaj [a]
inductive bA(H Z:Hp):Bi->BY->BN->Prop where
 | nil:bA H Z [] [] []
 | cons {t:T} {v:V} {ts:Bi} {vs:BY} {fp gp:BN}:bU H Z t v fp->bA H Z ts vs gp->bA H Z (t::ts) QaP (fp++gp)
inductive dO(H Z:Hp):B1->CA->BN->Prop where
 | nil:dO H Z [] [] []
 | cons {x:Str} {t:T} {v:V} {ts:B1} {vs:CA} {fp gp:BN}:bU H Z t v fp->dO H Z ts vs gp->dO H Z ((x,t)::ts) ((x,v)::vs) (fp++gp)
inductive fW(H Z:Hp):Cf->Bz->BN->Prop where
 | nil:fW H Z [] [] []
 | cons {x:EO} {t:T} {v:V} {ts:Cf} {vs:Bz} {fp gp:BN}:bU H Z t v fp->fW H Z ts vs gp->fW H Z ((x,t)::ts) ((x,v)::vs) (fp++gp)
end
abbrev _root_.BA:=List (Option T)
inductive fH(H Z:Hp):BA->L2.St->BN->Prop where
 | nil:fH H Z [] [] []
 | skip {o:QdW} {δ:BA} {σ:L2.St} {fp:BN}:fH H Z δ σ fp->fH H Z (none::δ) (o::σ) fp
 | cons {t:T} {v:V} {δ:BA} {σ:L2.St} {fp gp:BN}:bU K CL H Z t v fp->fH H Z δ σ gp->fH H Z (some t::δ) (some v::σ) (fp++gp)
variable{K:Frag}{CL:BC}{H H':Hp}{a:Addr}
theorem Rd.mono{u:HO}(e:QbW)(h:Rd H a u):Rd H' a u:=h.imp (e _ _) λ⟨o,q⟩=>⟨o,e _ _ q⟩
variable{xs:BY}
theorem aM.u7(e:QbW)(h:AG K H a xs):AG K H' a xs:=by
 rcases h with(h|⟨o,h⟩)|h
 .exact .inl (.inl QdH)
 .exact .inl (.inr ⟨o,e _ _ h⟩)
 .exact .inr h
variable{Z Z':Hp}{v:V}
theorem bW.mono(e:Qbw){d:D}(h:Qde):bW K CL Z' d v:=
 bW.rec
  .non .bl .int .str .any .val QgM QgR Qg0 Qg5 QgH QgN .nil QaQ .nil QaQ .nil QaQ .nil QaQ h
theorem aG.mono(e:Qbw){d:BB}{v:BY}(h:aG K CL Z d v):aG K CL Z' d v:=
 aG.rec
  .non .bl .int .str .any .val QgM QgR Qg0 Qg5 QgH QgN .nil QaQ .nil QaQ .nil QaQ .nil QaQ h
theorem nV.mono(e:Qbw){d:Do}{v:CA}(h:nV K CL Z d v):nV K CL Z' d v:=
 nV.rec
  .non .bl .int .str .any .val QgM QgR Qg0 Qg5 QgH QgN .nil QaQ .nil QaQ .nil QaQ .nil QaQ h
theorem c7.mono(e:Qbw){d:CI}{v:Cl}(h:c7 K CL Z d v):c7 K CL Z' d v:=
 c7.rec
  .non .bl .int .str .any .val QgM QgR Qg0 Qg5 QgH QgN .nil QaQ .nil QaQ .nil QaQ .nil QaQ h
variable{t:T}{fp:BN}
theorem bU.mono(e:Qbw)(k:∀a∈fp,H' a=H a)(h:QfG):bU K CL H' Z' t v fp:=
 bU.rec (motive_2:=λt v fp _=>(∀a∈fp,H' a=H a)->bA K CL H' Z' t v fp) (motive_3:=λt v fp _=>(∀a∈fp,H' a=H a)->dO K CL H' Z' t v fp) (motive_4:=λt v fp _=>(∀a∈fp,H' a=H a)->fW K CL H' Z' t v fp)
  (λh _=>.sh (h.mono e)) QgJ Qgs Qgt Qgp Qgu Qhf Qgj QaJ Qbx QaJ Qbx QaJ Qbx h k
theorem bA.mono(e:Qbw){t:Bi}{v:BY}(k:∀a∈fp,H' a=H a)(h:bA K CL H Z t v fp):bA K CL H' Z' t v fp:=
 bA.rec (motive_1:=λt v fp _=>(∀a∈fp,H' a=H a)->bU K CL H' Z' t v fp) (motive_3:=λt v fp _=>(∀a∈fp,H' a=H a)->dO K CL H' Z' t v fp) (motive_4:=λt v fp _=>(∀a∈fp,H' a=H a)->fW K CL H' Z' t v fp)
  (λh _=>.sh (h.mono e)) QgJ Qgs Qgt Qgp Qgu Qhf Qgj QaJ Qbx QaJ Qbx QaJ Qbx h k
theorem dO.mono(e:Qbw){t:B1}{v:CA}(k:∀a∈fp,H' a=H a)(h:dO K CL H Z t v fp):dO K CL H' Z' t v fp:=
 dO.rec (motive_1:=λt v fp _=>(∀a∈fp,H' a=H a)->bU K CL H' Z' t v fp) (motive_2:=λt v fp _=>(∀a∈fp,H' a=H a)->bA K CL H' Z' t v fp) (motive_4:=λt v fp _=>(∀a∈fp,H' a=H a)->fW K CL H' Z' t v fp)
  (λh _=>.sh (h.mono e)) QgJ Qgs Qgt Qgp Qgu Qhf Qgj QaJ Qbx QaJ Qbx QaJ Qbx h k
theorem fW.mono(e:Qbw){t:Cf}{v:Bz}(k:∀a∈fp,H' a=H a)(h:fW K CL H Z t v fp):fW K CL H' Z' t v fp:=
 fW.rec (motive_1:=λt v fp _=>(∀a∈fp,H' a=H a)->bU K CL H' Z' t v fp) (motive_2:=λt v fp _=>(∀a∈fp,H' a=H a)->bA K CL H' Z' t v fp) (motive_3:=λt v fp _=>(∀a∈fp,H' a=H a)->dO K CL H' Z' t v fp)
  (λh _=>.sh (h.mono e)) QgJ Qgs Qgt Qgp Qgu Qhf Qgj QaJ Qbx QaJ Qbx QaJ Qbx h k
theorem bU.there(h:QfG):∀a∈fp,∃o,H a=some o:=
 bU.rec (motive_3:=λt v fp _=>∀a∈fp,∃o,H a=some o) (motive_4:=λt v fp _=>∀a∈fp,∃o,H a=some o)
  (λ_ a b=>absurd b oe) QhY (λh _ r a b=>(eu.1 b).elim (λq=>⟨_,q▸h⟩) (r a)) (λh _ r a b=>(eu.1 b).elim (λq=>⟨_,q▸h⟩) (r a)) (λh _ a b=>(eu.1 b).elim (λq=>⟨_,q▸h⟩) QcV) (λh _ r a b=>(eu.1 b).elim (λq=>⟨_,q▸h⟩) (r a)) Qh9 (λh _ _ a b=>(eu.1 b).elim (λq=>⟨_,q▸h⟩) QcV) QbA Qby QbA Qby QbA Qby h
theorem bA.there{t:Bi}{v:BY}(h:bA K CL H Z t v fp):∀a∈fp,∃o,H a=some o:=
 bA.rec (motive_1:=λt v fp _=>∀a∈fp,∃o,H a=some o) (motive_3:=λt v fp _=>∀a∈fp,∃o,H a=some o) (motive_4:=λt v fp _=>∀a∈fp,∃o,H a=some o)
  (λ_ a b=>absurd b oe) QhY (λh _ r a b=>(eu.1 b).elim (λq=>⟨_,q▸h⟩) (r a)) (λh _ r a b=>(eu.1 b).elim (λq=>⟨_,q▸h⟩) (r a)) (λh _ a b=>(eu.1 b).elim (λq=>⟨_,q▸h⟩) QcV) (λh _ r a b=>(eu.1 b).elim (λq=>⟨_,q▸h⟩) (r a)) Qh9 (λh _ _ a b=>(eu.1 b).elim (λq=>⟨_,q▸h⟩) QcV) QbA Qby QbA Qby QbA Qby h
theorem dO.there{t:B1}{v:CA}(h:dO K CL H Z t v fp):∀a∈fp,∃o,H a=some o:=
 dO.rec (motive_1:=λt v fp _=>∀a∈fp,∃o,H a=some o) (motive_2:=λt v fp _=>∀a∈fp,∃o,H a=some o) (motive_3:=λt v fp _=>∀a∈fp,∃o,H a=some o) (motive_4:=λt v fp _=>∀a∈fp,∃o,H a=some o)
  (λ_ a b=>absurd b oe) QhY (λh _ r a b=>(eu.1 b).elim (λq=>⟨_,q▸h⟩) (r a)) (λh _ r a b=>(eu.1 b).elim (λq=>⟨_,q▸h⟩) (r a)) (λh _ a b=>(eu.1 b).elim (λq=>⟨_,q▸h⟩) QcV) (λh _ r a b=>(eu.1 b).elim (λq=>⟨_,q▸h⟩) (r a)) Qh9 (λh _ _ a b=>(eu.1 b).elim (λq=>⟨_,q▸h⟩) QcV) QbA Qby QbA Qby QbA Qby h
theorem fW.there{t:Cf}{v:Bz}(h:fW K CL H Z t v fp):∀a∈fp,∃o,H a=some o:=
 fW.rec (motive_1:=λt v fp _=>∀a∈fp,∃o,H a=some o) (motive_2:=λt v fp _=>∀a∈fp,∃o,H a=some o) (motive_3:=λt v fp _=>∀a∈fp,∃o,H a=some o) (motive_4:=λt v fp _=>∀a∈fp,∃o,H a=some o)
  (λ_ a b=>absurd b oe) QhY (λh _ r a b=>(eu.1 b).elim (λq=>⟨_,q▸h⟩) (r a)) (λh _ r a b=>(eu.1 b).elim (λq=>⟨_,q▸h⟩) (r a)) (λh _ a b=>(eu.1 b).elim (λq=>⟨_,q▸h⟩) QcV) (λh _ r a b=>(eu.1 b).elim (λq=>⟨_,q▸h⟩) (r a)) Qh9 (λh _ _ a b=>(eu.1 b).elim (λq=>⟨_,q▸h⟩) QcV) QbA Qby QbA Qby QbA Qby h
theorem bU.gM(e:Qbw)(k:∀a∈fp,Z' a=H a)(h:QfG):bW K CL Z' t.gM v:=
 bU.rec (motive_2:=λt v fp _=>(∀a∈fp,Z' a=H a)->aG K CL Z' _ v) (motive_3:=λt v fp _=>(∀a∈fp,Z' a=H a)->nV K CL Z' _ v) (motive_4:=λt v fp _=>(∀a∈fp,Z' a=H a)->qv K CL Z' _ v)
  (λh _=>by exact h.mono e) (λh _ r k=>by exact .tup (AG.of QdH) (r k)) (λh _ r k=>by exact .lst (oG.of ((k _ eU).trans h)) Qef) (λh _ r k=>by exact .ins ((k _ eU).trans h) Qef) (λh f k=>by exact .tE ((k _ eU).trans h) (c7.mono e f)) (λh _ r k=>by exact .dct (.inl ((k _ eU).trans h)) Qef) (λ_ r k=>by rw[T.gM];exact r k) (λh f g k=>by exact .Ei ((k _ eU).trans h) (aG.mono e f) (aG.mono e g)) (λ_=>by exact .nil) (λ_ _ h r k=>by rw[T.fO];exact .cons Qjh Qji) (λ_=>by rw[T.vO];exact .nil) (λ_ _ h r k=>by exact .cons Qjh Qji) (λ_=>by exact .nil) (λ_ _ h r k=>by rw[T.SF];exact .cons Qjh Qji) h k
variable{vs:BY}
theorem aG.ind{P:BB->BY->Prop}(n:P [] [])(c:∀{d:D} {v:V} {ds:BB} {vs:BY},bW K CL Z d v->aG K CL Z ds vs->P ds vs->P (d::ds) QaP){ds:BB}(h:QeK):P ds vs:=
 aG.rec (motive_1:=λ_ _ _=>True) (motive_3:=λ_ _ _=>True) (motive_4:=λ_ _ _=>True) (motive_5:=λ_ _ _=>True)
  trivial QaZ QaZ QaZ QaZ QaZ Qae Qae Qae Qae Qae Qhb n Qeu trivial Qaq trivial Qaq trivial Qaq h
theorem c7.ind{P:CI->Cl->Prop}(n:P [] [])(c:∀{x:Key} {d:D} {v:V} {ds:CI} {vs:Cl},bW K CL Z d v->c7 K CL Z ds vs->P ds vs->P ((x,d)::ds) ((x,v)::vs)){ds:CI}{vs:Cl}(h:c7 K CL Z ds vs):P ds vs:=
 c7.rec (motive_1:=λ_ _ _=>True) (motive_2:=λ_ _ _=>True) (motive_3:=λ_ _ _=>True) (motive_5:=λ_ _ _=>True)
  trivial QaZ QaZ QaZ QaZ QaZ Qae Qae Qae Qae Qae Qhb trivial Qaq trivial Qaq n Qeu trivial Qaq h
theorem qv.ind{P:DO->Bz->Prop}(n:P [] [])(c:∀{x:EO} {d:D} {v:V} {ds:DO} {vs:Bz},bW K CL Z d v->qv K CL Z ds vs->P ds vs->P ((x,d)::ds) ((x,v)::vs)){ds:DO}{vs:Bz}(h:qv K CL Z ds vs):P ds vs:=
 qv.rec (motive_1:=λ_ _ _=>True) (motive_2:=λ_ _ _=>True) (motive_3:=λ_ _ _=>True) (motive_4:=λ_ _ _=>True) (motive_5:=λd v _=>P d v)
  trivial QaZ QaZ QaZ QaZ QaZ Qae Qae Qae Qae Qae Qhb trivial Qaq trivial Qaq trivial Qaq n Qeu h
variable{ts:Bi}
theorem bA.ind{P:Bi->BY->BN->Prop}(n:P [] [] [])(c:∀{t:T} {v:V} {ts:Bi} {vs:BY} {fp gp:BN},bU K CL H Z t v fp->bA K CL H Z ts vs gp->P ts vs gp->P (t::ts) QaP (fp++gp))(h:bA K CL H Z ts vs fp):P ts vs fp:=
 bA.rec (motive_1:=λ_ _ _ _=>True) (motive_3:=λ_ _ _ _=>True) (motive_4:=λ_ _ _ _=>True)
  (λ_=>trivial) Qae Qae Qae QcY Qae QcY Qae n Qeu trivial Qaq trivial Qaq h
theorem dO.ind{P:B1->CA->BN->Prop}(n:P [] [] [])(c:∀{x:Str} {t:T} {v:V} {ts:B1} {vs:CA} {fp gp:BN},bU K CL H Z t v fp->dO K CL H Z ts vs gp->P ts vs gp->P ((x,t)::ts) ((x,v)::vs) (fp++gp)){ts:B1}{vs:CA}(h:dO K CL H Z ts vs fp):P ts vs fp:=
 dO.rec (motive_1:=λ_ _ _ _=>True) (motive_2:=λ_ _ _ _=>True) (motive_4:=λ_ _ _ _=>True)
  (λ_=>trivial) Qae Qae Qae QcY Qae QcY Qae trivial Qaq n Qeu trivial Qaq h
theorem fW.ind{P:Cf->Bz->BN->Prop}(n:P [] [] [])(c:∀{x:EO} {t:T} {v:V} {ts:Cf} {vs:Bz} {fp gp:BN},bU K CL H Z t v fp->fW K CL H Z ts vs gp->P ts vs gp->P ((x,t)::ts) ((x,v)::vs) (fp++gp)){ts:Cf}{vs:Bz}(h:fW K CL H Z ts vs fp):P ts vs fp:=
 fW.rec (motive_1:=λ_ _ _ _=>True) (motive_2:=λ_ _ _ _=>True) (motive_3:=λ_ _ _ _=>True)
  (λ_=>trivial) Qae Qae Qae QcY Qae QcY Qae trivial Qaq trivial Qaq n Qeu h
theorem aG.length{d:BB}{v:BY}(h:aG K CL Z d v):d.length=v.length:=
 aG.ind (P:=λd v=>d.length=v.length) rfl Qg6 h
theorem bA.length{d:Bi}{v:BY}(h:bA K CL H Z d v fp):d.length=v.length:=
 bA.ind (P:=λd v _=>d.length=v.length) rfl Qg6 h
theorem fH.length{d:BA}{v:L2.St}(h:fH K CL H Z d v fp):d.length=v.length:=by
 induction h with
 | nil=>rfl
 | skip _ i=>exact congrArg (· + 1) i
 | cons _ _ i=>exact congrArg (· + 1) i
theorem aG.get{Z:Hp}:∀{ds:BB} {vs:BY} {i:Nat} {d:D},aG K CL Z ds vs->ds[i]? = some d->∃v,vs[i]? = some v/\bW K CL Z d v
 | _,_,_,_,.nil,e=>by simp at e
 | _,_,0,_,.cons r _,e=>by simp_all
 | _,_,i+1,d,.cons _ t,e=>by
  obtain⟨u,h1,h2⟩:=aG.get t (‹_›);exact⟨u,‹_›,h2⟩
theorem aG.Zz{Z:Hp}:∀{ds:BB} {vs:BY} {i:Nat} {v:V},aG K CL Z ds vs->vs[i]? = some v->∃d,ds[i]? = some d/\bW K CL Z d v
 | _,_,_,_,.nil,e=>by simp at e
 | _,_,0,_,.cons r _,e=>by simp_all
 | _,_,i+1,d,.cons _ t,e=>by
  obtain⟨u,h1,h2⟩:=aG.Zz t (‹_›);simp_all
theorem fH.get:∀{δ:BA} {σ:L2.St} {fp:BN} {i:Nat} {t:T},fH K CL H Z δ σ fp->δ[i]? = some Qar →
  ∃v f1 f2 c,σ[i]? = some Qat/\fp=f1++(f2++c)/\bU K CL H Z t v f2 ∧
   (∀{H' Z':Hp} {t':T} {v':V} {g:BN},aM Z Z'->(∀a∈f1++c,H' a=H a)->bU K CL H' Z' t' v' g->fH K CL H' Z' (δ.set i (some t')) (σ.set i (some v')) (f1++(g++c))) ∧
   (∀{o:QdW},fH K CL H Z (δ.set i none) (σ.set i o) (f1++c)):=by
 intro δ σ fp i t h;have mono:∀{H H' Z Z':Hp} {δ:BA} {σ:L2.St} {fp:BN},aM Z Z'->(∀a∈fp,H' a=H a)->fH K CL H Z δ σ fp->fH K CL H' Z' δ σ fp:=by
  intro H H' Z Z' δ σ fp e k r
  induction r with
  | nil=>exact .nil
  | skip _ d=>exact .skip (d k)
  | cons r _ d=>exact .cons (r.mono e λa b=>k a (nv _ b)) (d λa b=>k a (j9 _ b))
 induction h generalizing i with
 | nil=>intro e;simp at e
 | @skip o δ σ fp r d=>
  cases i with
  | zero=>intro e;simp at e
  | succ i=>
   intro e;obtain⟨v,f1,f2,c,h1,h2,m,l,j⟩:=d (i:=i) (by simpa using e);exact⟨v,f1,f2,c,by simpa using h1,h2,m,λe k q=>.skip (l e k q),.skip j⟩
 | @cons t0 v0 δ σ fp gp f r d=>
  cases i with
  | zero=>
   intro e;simp at e;subst e;refine⟨v0,[],fp,gp,rfl,rfl,f,λ{H' Z' t' v' g} e k q=>fH.cons (fp:=g) (gp:=gp) q (mono (fp:=gp) e (λa b=>k a (by simpa using b)) r),.skip (by simpa using r)⟩
  | succ i=>
   intro e;obtain⟨v,f1,f2,c,h1,h2,m,l,j⟩:=d (i:=i) (by simpa using e);refine⟨v,fp++f1,f2,c,by simpa using h1,by rw[h2,List.append_assoc],m,λ{H' Z' t' v' g} e k q=>?_,λ{o}=>?_⟩
   .rw[nr];exact .cons (f.mono e λa b=>k a (by simp[b])) (l e (λa b=>k a (by rw[nr];exact j9 _ b)) q)
   .rw[nr];exact .cons f j
variable{δ:BA}{σ:L2.St}
theorem fH.mono(e:Qbw)(k:∀a∈fp,H' a=H a)(r:QhB):fH K CL H' Z' δ σ fp:=by
 induction r with
 | nil=>exact .nil
 | skip _ b=>exact .skip (b k)
 | cons r _ b=>exact .cons (r.mono e λa c=>k a (nv _ c)) (b λa c=>k a (j9 _ c))
theorem fH.there(r:QhB):∀a∈fp,∃o,H a=some o:=by
 induction r with
 | nil=>intro a c;cases c
 | skip _ b=>exact b
 | cons r _ b=>exactλa c=>(f9.1 c).elim (r.there a) (b a)
theorem fH.put(r:QhB){g:BN}(q:bU K CL H Z t v g) :
  ∀{i:Nat},i<δ.length->∃f,fH K CL H Z (δ.set i Qar) (σ.set i Qat) f/\∃a,a.Sublist fp/\f.Perm (g++a):=by
 induction r with
 | nil=>intro i hi;simp at hi
 | @skip o δ σ fp r b=>
  intro i hi;cases i with
  | zero=>exact⟨ _,.cons q r,fp,tj _,List.Perm.refl _⟩
  | succ i=>
   obtain⟨f,h1,a,h2,c⟩:=b (by simpa using hi);exact⟨f,.skip h1,a,h2,c⟩
 | @cons t0 v0 δ σ fp gp d r b=>
  intro i hi;cases i with
  | zero=>exact⟨ _,.cons q r,gp,FA _ _,List.Perm.refl _⟩
  | succ i=>
   obtain⟨f,h1,a,h2,c⟩:=b (by simpa using hi);refine⟨ _,.cons d h1,_,vu (tj _) h2,?_⟩;refine(yd fp c).trans ?_;rw[← nr,← nr];exact List.Perm.append_right a ro
theorem bW.g6{ds:BB}(h:bW K CL Z QcC v):∃a vs,v=.ref a/\oG K Z a vs/\aG K CL Z ds vs:=by cases h with|lst p q=>exact⟨_,_,rfl,p,q⟩
theorem bW.Q0{ds:BB}(h:bW K CL Z Qb6 v):∃a vs,v=.ref a/\AG K Z a vs/\aG K CL Z ds vs:=by cases h with|tup p q=>exact⟨_,_,rfl,p,q⟩
variable{c:Str}
theorem bW.Gw{fs:Do}(h:bW K CL Z Qa4 v):∃a dx gs,v=.ref a/\Z a=some QeD/\nV K CL Z fs gs:=by cases h with|ins p q=>exact⟨_,_,_,rfl,p,q⟩
theorem bU.MB{d:D}(h:bU K CL H Z Qey v fp):fp=[]/\bW K CL Z d v:=by cases h with|sh r=>exact⟨rfl,r⟩
theorem bU.g6(h:bU K CL H Z (.lst ts) v fp):∃a vs g,v=.ref a/\fp=a::g/\H a=some (.lst vs)/\bA K CL H Z ts vs g:=by cases h with|lst p q=>exact⟨_,_,_,rfl,rfl,p,q⟩
theorem bU.Q0(h:bU K CL H Z (.tup ts) v fp):∃a vs,v=.ref a/\Z a=some (.tup vs)/\bA K CL H Z ts vs fp:=by cases h with|tup p q=>exact⟨_,_,rfl,p,q⟩
theorem bU.Gw{fs:B1}(h:bU K CL H Z Qa4 v fp):∃a dx gs g,v=.ref a/\fp=a::g/\H a=some QeD/\dO K CL H Z fs gs g:=by cases h with|ins p q=>exact⟨_,_,_,_,rfl,rfl,p,q⟩
theorem bU.Uo{y:Addr}(h:bU K CL H Z (.pin y t) v fp):v=.ref y/\bU K CL H Z t QdA fp:=by cases h with|pin r=>exact⟨rfl,r⟩
noncomputable def zP(X:Cx)(e:Expr):TE:=λσ H Q=>∀(pins:BM) (s:Qb),Inv X pins σ H s->wpAny Qr X.A QeN Qa1 X.xe s
noncomputable def Mc(X:Cx)(e:Expr):TT:=λσ H Q=>∀(pins:BM) (s:Qb),Inv X pins σ H s->wpAny Qr X.A (isTrue e X.env QeN) QeG X.xe s
noncomputable def Up(X:Cx)(es:Cc):TA:=λσ H Q=>∀(pos:Pos) (pins:BM) (s:Qb),Inv X pins σ H s->wpAny Qr X.A Qk6 (AP X pins σ Q) X.xe s
noncomputable def OF(X:Cx)(st:Stmt):TS:=λD σ H=>∀(pins:BM) (s:Qb),Inv X pins σ H s->wpAny Qr X.A (exec st X.env) (SP X pins D) X.xe s
noncomputable def ZC(X:Cx)(st:CS):TS:=λD σ H=>∀(pins:BM) (s:Qb),Inv X pins σ H s->wpAny Qr X.A (execs st X.env) (SP X pins D) X.xe s
variable{X:Cx}{e:Expr}
noncomputable def dN:PE X e (zP X e):=λpins s _ _ _ I h=>h pins s I
noncomputable def Xv:PT X e (Mc X e):=λpins s _ _ _ I h=>h pins s I
noncomputable def JF{e:Cc}:PA X e (Up X e):=λpos pins s _ _ _ I h=>h pos pins s I
noncomputable def RF{e:Stmt}:PS X e (OF X e):=λpins s _ _ _ I h=>h pins s I
noncomputable def Uq{e:CS}:T9 X e (ZC X e):=λpins s _ _ _ I h=>h pins s I
noncomputable def cK{t:TE}(h:PE X e t){Q:VK}(q:t σ H Q):zP X e σ H Q:=λpins s I=>h pins s σ H Q I q
variable{Q:EN}
noncomputable def EI{t:TT}(h:PT X e t)(q:t σ H Q):Mc X e σ H Q:=λpins s I=>h pins s σ H Q I q
noncomputable def JS{e:Cc}{t:TA}(h:PA X e t){Q:EQ}(q:t σ H Q):Up X e σ H Q:=λpos pins s I=>h pos pins s σ H Q I q
noncomputable def rV{e:Stmt}{t:TS}(h:PS X e t){D:Ends}(q:t D σ H):OF X e D σ H:=λpins s I=>h pins s σ H D I q
noncomputable def OE{e:CS}{t:TS}(h:T9 X e t){D:Ends}(q:t D σ H):ZC X e D σ H:=λpins s I=>h pins s σ H D I q
noncomputable def notStar:Expr->Bool
 | .Starred _ _=>false
 | _=>true
variable{es:Cc}{env:Env}
def bC(h:notStar e=true):starEach Qab env=(false,eval e env)::starEach es env:=by
 cases e<;>first|rfl|(cases h)
structure Bx where
 B:Hp
 Z:Hp
def kM:HO->Bool
 | .tup _=>true
 | .gM _ _=>true
 | _=>false
noncomputable def Li(x:Str):Bool:=x.cps[0]? == some 35
noncomputable def MC(x:Str):Str:=⟨x.cps.extract 1 x.cps.size⟩
def oK(CL:BC)(Z:Hp):Prop:=∀x,Li x=true->CL x≠0->Z (CL x)=some (.tabs (MC x))
structure bH(K:Frag)(CL:BC)(b:Bx)(H Z:Hp)(δ:BA)(σ:L2.St)(ts:Bi)(vs:BY):Prop where
 rep:∃fp gp,fH K CL H Z δ σ fp/\bA K CL H Z ts vs gp/\(fp++gp).Nodup/\∀a∈fp++gp,Z a=none/\b.B a=none
 bh:aM b.B H
 zz:aM b.Z Z
 zh:aM Z H
 new:∀a o,Z a=some o->b.Z a=none->b.B a=none
 tp:∀a o,H a=some o->kM o=true->Z a=some o
 tab:oK CL b.Z
variable{b:Bx}
theorem oK.mono{A B:Hp}(h:oK CL A)(e:aM A B):oK CL B:=λx a h0=>e _ _ (h x a h0)
theorem bH.Ur(S:Qag):oK CL Z:=S.tab.mono S.zz
theorem bH.MD(S:Qag):oK CL H:=S.Ur.mono S.zh
def Us{A B:Hp}(e:aM A B)(h:B a=none):A a=none:=e.free h
variable{p:Addr}{o:HO}
theorem aM.upd(h:H p=none):aM H (upd H p o):=λb u e=>az (bf e h)▸e
theorem bH.view(S:Qck):bW K CL H t.gM v:=by
 obtain⟨fp,gp,_,r,_,_⟩:=S.rep;cases r with
 | cons r _=>exact r.gM S.zh λ_ _=>rfl
theorem bH.pop(S:Qck):bH K CL b H Z δ σ ts vs:=by
 obtain⟨fp,gp,e,r,nd,k⟩:=S.rep;cases r with
 | @cons _ _ _ _ f1 f2 f c=>
  refine⟨⟨fp,f2,e,c,nd.sublist Qj2,λa d=>k a ?_⟩,S.bh,S.zz,S.zh,S.new,S.tp,S.tab⟩;obtain h|h:=f9.1 d
  .exact nv _ h
  simp_all
theorem bH.push{d:D}(S:Qag)(r:Qde):bH K CL b H Z δ σ (.sh d::ts) QaP:=by
 obtain⟨fp,gp,e,a,nd,k⟩:=S.rep;exact⟨⟨fp,_,e,.cons (.sh r) a,nd,k⟩,S.bh,S.zz,S.zh,S.new,S.tp,S.tab⟩
theorem bH.MF(S:Qck):∃Z',aM Z Z'/\bH K CL b H Z' δ σ (.sh t.gM::ts) QaP:=by
 classical
 obtain⟨fp,gp,e,r,nd,k⟩:=S.rep;cases r with
 | @cons _ _ _ _ f1 f2 m l=>
  have j:=λa c=>k a (j9 _ (nv _ c));have sz:aM Z _:=λa o q=>by
   by_cases c:a∈f1
   .rw[(j a c).1]at q;cases q
   .show(if a∈f1 then H a else Z a)=some o;rw[bF c];exact q
  have f:=oT.1 nd;have n:∀a∈fp++f2,a∉f1:=λa c h1=>by
   obtain h|h:=f9.1 c
   .exact f.2.2 a h a (nv _ h1) rfl
   .exact(oT.1 f.2.1).2.2 a h1 a h rfl
  refine⟨ _,sz,⟨⟨fp,[]++f2,e.mono sz Qc9,.cons (.sh (m.gM sz λa c=>cq c)) (l.mono sz λ_ _=>rfl),?_,λa c=>?_⟩,S.bh,S.zz.trans sz,λa o q=>?_,λa o q z=>?_,λa o q i=>?_,S.tab⟩⟩
  .exact nd.sublist Qj2
  .have g:a∈fp++f2:=c;refine⟨?_,(k a ?_).2⟩
   .rw[bF (n a g)];refine(k a ?_).1;obtain h|h:=f9.1 g
    .exact nv _ h
    .exact j9 _ (j9 _ h)
   simp_all
  .have d:=q;by_cases c:a∈f1
   .rw[cq c]at d;exact d
   .rw[bF c]at d;exact S.zh a o d
  .have d:=q;by_cases c:a∈f1
   .exact(j a c).2
   .rw[bF c]at d;exact S.new a o d z
  .exact sz a o (S.tp a o q i)
variable{i:Nat}
theorem bH.aid(S:Qag)(hi:δ[i]? = some Qar):∃v Z',σ[i]? = some Qat/\aM Z Z'/\bH K CL b H Z' (δ.set i (some (.sh t.gM))) σ (.sh t.gM::ts) QaP:=by
 classical
 obtain⟨fp,gp,e,r,nd,k⟩:=S.rep;obtain⟨v,f1,f2,d,hv,s,rt,put,_⟩:=e.get hi;subst s;have p:∀a∈f2,Z a=none/\b.B a=none:=λa c=>k a (by simp[c]);have sz:aM Z Qis:=λa o q=>by
  by_cases c:a∈f2
  .rw[(p a c).1]at q;cases q
  .show QgF=some o;rw[bF c];exact q
 have w:∀a∈(f1++d)++gp,a∉f2:=λa c h2=>by
  have u:(QeX++gp).Perm (f2++((f1++d)++gp)):=by
   rw[← nr,← nr];refine(List.perm_append_right_iff gp).2 ?_;rw[← nr];exact(List.perm_append_right_iff d).2 ro
  exact(oT.1 (u.nodup_iff.1 nd)).2.2 a h2 a c rfl
 have n:bW K CL Qis t.gM v:=rt.gM sz λa c=>cq c;have m:σ.set i Qat=σ:=by
  apply FF;intro j;rw[List.getElem?_set];split
  .rename_i h;subst h;split
   .exact hv.symm
   .rename_i h2;rw[Fn We]
  .rfl
 have e2:fH K CL H Qis (δ.set i (some (.sh t.gM))) σ (f1++([]++d)):=by
  have:=put (H':=H) (t':=.sh t.gM) (v':=v) (g:=[]) sz Qc9 (.sh n)
  rwa [m]at this
 refine⟨v,λa=>if a∈f2 then H a else Z a,hv,sz,⟨⟨f1++([]++d),[]++gp,e2,.cons (.sh n) (r.mono sz λ_ _=>rfl),?_,λa c=>?_⟩,S.bh,S.zz.trans sz,λa o q=>?_,λa o q z=>?_,λa o q i=>sz a o (S.tp a o q i),S.tab⟩⟩
 .exact nd.sublist (vu Qj2 (tj _))
 .have l:a∈(f1++d)++gp:=c;have hm:a∈QeX++gp:=by
   simp only[f9]at l ⊢;rcases l with(h|h)|h
   .exact .inl (.inl h)
   .exact .inl (.inr (.inr h))
   .exact .inr h
  refine⟨?_,(k a hm).2⟩;show QgF=none;rw[bF (w a l)];exact(k a hm).1
 .have f:QgF=some o:=q;by_cases c:a∈f2
  .rw[cq c]at f;exact f
  .rw[bF c]at f;exact S.zh a o f
 .have f:QgF=some o:=q;by_cases c:a∈f2
  .exact(p a c).2
  .rw[bF c]at f;exact S.new a o f z
theorem bH.move(S:Qag)(hi:δ[i]? = some Qar):∃v,σ[i]? = some Qat/\bH K CL b H Z (δ.set i none) σ (t::ts) QaP:=by
 obtain⟨fp,gp,e,r,nd,k⟩:=S.rep;obtain⟨v,f1,f2,c,hv,g,rt,_,del⟩:=e.get hi;subst g;have d:σ.set i Qat=σ:=by
  apply FF;intro j;rw[List.getElem?_set];split
  .rename_i h;subst h;split
   .exact hv.symm
   simp_all
  .rfl
 have f:((f1++(f2++c))++gp).Perm ((f1++c)++(f2++gp)):=by
  have h1:(f2++c).Perm _:=ro;have h2:=(yd f1 h1).append_right gp;simp_all
 refine⟨v,hv,⟨⟨ _,_,?_,.cons rt r,f.nodup_iff.1 nd,λa l=>k a (f.mem_iff.2 l)⟩,S.bh,S.zz,S.zh,S.new,S.tp,S.tab⟩⟩;have:=del (o:=some v)
 rwa [d]at this
theorem bH.look(S:Qag)(hi:δ[i]? = some Qar):∃v,σ[i]? = some Qat/\bW K CL H t.gM v:=by
 obtain⟨fp,gp,e,r,nd,k⟩:=S.rep;obtain⟨v,f1,f2,c,hv,a,rt,_,_⟩:=e.get hi;exact⟨v,hv,rt.gM S.zh λ_ _=>rfl⟩
theorem bH.Xw{d:D}(S:Qag)(hi:δ[i]? = some Qbq):∃v,σ[i]? = some Qat/\bW K CL Z d v:=by
 obtain⟨fp,gp,e,r,nd,k⟩:=S.rep;obtain⟨v,f1,f2,c,hv,a,rt,_,_⟩:=e.get hi;obtain⟨rfl,h⟩:=rt.MB;exact⟨v,hv,h⟩
theorem bH.set(S:Qck)(hi:i<δ.length):bH K CL b H Z (δ.set i Qar) (σ.set i Qat) ts vs:=by
 obtain⟨fp,gp,e,r,nd,k⟩:=S.rep;cases r with
 | @cons _ _ _ _ f1 f2 j h=>
  obtain⟨f,h1,g,h2,m⟩:=e.put j hi;have d:(f++f2).Perm (g++(f1++f2)):=by
   refine(m.append_right f2).trans ?_;rw[← nr];exact ro.append_right f2
  have c:(g++(f1++f2)).Sublist _:=vu h2 (tj _);exact⟨⟨f,f2,h1,h,d.nodup_iff.2 (nd.sublist c),λa l=>k a (c.subset (d.mem_iff.1 l))⟩,S.bh,S.zz,S.zh,S.new,S.tp,S.tab⟩
mutual
def D.tF:D->Bool
 | .tup ds=>D.ck ds
 | .lst _=>false
 | .ins _ _=>false
 | .tE _=>false
 | .dct _=>false
 | .any=>false
 | .Ei _ _ _=>false
 | _=>true
def D.ck:BB->Bool
 | []=>true
 | d::ds=>d.tF&&D.ck ds
end
mutual
def T.clean:T->Bool
 | .sh d=>d.tF
 | .tup ts=>T.cZ ts
 | .lst ts=>T.cZ ts
 | .ins _ fs=>T.fY fs
 | .tE kvs=>D.ck (kvs.map (·.2))
 | .dct kvs=>T.MG kvs
 | .pin _ t=>t.clean
 | .Ei _ _ _=>false
def T.cZ:Bi->Bool
 | []=>true
 | t::ts=>t.clean&&T.cZ ts
def T.fY:B1->Bool
 | []=>true
 | (_,t)::ts=>t.clean&&T.fY ts
def T.MG:Cf->Bool
 | []=>true
 | (_,t)::ts=>t.clean&&T.MG ts
end
def cY(X:Cx)(CL:BC)(b:Bx)(e:Expr)(δ:BA)(t:T)(δ':BA):Prop:=
 ∀(H Z:Hp) (σ:L2.St) (ts:Bi) (vs:BY) (Q:VK),bH X.K CL b H Z δ σ ts vs->(∀v H' Z',aM Z Z'->aM H H'->bH X.K CL b H' Z' δ' σ (t::ts) QaP->Q v H')->zP X e σ H Q
def dU(X:Cx)(CL:BC)(b:Bx)(e:Expr)(δ:BA)(d:D)(δ':BA):Prop:=
 ∀(H Z:Hp) (σ:L2.St) (ts:Bi) (vs:BY) (Q:VK),bH X.K CL b H Z δ σ ts vs->(∀v H' Z',aM Z Z'->aM H H'->bH X.K CL b H' Z' δ' σ ts vs->bW X.K CL H' d v->Q v H')->zP X e σ H Q
def ye(X:Cx)(CL:BC)(b:Bx)(e:Expr)(δ:BA)(p:Bool)(δ':BA):Prop:=
 ∀(H Z:Hp) (σ:L2.St) (ts:Bi) (vs:BY) (Q:EN),bH X.K CL b H Z δ σ ts vs->(∀H' Z',aM Z Z'->aM H H'->bH X.K CL b H' Z' δ' σ ts vs->Q p H')->Mc X e σ H Q
def MH(X:Cx)(CL:BC)(b:Bx)(es:Cc)(δ:BA)(tl:Bi)(δ':BA):Prop:=
 ∀(H Z:Hp) (σ:L2.St) (ts:Bi) (vs:BY) (Q:EQ),bH X.K CL b H Z δ σ ts vs →
  (∀us H' Z',us.length=tl.length->aM Z Z'->aM H H'->bH X.K CL b H' Z' δ' σ (tl.reverse++ts) QdL->Q us H')->Up X es σ H Q
def Xx(X:Cx)(CL:BC)(b:Bx)(es:Cc)(δ:BA)(ds:BB)(δ':BA):Prop:=
 ∀(H Z:Hp) (σ:L2.St) (ts:Bi) (vs:BY) (Q:EQ),bH X.K CL b H Z δ σ ts vs →
  (∀us H' Z',aM Z Z'->aM H H'->bH X.K CL b H' Z' δ' σ ts vs->aG X.K CL H' ds us->Q us H')->Up X es σ H Q
structure gi where
 nx:BA->Prop
 rt:T->BA->Prop
 bk:BA->Prop:=λ_=>False
 ct:BA->Prop:=λ_=>False
structure Meets(K:Frag)(CL:BC)(b:Bx)(Z:Hp)(ts:Bi)(vs:BY)(D:gi)(E:Ends):Prop where
 nx:∀δ' σ' H' Z',aM Z Z'->bH K CL b H' Z' δ' σ' ts vs->D.nx δ'->E.nx σ' H'
 rt:∀t v H' Z' δ' σ',aM Z Z'->bH K CL b H' Z' δ' σ' (t::ts) QaP->D.rt t δ'->E.rt v H'
 bk:∀δ' σ' H' Z',aM Z Z'->bH K CL b H' Z' δ' σ' ts vs->D.bk δ'->E.bk σ' H'
 ct:∀δ' σ' H' Z',aM Z Z'->bH K CL b H' Z' δ' σ' ts vs->D.ct δ'->E.ct σ' H'
def Ut(X:Cx)(CL:BC)(b:Bx)(st:Stmt)(δ:BA)(D:gi):Prop:=
 ∀(H Z:Hp) (σ:L2.St) (ts:Bi) (vs:BY) (E:Ends),bH X.K CL b H Z δ σ ts vs->Meets X.K CL b Z ts vs D E->OF X st E σ H
def dW(X:Cx)(CL:BC)(b:Bx)(st:CS)(δ:BA)(D:gi):Prop:=
 ∀(H Z:Hp) (σ:L2.St) (ts:Bi) (vs:BY) (E:Ends),bH X.K CL b H Z δ σ ts vs->Meets X.K CL b Z ts vs D E->ZC X st E σ H
theorem Meets.mono{D:gi}{E:Ends}(M:Qju)(e:Qbw):Meets K CL b Z' ts vs D E:=
 ⟨λ_ _ _ _ s=>M.nx _ _ _ _ (e.trans s),λ_ _ _ _ _ _ s=>M.rt _ _ _ _ _ _ (e.trans s),λ_ _ _ _ s=>M.bk _ _ _ _ (e.trans s),λ_ _ _ _ s=>M.ct _ _ _ _ (e.trans s)⟩
def Xy(zh:∀a o,H a=some o->kM o=true->Z a=some o)(h:AG K H a xs):AG K Z a xs:=by
 rcases h with(h|⟨o,h⟩)|h
 .exact .inl (.inl (zh _ _ h rfl))
 .exact .inl (.inr ⟨o,zh _ _ h rfl⟩)
 .exact .inr h
theorem bW.tF(zh:∀a o,H a=some o->kM o=true->Z a=some o){d:D}(k:d.tF=true)(h:bW K CL H d v):bW K CL Z d v:=
 bW.rec (motive_2:=λd v _=>D.ck d=true->aG K CL Z d v) (motive_3:=λd v _=>True) (motive_4:=λd v _=>True) (motive_5:=λd v _=>True)
  (λ_=>.non) (λb _=>.bl b) (λb _=>.int b) (λb _=>.str b) (λ_ k=>by cases k) (λb _=>.val b) (λh _ r k=>.tup (Xy zh h) (r (‹_›))) (λ_ _ _ k=>by cases k) (λ_ _ _ k=>by cases k) (λ_ _ _ k=>by cases k) (λ_ _ _ k=>by cases k) (λ_ _ _ _ _ k=>by rw[D.tF]at k;cases k) QaJ (λ_ _ h r k=>by rw[D.ck,oD]at k;exact .cons (h k.1) (r k.2)) trivial Qaq trivial Qaq trivial Qaq h k
theorem aG.tF(zh:∀a o,H a=some o->kM o=true->Z a=some o){d:BB}{v:BY}(k:D.ck d=true)(h:aG K CL H d v):aG K CL Z d v:=
 aG.rec (motive_1:=λd v _=>d.tF=true->bW K CL Z d v) (motive_3:=λd v _=>True) (motive_4:=λd v _=>True) (motive_5:=λd v _=>True)
  (λ_=>.non) (λb _=>.bl b) (λb _=>.int b) (λb _=>.str b) (λ_ k=>by cases k) (λb _=>.val b) (λh _ r k=>.tup (Xy zh h) (r (‹_›))) (λ_ _ _ k=>by cases k) (λ_ _ _ k=>by cases k) (λ_ _ _ k=>by cases k) (λ_ _ _ k=>by cases k) (λ_ _ _ _ _ k=>by cases k) QaJ (λ_ _ h r k=>by rw[D.ck,oD]at k;exact .cons (h k.1) (r k.2)) trivial Qaq trivial Qaq trivial Qaq h k
variable{gs:Cl}
theorem c7.clean{Z1:Hp}(a:∀{d:D} {v:V},d.tF=true->bW K CL Z1 d v->bW K CL Z d v){kvs:CI}(k:D.ck (kvs.map (·.2))=true)(h:c7 K CL Z1 kvs gs):c7 K CL Z kvs gs:=
 c7.ind (P:=λkvs gs=>D.ck (kvs.map _)=true->c7 K CL Z kvs gs) QaJ (λh _ i k=>by rw[og,D.ck,oD]at k;exact .cons (a k.1 h) (i k.2)) h k
theorem bU.clean{Z1:Hp}(zh:∀a xs,Z1 a=some Qbi->Z a=some Qbi)(b:∀{d:D} {v:V},d.tF=true->bW K CL Z1 d v->bW K CL Z d v)(k:t.clean=true)(h:bU K CL H Z1 t v fp):bU K CL H Z t v fp:=
 bU.rec (motive_2:=λt v fp _=>T.cZ t=true->bA K CL H Z t v fp) (motive_3:=λt v fp _=>T.fY t=true->dO K CL H Z t v fp) (motive_4:=λt v fp _=>T.MG t=true->fW K CL H Z t v fp)
  (λh k=>.sh (b (‹_›) h)) (λh _ r k=>.tup (zh _ _ h) (r (‹_›))) (λh _ r k=>.lst h (r (‹_›))) (λh _ r k=>.ins h (r (‹_›))) (λh f k=>.tE h (c7.clean b (‹_›) f)) (λh _ r k=>.dct h (r (‹_›))) (λ_ r k=>.pin (r (‹_›))) (λ_ _ _ k=>by rw[T.clean]at k;cases k) QaJ (λ_ _ h r k=>by rw[T.cZ,oD]at k;exact .cons (h k.1) (r k.2)) QaJ (λ_ _ h r k=>by rw[T.fY,oD]at k;exact .cons (h k.1) (r k.2)) QaJ (λ_ _ h r k=>by rw[T.MG,oD]at k;exact .cons (h k.1) (r k.2)) h k
theorem bH.back{W W':Hp}(S:Qag)(p:QbW)(s:aM Z W)(ww:aM W W')(m:aM W' H')(new:∀a o,W' a=some o->W a=none->H a=none)
  (tp:∀a o,H' a=some o->kM o=true->W' a=some o) (r:bU K CL H' W' t v fp) (nd:fp.Nodup) (own:∀a∈fp,W' a=none/\H a=none) (c:W=Z\/t.clean=true) :
  ∃Z',aM Z Z'/\bH K CL b H' Z' δ σ (t::ts) QaP:=by
 classical
 let Z':Hp:=λa=>if (H a).isSome=true then Z a else W' a
 have zs:∀{a:Addr} {o:HO},H a=some o->Z' a=Z a:=λ{a o} e=>by
  show QkR=Z a;rw[cq (by rw[e];rfl)]
 have zn:∀{a:Addr},H a=none->Z' a=W' a:=λ{a} e=>by
  show QkR=W' a;rw[bF (by rw[e];simp)]
 have sz:aM Z Z':=λa o q=>by rw[zs (S.zh a o q)];exact q
 have l:∀a o,Z' a=some o->W' a=some o:=λa o q=>by
  cases e:H a with
  | none=>rw[zn e]at q;exact q
  | some u=>rw[zs e]at q;exact ww a o (s a o q)
 have g:∀a o,H' a=some o->kM o=true->Z' a=some o:=λa o q i=>by
  cases e:H a with
  | none=>rw[zn e];exact tp a o q i
  | some u=>
   rw[zs e];have:=p a u e;rw[q]at this;cases this;exact S.tp a o e i
 have x:bU K CL H' Z' t v fp:=by
  obtain c|c:=c
  .have:Z'=W':=by
    funext a;cases e:H a with
    | none=>exact zn e
    | some u=>
     rw[zs e];cases q:W' a with
     | none=>
      cases j:Z a with
      | none=>rfl
      | some o=>rw[ww a o (s a o j)]at q;cases q
     | some o=>
      cases j:W a with
      | none=>rw[new a o q j]at e;cases e
      | some y=>
       have:=ww a y j;rw[q]at this;cases this;rw[← c];exact j
   rw[this];exact r
  .refine bU.clean (λa xs h=>?_) (λ{d v} k h=>?_) c r
   .exact g a _ (m a _ h) rfl
   .exact bW.tF (H:=H') g k (h.mono m)
 obtain⟨f0,g0,e0,w,n,k0⟩:=S.rep;have old:∀a∈f0++g0,∃o,H a=some o:=λa f=>(f9.1 f).elim (e0.there a) (w.there a);have keep:∀a∈f0++g0,H' a=H a:=λa f=>by
  obtain⟨o,e⟩:=old a f;rw[e];exact p a o e
 refine⟨Z',sz,⟨⟨f0,fp++g0,e0.mono sz (λa f=>keep a (nv _ f)),.cons x (w.mono sz λa f=>keep a (j9 _ f)),?_,λa f=>?_⟩,S.bh.trans p,S.zz.trans sz,λa o q=>m a o (l a o q),λa o q z=>?_,g,S.tab⟩⟩
 .have A:(f0++(fp++g0)).Perm (fp++(f0++g0)):=by
   rw[← nr,← nr];exact ro.append_right g0
  refine A.nodup_iff.2 (oT.2 ⟨nd,n,λa f c B e=>?_⟩);subst e;obtain⟨o,q⟩:=old a B;rw[(own a f).2]at q;cases q
 .have:a∈f0++g0\/a∈fp:=by
   simp only[f9]at f ⊢;obtain h|h|h:=f
   .exact .inl (.inl h)
   .exact .inr h
   .exact .inl (.inr h)
  obtain h|h:=this
  .obtain⟨o,q⟩:=old a h;exact⟨by rw[zs q];exact(k0 a h).1,(k0 a h).2⟩
  .exact⟨by rw[zn (own a h).2];exact(own a h).1,S.bh.free (own a h).2⟩
 .cases e:H a with
  | none=>exact S.bh.free e
  | some u=>rw[zs e]at q;exact S.new a o q z
section
variable{δ1 δ2:BA}{e1 e2:Expr}{pos:Pos}{d d1 d2:D}
noncomputable def alW(h:QaG):dU X CL b e δ t.gM δ1:=λH Z σ ts vs Q S k=>h H Z σ ts vs Q S λv H' Z' z s a=>k v H' Z' z s a.pop a.view
def aQ(h:Qg9):dU X CL b e δ d δ1:=by have:=alW h;rwa [T.gM]at this
noncomputable def dB(h:QeA)(i:d.tF=true):cY X CL b e δ (.sh d) δ1:=λH Z σ ts vs Q S k=>h H Z σ ts vs Q S λv H' Z' z s a r=>k v H' Z' z s (a.push (bW.tF a.tp i r))
def Uu(h:QaG):cY X CL b e δ (.sh t.gM) δ1:=λH Z σ ts vs Q S k=>h H Z σ ts vs Q S λv H' Z' z s d=>by
 obtain⟨Z2,a,c⟩:=d.MF;exact k v H' Z2 (z.trans a) s c
def bM{i:Int}{j:Nat}:cY X CL b Qjn δ (.sh QaL) δ:=λH Z σ ts vs Q S k=>cK acV (k _ _ Z Qy Qy (S.push QaL))
def pD{i:Bool}{j:Nat}:cY X CL b (.Constant (.bool i) j pos) δ (.sh (.bl i)) δ:=λH Z σ ts vs Q S k=>cK alK (k _ _ Z Qy Qy (S.push (.bl i)))
def fZ{x:Str}{j:Nat}:cY X CL b QjN δ (.sh Qbj) δ:=λH Z σ ts vs Q S k=>cK amU (k _ _ Z Qy Qy (S.push Qbj))
section
variable{x:Str}(i:Nat)(hi:X.N[i]? = some x:=by rfl)(hv:yA X.env.scope x:=by first|exact Or.inl rfl|exact Or.inr (Or.inl rfl)|exact Or.inr (Or.inr rfl))(hd:AD x:=by decide)(kL:AE x:=by decide)
include hi hv hd kL
def anD(h:δ[i]? = some Qbq:=by rfl):cY X CL b Qan δ (.sh d) δ:=λH Z σ ts vs Q S k=>by
 obtain⟨v,e,r⟩:=S.Xw h;exact cK QhV ⟨v,e,k v H Z Qy Qy (S.push r)⟩
def aie(h:δ[i]? = some Qar:=by rfl):cY X CL b Qan δ t (δ.set i none):=λH Z σ ts vs Q S k=>by
 obtain⟨v,e,a⟩:=S.move h;exact cK QhV ⟨v,e,k v H Z Qy Qy a⟩
def anE(h:δ[i]? = some Qar:=by rfl):dU X CL b Qan δ t.gM δ:=λH Z σ ts vs Q S k=>by
 obtain⟨v,e,r⟩:=S.look h;exact cK QhV ⟨v,e,k v H Z Qy Qy S r⟩
end
noncomputable def va:D->Option V
 | .non=>some .non
 | .bl b=>some (.bl b)
 | .int i=>some QaL
 | .str x => some Qbj
 | _=>none
theorem bW.sc{d:D}{w:V}(r:Qde)(h:va d=some w):v=w:=by
 cases r<;>first|(exact o7 h)|(cases h)
def Xz{d:D}{w:V}(h:va d=some w):bW K CL Z d w:=by
 cases d<;>first|(cases h;constructor)|(cases h)
def vX{op:Operator}{r:R2}{c a w:V}(j:Qj9)(h1:Qfw)(h2:Qet)(s1:va d1=some c)(s2:va d2=some a)(s3:va d=some w)
  (i:∀(H:Hp) (Q:VK),Q w H->r c a H Q):cY X CL b (.BinOp e1 op e2 pos) δ (.sh d) δ2:=λH Z σ ts vs Q S k=>by
 refine cK (QN j dN dN) (h1 H Z σ ts vs _ S λv1 H1 Z1 f k1 m h=>h2 H1 Z1 σ ts vs _ m λv2 H2 Z2 e k2 l g=>?_);rw[h.sc s1,g.sc s2];exact i H2 Q (k w H2 Z2 (f.trans e) Qao (l.push (Xz s3)))
noncomputable def um{i j:Int}(h1:Qba)(h2:Qbo):cY X CL b Qes δ (.sh (.int (i+j))) δ2:=vX ac6 h1 h2 rfl rfl rfl λ_ _ q=>⟨i,j,rfl,rfl,q⟩
noncomputable def MJ{i j:Int}(h1:Qba)(h2:Qbo):cY X CL b (.BinOp e1 .Sub e2 pos) δ (.sh (.int (i-j))) δ2:=vX ac7 h1 h2 rfl rfl rfl λ_ _ q=>⟨i,j,rfl,rfl,q⟩
noncomputable def anF{i j:Int}(h1:Qba)(h2:Qbo)(c:OK i j):cY X CL b (.BinOp e1 .Mult e2 pos) δ (.sh (.int (i*j))) δ2:=vX anc h1 h2 rfl rfl rfl λ_ _ q=>⟨i,j,rfl,rfl,c,q⟩
noncomputable def jD{i j:Int}(h1:Qba)(h2:Qbo)(c:0<j):cY X CL b (.BinOp e1 .Mod e2 pos) δ (.sh (.int (i % j))) δ2:=vX ane h1 h2 rfl rfl rfl λ_ _ q=>⟨i,j,rfl,rfl,c,q⟩
noncomputable def yf{i j:Int}(h1:Qba)(h2:Qbo)(c:Z7 i j):cY X CL b (.BinOp e1 .FloorDiv e2 pos) δ (.sh (.int (i / j))) δ2:=vX ah3 h1 h2 rfl rfl rfl λ_ _ q=>⟨i,j,rfl,rfl,c,q⟩
noncomputable def zQ{i j:Int}(h1:Qba)(h2:Qbo)(c:Z0 i j):cY X CL b (.BinOp e1 .Pow e2 pos) δ (.sh (.int (i ^ j.toNat))) δ2:=vX anf h1 h2 rfl rfl rfl λ_ _ q=>⟨i,j,rfl,rfl,c,q⟩
noncomputable def adC{x y:Str}(h1:Qi8)(h2:dU X CL b e2 δ1 (.str y) δ2)(c:x.length+y.length<=sizeLine):cY X CL b Qes δ (.sh (.str (x++y))) δ2:=vX Gp h1 h2 rfl rfl rfl λ_ _ q=>⟨x,y,rfl,rfl,c,q⟩
def Gy{op:CmpOp}{r:R2}{p:Bool}{i h:V}(l:AJ X Qh7 r)(h1:Qfw)(h2:Qet)(s1:va d1=some i)(s2:va d2=some h)
  (j:∀(H:Hp) (Q:VK),Q (.bl p) H->r i h H Q) (hm:behindInMarks op e2=false):ye X CL b Qg2 δ p δ2/\cY X CL b Qg2 δ (.sh (.bl p)) δ2:=by
 constructor
 .intro H Z σ ts vs Q S k;refine EI (pI l dN dN hm) (h1 H Z σ ts vs _ S λv1 H1 Z1 c k1 g e=>h2 H1 Z1 σ ts vs _ g λv2 H2 Z2 a k2 f d=>?_);rw[e.sc s1,d.sc s2];exact j H2 _ ⟨p,rfl,k H2 Z2 QbO Qao f⟩
 .intro H Z σ ts vs Q S k;refine cK (x9 l dN dN hm) (h1 H Z σ ts vs _ S λv1 H1 Z1 c k1 g e=>h2 H1 Z1 σ ts vs _ g λv2 H2 Z2 a k2 f d=>?_);rw[e.sc s1,d.sc s2];exact j H2 _ (k _ H2 Z2 QbO Qao (f.push (.bl p)))
theorem eW{i j:Int}(h1:Qba)(h2:Qbo):ye X CL b Qen δ (decide (i=j)) δ2/\cY X CL b Qen δ (.sh (.bl (decide (i=j)))) δ2:=
 Gy alM h1 h2 rfl rfl (λ_ _ q=>⟨rfl,by simp_all ⟩) (oJ _)
theorem MK{i j:Int}(h1:Qba)(h2:Qbo):ye X CL b QcP δ (!decide (i=j)) δ2/\cY X CL b QcP δ (.sh (.bl (!decide (i=j)))) δ2:=
 Gy alN h1 h2 rfl rfl (λ_ _ q=>⟨rfl,by simp_all ⟩) (oJ _)
theorem fj{i j:Str}(h1:dU X CL b e1 δ (.str i) δ1)(h2:dU X CL b e2 δ1 (.str j) δ2):ye X CL b Qen δ (decide (i=j)) δ2/\cY X CL b Qen δ (.sh (.bl (decide (i=j)))) δ2:=
 Gy alM h1 h2 rfl rfl (λ_ _ q=>⟨rfl,by simp_all ⟩) (oJ _)
theorem adD{i j:Str}(h1:dU X CL b e1 δ (.str i) δ1)(h2:dU X CL b e2 δ1 (.str j) δ2):ye X CL b QcP δ (!decide (i=j)) δ2/\cY X CL b QcP δ (.sh (.bl (!decide (i=j)))) δ2:=
 Gy alN h1 h2 rfl rfl (λ_ _ q=>⟨rfl,by simp_all ⟩) (oJ _)
def Lj{i j:Int}(h1:Qba)(h2:Qbo):ye X CL b (.Compare e1 [.Lt] [e2] pos) δ (decide (i<j)) δ2/\cY X CL b (.Compare e1 [.Lt] [e2] pos) δ (.sh (.bl (decide (i<j)))) δ2:=Gy ar6 h1 h2 rfl rfl QiH (oJ _)
def asq{i j:Int}(h1:Qba)(h2:Qbo):ye X CL b (.Compare e1 [.LtE] [e2] pos) δ (decide (i<=j)) δ2/\cY X CL b (.Compare e1 [.LtE] [e2] pos) δ (.sh (.bl (decide (i<=j)))) δ2:=Gy ar7 h1 h2 rfl rfl QiH (oJ _)
def alX{i j:Int}(h1:Qba)(h2:Qbo):ye X CL b Qi9 δ (decide (j<i)) δ2/\cY X CL b Qi9 δ (.sh (.bl (decide (j<i)))) δ2:=Gy alO h1 h2 rfl rfl QiH (oJ _)
end
theorem bA.split:∀{as bs:Bi} {us ws:BY} {gp:BN},as.length=us.length->bA K CL H Z (as++bs) (us++ws) gp->∃g1 g2,gp=g1++g2/\bA K CL H Z as us g1/\bA K CL H Z bs ws g2
 | [],_,[],_,gp,_,r=>⟨[],gp,rfl,.nil,r⟩
 | [],_,_::_,_,_,h,_=>by simp at h
 | _::_,_,[],_,_,h,_=>by simp at h
 | a::as,bs,u::us,ws,gp,h,r=>by
  cases r with
  | @cons _ _ _ _ f1 f2 c b=>
   obtain⟨g1,g2,e,h1,h2⟩:=bA.split WD b;exact⟨ _,g2,WD,.cons c h1,h2⟩
variable{us:BY}
theorem bA.app{as bs:Bi}{ws:BY}{g1 g2:BN}(h:bA K CL H Z as us g1)(q:bA K CL H Z bs ws g2):bA K CL H Z (as++bs) (us++ws) (g1++g2):=
 bA.ind (P:=λas us g1=>bA K CL H Z (as++bs) (us++ws) (g1++g2)) q (λr _ i=>by rw[nr];exact .cons r i) h
theorem bA.rev:∀{as:Bi} {us:BY} {g:BN},bA K CL H Z as.reverse us.reverse g->∃g',bA K CL H Z as us g'/\g'.Perm g
 | [],[],g,r=>by grind
 | [],u::us,g,r=>by have:=r.length;simp at this
 | a::as,[],g,r=>by have:=r.length;simp at this
 | a::as,u::us,g,r=>by
  rw[rh,rh]at r;have i:=r.length;obtain⟨g1,g2,e,c,b⟩:=bA.split WD r;subst e;obtain⟨g',d,p⟩:=bA.rev c;cases b with
  | @cons _ _ _ _ f1 f2 h f=>
   cases f;refine⟨ _,.cons h d,?_⟩;rw[n2];exact(yd f1 p).trans ro
theorem bA.X0:∀{ds:BB} {us:BY},aG K CL Z ds us->bA K CL H Z Qbf us []
 | _,_,.nil=>.nil
 | _,_,.cons r t=>.cons (.sh r) (bA.X0 t)
theorem bA.toF:∀{ds:BB} {us:BY} {g:BN},bA K CL H Z Qbf us g->aG K CL Z ds us/\g=[]
 | [],_,_,r=>by
  have a:=r;cases a;exact⟨.nil,rfl⟩
 | d::ds,_,_,r=>by
  have a:=r;cases a with
  | cons c b=>
   obtain⟨rfl,h⟩:=c.MB;obtain⟨q,e⟩:=bA.toF b;exact⟨.cons h q,‹_› ⟩
theorem lu:∀(ds:BB),T.fO Qbf=ds
 | []=>rfl
 | d::ds=>by rw[og,T.fO,lu ds,T.gM]
theorem Q5:∀(ts:Bi),(T.fO ts).length=ts.length
 | []=>rfl
 | d::ds=>by rw[T.fO,o1,o1,Q5 ds]
variable{tl:Bi}
theorem bH.ML(S:Qlc)(s:us.length=tl.length)(d:H p=none) :
  aM Z (upd Z p Qd6)/\aM H (upd H p Qd6)/\bH K CL b (upd H p Qd6) (upd Z p Qd6) δ σ (.tup tl::ts) (.ref p::vs):=by
 obtain⟨fp,gp,e,r,nd,k⟩:=S.rep;obtain⟨g1,g2,n,l,j⟩:=bA.split WE r;subst n;obtain⟨g',m,pm⟩:=l.rev;have g:=S.zh.free d;have sz:aM Z (upd Z p Qd6):=aM.upd g;have sh:aM H (upd H p Qd6):=aM.upd d;have keep:∀a∈fp++(g1++g2),a≠p:=λa c=>by
  have:∃o,H a=some o:=by
   obtain h|h:=f9.1 c
   .exact e.there a h
   .exact r.there a h
  obtain⟨o,q⟩:=this;exact bf q d
 have f:=(pm.append_right g2).append_left fp;have kk:=λa c=>keep a (f.mem_iff.1 c);refine⟨sz,sh,⟨⟨fp,_,e.mono sz QiP,.cons (.tup bD (m.mono sz λa c=>az (kk a (by simp[c])))) (j.mono sz λa c=>az (keep a (by simp[c]))),f.nodup_iff.2 nd,λa c=>?_⟩,S.bh.trans sh,S.zz.trans sz,λa o q=>?_,λa o q z=>?_,λa o q i=>?_,S.tab⟩⟩
 .exact⟨ az (kk a c)▸(k a (f.mem_iff.1 c)).1,(k a (f.mem_iff.1 c)).2⟩
 .by_cases c:a=p
  .subst c;rw[bD]at q ⊢;exact q
  .rw[az c]at q ⊢;exact S.zh a o q
 .by_cases c:a=p
  .subst c;exact S.bh.free d
  .rw[az c]at q;exact S.new a o q z
 .by_cases c:a=p
  .subst c;rw[bD]at q ⊢;exact q
  .rw[az c]at q ⊢;exact S.tp a o q i
theorem bH.kN{g0:BN}(S:Qlc)(t:us.length=tl.length)(f:H p=none) :
  aM H (upd H p Qb7)/\bH K CL b (upd H p Qb7) Z δ σ (.lst tl::ts) (.ref p::vs):=by
 obtain⟨fp,gp,e,r,nd,k⟩:=S.rep;obtain⟨g1,g2,s,m,l⟩:=bA.split WE r;subst s;obtain⟨g',n,pm⟩:=m.rev;have j:=S.zh.free f;have sh:aM H (upd H p Qb7):=aM.upd f;have keep:∀a∈fp++(g1++g2),a≠p:=λa c=>by
  have:∃o,H a=some o:=by
   obtain h|h:=f9.1 c
   .exact e.there a h
   .exact r.there a h
  obtain⟨o,q⟩:=this;exact bf q f
 have g:=(pm.append_right g2).append_left fp;have kk:=λa c=>keep a (g.mem_iff.1 c);have d:(fp++((p::g')++g2)).Perm (p::(fp++(g'++g2))):=by simp
 refine⟨sh,⟨⟨fp,_,e.mono Qy QiP,.cons (.lst bD (n.mono Qy λa c=>az (kk a (by simp[c])))) (l.mono Qy λa c=>az (keep a (by simp[c]))),?_,λa c=>?_⟩,S.bh.trans sh,S.zz,S.zh.trans sh,S.new,λa o q i=>?_,S.tab⟩⟩
 .refine d.nodup_iff.2 (si.2 ⟨λh=>kk p h rfl,g.nodup_iff.2 nd⟩)
 .obtain h|h:=eu.1 (d.mem_iff.1 c)
  .subst h;exact⟨j,S.bh.free f⟩
  .exact k a (g.mem_iff.1 h)
 .by_cases c:a=p
  .subst c;rw[bD]at q;cases q;cases i
  .rw[az c]at q;exact S.tp a o q i
variable{δ1 δ2:BA}{e1 e2:Expr}{p q:Bool}{pos:Pos}{d:D}{ds:BB}
def bI:MH X CL b [] δ [] δ:=λH Z σ ts vs Q S k=>JS dS (k [] H Z rfl Qy Qy S)
theorem bq(h1:QaG)(h2:MH X CL b es δ1 tl δ2)(hs:Qaf:=by exact bC rfl):MH X CL b Qab δ (t::tl) δ2:=λH Z σ ts vs Q S k=>
 JS (bZ dN JF hs) (h1 H Z σ ts vs _ S λv H1 Z1 c k1 f=>h2 H1 Z1 σ _ _ _ f λus H2 Z2 d a k2 g=>k _ H2 Z2 (by simp[d]) QbO Qao WD)
def aS:Xx X CL b [] δ [] δ:=λH Z σ ts vs Q S k=>JS dS (k [] H Z Qy Qy S .nil)
def ah(h1:QeA)(h2:Xx X CL b es δ1 ds δ2)(hs:Qaf:=by exact bC rfl):Xx X CL b Qab δ (d::ds) δ2:=λH Z σ ts vs Q S k=>
 JS (bZ dN JF hs) (h1 H Z σ ts vs _ S λv H1 Z1 c k1 i g=>h2 H1 Z1 σ _ _ _ i λus H2 Z2 a k2 h f=>k _ H2 Z2 QbO Qao h (.cons (g.mono k2) f))
variable{j:Nat}
def qw(h:QjH)(g:tl.length<=sizeLine):cY X CL b QhQ δ (.tup tl) δ1:=λH Z σ ts vs Q S k=>
 cK (ade JF) (h H Z σ ts vs _ S λus H1 Z1 d e k1 l=>⟨ d▸g,λp f=>by
  obtain⟨a,c,i⟩:=l.ML d f;exact k _ _ _ (e.trans a) Qcu i⟩)
theorem iS(h:MH X CL b es δ (ds.map T.sh) δ1)(a:QbM):cY X CL b QhQ δ (.sh Qb6) δ1:=by
 have:=Uu (qw (pos:=pos) (j:=j) h WD)
 rwa [T.gM,lu]at this
def c9(h:QjH)(f:tl.length<=sizeLine):cY X CL b (.List es pos) δ (.lst tl) δ1:=λH Z σ ts vs Q S k=>
 cK (ank JF) (h H Z σ ts vs _ S λus H1 Z1 a d k1 i=>⟨ a▸f,λp e=>by
  obtain⟨c,g⟩:=i.kN (g0:=[]) a e;exact k _ _ _ d Qcu g⟩)
def qx(h:QiS)(he:∀whole,isTrue e X.env whole=(do let v ← whole;standAt e.pos;holding [v] (truthy v)):=by intro _;rfl):ye X CL b e δ p δ1:=λH Z σ ts vs Q S k=>
 EI (amV dN he) (h H Z σ ts vs _ S λv H1 Z1 c k1 a=>⟨p,by have:=a.view;exact this.sc rfl,k H1 Z1 c k1 a.pop⟩)
def Gz(h:QbZ):ye X CL b (.UnaryOp .Not e pos) δ (!p) δ1:=λH Z σ ts vs Q S k=>EI (amW Xv) Qev
noncomputable def OC(X:Cx)(e:Expr):TT:=λσ H Q=>∀(whole:Sem Value) (pins:BM) (s:Qb),Inv X pins σ H s->wpAny Qr X.A (isTrue e X.env whole) QeG X.xe s
noncomputable def KO:PW X e (OC X e):=λwhole pins s _ _ _ I h=>h _ pins s I
def xa(X:Cx)(CL:BC)(b:Bx)(e:Expr)(δ:BA)(p:Bool)(δ':BA):Prop:=
 ∀(H Z:Hp) (σ:L2.St) (ts:Bi) (vs:BY) (Q:EN),bH X.K CL b H Z δ σ ts vs->(∀H' Z',aM Z Z'->aM H H'->bH X.K CL b H' Z' δ' σ ts vs->Q p H')->OC X e σ H Q
noncomputable def MN{t:TT}(h:PW X e t)(q:t σ H Q):OC X e σ H Q:=λwhole pins s I=>h _ pins s σ H Q I q
noncomputable def uo(h:xa X CL b e δ p δ1):ye X CL b e δ p δ1:=λH Z σ ts vs Q S k pins s I=>h H Z σ ts vs Q S k _ pins s I
def jP(h:QbZ):xa X CL b (.BoolOp .And [e] pos) δ p δ1:=λH Z σ ts vs Q S k=>MN (Xf Xv) Qev
def MP(h:QbZ):xa X CL b (.BoolOp .Or [e] pos) δ p δ1:=λH Z σ ts vs Q S k=>MN (acW Xv) Qev
theorem jE(h:QbZ)(h2:p=true->xa X CL b Qjd δ1 q δ1):xa X CL b Qi1 δ (p&&q) δ1:=λH Z σ ts vs Q S k=>
 MN (acX Xv KO) (h H Z σ ts vs _ S λH1 Z1 a k1 c=>by
  cases p with
  | true=>exact JR Qks
  | false=>exact JQ (k H1 Z1 a k1 c))
theorem XC(h:QbZ)(h2:p=false->xa X CL b Qg7 δ1 q δ1):xa X CL b QgW δ (p || q) δ1:=λH Z σ ts vs Q S k=>
 MN (TU Xv KO) (h H Z σ ts vs _ S λH1 Z1 a k1 c=>by
  cases p with
  | true=>exact JR (k H1 Z1 a k1 c)
  | false=>exact JQ Qks)
def MQ{op:BoolOp}(h:QaG):cY X CL b (.BoolOp op [e] pos) δ t δ1:=λH Z σ ts vs Q S k=>cK (amX dN) Qev
def Uv(h:QiS)(h2:p=true->cY X CL b Qjd δ1 (.sh (.bl q)) δ1):cY X CL b Qi1 δ (.sh (.bl (p&&q))) δ1:=λH Z σ ts vs Q S k=>
 cK (amY dN dN) (h H Z σ ts vs _ S λv H1 Z1 c k1 a=>by
  have hv:=by have:=a.view;exact this.sc rfl
  refine⟨p,hv,?_⟩;cases p with
  | true=>exact JR Qkr
  | false=>exact JQ (k _ H1 Z1 c k1 (a.pop.push Qcf)))
def alY(h:QiS)(h2:p=false->cY X CL b Qg7 δ1 (.sh (.bl q)) δ1):cY X CL b QgW δ (.sh (.bl (p || q))) δ1:=λH Z σ ts vs Q S k=>
 cK (arL dN dN) (h H Z σ ts vs _ S λv H1 Z1 c k1 a=>by
  have hv:=by have:=a.view;exact this.sc rfl
  refine⟨p,hv,?_⟩;cases p with
  | true=>exact JR (k _ H1 Z1 c k1 (a.pop.push Qbh))
  | false=>exact JQ Qkr)
theorem anG(h:QbZ)(h1:p=true->cY X CL b e1 δ1 t δ2)(h2:p=false->cY X CL b e2 δ1 t δ2):cY X CL b (.IfExp e e1 e2 pos) δ t δ2:=λH Z σ ts vs Q S k=>
 cK (acZ Xv dN dN) (h H Z σ ts vs _ S λH1 Z1 d k1 f=>by
  cases p with
  | true=>exact JR (h1 rfl H1 Z1 σ ts vs _ f λv H2 Z2 a k2 c=>k v H2 Z2 (d.trans a) Qao c)
  | false=>exact JQ (h2 rfl H1 Z1 σ ts vs _ f λv H2 Z2 a k2 c=>k v H2 Z2 (d.trans a) Qao c))
variable{k:Int}
theorem AV(r:QeK)(h:QeY):∃v,za vs k=some v/\bW K CL Z d v:=by
 unfold za at h ⊢;rw[← r.length];cases e:My _ k with
 | none=>rw[e]at h;cases h
 | some j=>
  rw[e]at h;exact r.get h
def bR(h1:dU X CL b e1 δ (.tup ds) δ1)(h2:Qfn)(l:QeY)(hs:rD e2:=by exactλ_ _=>rfl):dU X CL b Qfv δ d δ2:=λH Z σ ts vs Q S kk=>
 cK (Gu Ul dN dN hs) (h1 H Z σ ts vs _ S λv1 H1 Z1 e k1 n i=>h2 H1 Z1 σ ts vs _ n λv2 H2 Z2 c k2 m h=>by
  have a:=i.mono k2;obtain⟨_,_,rfl,j,g⟩:=a.Q0;obtain⟨v,hv,f⟩:=AV g l;exact⟨_,_,k,v,rfl,h.sc rfl,j,hv,kk v H2 Z2 Qga Qao m f⟩)
def bY(h1:Qi2)(h2:Qfn)(l:QeY)(hs:rD e2:=by exactλ_ _=>rfl):dU X CL b Qfv δ d δ2:=λH Z σ ts vs Q S kk=>
 cK (Gu Fw dN dN hs) (h1 H Z σ ts vs _ S λv1 H1 Z1 e k1 n i=>h2 H1 Z1 σ ts vs _ n λv2 H2 Z2 c k2 m h=>by
  have a:=i.mono k2;obtain⟨_,_,rfl,j,g⟩:=a.g6;obtain⟨v,hv,f⟩:=AV g l;exact⟨_,_,k,v,rfl,h.sc rfl,j,hv,kk v H2 Z2 Qga Qao m f⟩)
def oM(h1:cY X CL b e1 δ (.sh Qb6) δ1)(h2:Qfn)(j:QeY)(hs:rD e2:=by exactλ_ _=>rfl):cY X CL b Qfv δ (.sh d) δ2:=λH Z σ ts vs Q S kk=>
 cK (Gu Ul dN dN hs) (h1 H Z σ ts vs _ S λv1 H1 Z1 e k1 l=>h2 H1 Z1 σ _ _ _ l λv2 H2 Z2 c k2 a h=>by
  obtain⟨fp,gp,_,r,_,_⟩:=a.rep;cases r with
  | cons r _=>
   replace r:=r.MB;obtain⟨rfl,r⟩:=r;obtain⟨_,_,rfl,i,g⟩:=r.Q0;obtain⟨v,hv,f⟩:=AV g j;exact⟨_,_,k,v,rfl,h.sc rfl,aM.u7 a.zh i,hv,kk v H2 Z2 Qga Qao (a.pop.push f)⟩)
def Uw(h1:cY X CL b e1 δ (.sh QcC) δ1)(h2:Qfn)(j:QeY)(hs:rD e2:=by exactλ_ _=>rfl):cY X CL b Qfv δ (.sh d) δ2:=λH Z σ ts vs Q S kk=>
 cK (Gu Fw dN dN hs) (h1 H Z σ ts vs _ S λv1 H1 Z1 e k1 l=>h2 H1 Z1 σ _ _ _ l λv2 H2 Z2 c k2 a h=>by
  obtain⟨fp,gp,_,r,_,_⟩:=a.rep;cases r with
  | cons r _=>
   replace r:=r.MB;obtain⟨rfl,r⟩:=r;obtain⟨_,_,rfl,i,g⟩:=r.g6;obtain⟨v,hv,f⟩:=AV g j;exact⟨_,_,k,v,rfl,h.sc rfl,a.zh.seq i,hv,kk v H2 Z2 Qga Qao (a.pop.push f)⟩)
theorem bH.pF:∀{ds:BB} {us:BY} {ts:Bi} {vs:BY},aG K CL Z ds us->bH K CL b H Z δ σ ts vs->bH K CL b H Z δ σ ((ds.map T.sh).reverse++ts) QdL
 | _,_,_,_,.nil,S=>S
 | _,_,ts,vs,.cons r t,S=>by
  rw[og,rh,rh,nr,nr];exact bH.pF t (S.push r)
theorem bH.drops(S:bH K CL b H Z δ σ (tl++ts) (us++vs))(a:us.length=tl.length):bH K CL b H Z δ σ ts vs:=by
 induction tl generalizing us with
 | nil=>
  cases us with
  | nil=>exact S
  | cons _ _=>simp at a
 | cons t tl c=>
  cases us with
  | nil=>simp at a
  | cons u us=>exact c S.pop WD
theorem bH.XD{ds:BB}(S:bH K CL b H Z δ σ ((ds.map T.sh).reverse++ts) QdL)(d:us.length=ds.length):aG K CL Z ds us:=by
 obtain⟨fp,gp,e,r,nd,k⟩:=S.rep;obtain⟨g1,g2,g,a,f⟩:=bA.split (by simp[d]) r;obtain⟨g',c,pm⟩:=a.rev;exact c.toF.1
section
variable{pp:Pos}{ds:BB}
def Fx(hm:X.mg "len" = none)(h:Qcl)(f:Gl X "len":=by rfl)(hs:Qad:=by exact bC rfl)(hpl:(backTo pos (starEach ([]:Cc) X.env)).any (·.1)=false:=by rfl):cY X CL b QlC δ (.sh (.int ds.length)) δ1:=λH Z σ ts vs Q S k=>
 cK (nU MA f hm PySem.boot_len Qay (he:=hs)) (h H Z σ ts vs _ S λv H1 Z1 a k1 g r=>by
  obtain⟨_,_,rfl,d,c⟩:=r.g6;exact⟨_,_,rfl,.inl d,c.length▸k _ H1 Z1 a k1 (g.push QbE) ⟩)
def j5(hm:QeH)(h:QgI)(j:Qe8:=by rfl)(hv:bootBuiltins "list" = some QeL:=by rfl)(hs:Qad:=by exact bC rfl):cY X CL b QiI δ (.lst Qbf) δ1:=λH Z σ ts vs Q S k=>
 cK (k7 AU j hm hv Qay (he:=hs)) (h H Z σ ts vs _ S λv H1 Z1 f k1 a=>by
  obtain⟨fp,gp,_,r,_,_⟩:=a.rep;cases r with
  | cons r _=>
   replace r:=r.MB;obtain⟨rfl,r⟩:=r;obtain⟨_,_,rfl,g,d⟩:=r.g6;refine⟨_,_,rfl,.inl (a.zh.seq g),λl i=>?_⟩;obtain⟨c,m⟩:=(bH.pF d a.pop).kN (g0:=[]) (by simp[d.length]) i;exact k _ _ _ f Qcu m)
def jF(hm:QeH)(h:Qcl)(hi:QbX)(j:Qe8:=by rfl)(hv:bootBuiltins "list" = some QeL:=by rfl)(hs:Qad:=by exact bC rfl):cY X CL b QiI δ (.lst Qbf) δ1:=λH Z σ ts vs Q S k=>
 cK (k7 AU j hm hv Qay (he:=hs)) (h H Z σ ts vs _ S λv H1 Z1 f k1 d r=>by
  obtain⟨_,_,rfl,g,a⟩:=r.g6;refine⟨_,_,rfl,.inl g,λl i=>?_⟩;obtain⟨c,m⟩:=(bH.pF (aG.tF d.tp hi a) d).kN (g0:=[]) (by simp[a.length]) i;exact k _ _ _ f Qcu m)
def Q6(K:Frag)(CL:BC){A:Type}(n:Nat)(arg:Qai)(Pre:QP)(res:Q4):Sp:=λvs H Q _=>
 ∃(W:Hp) (a:A),aM W H/\(∀c o,H c=some o->kM o=true->W c=some o)/\aG K CL W Qb4 vs/\(arg a).length=n/\Pre a/\oK CL W ∧
  ∀v H' W' fp,aM H H'->aM W W'->aM W' H'->(∀c o,W' c=some o->W c=none->H c=none)->(∀c o,H' c=some o->kM o=true->W' c=some o) →
   bU K CL H' W' Qcg v fp->fp.Nodup->(∀c∈fp,W' c=none/\H c=none)->Q v H'
variable{A:Type}{k n:Nat}{f:Addr}{fd:Qax}{ps:At}{x:Str}{arg:Qai}{Pre:QP}{res:Q4}
def aii(a:A)(F:Qgi)(m:Qbv)(hm:QfO)(s:QfC)(y:Qcq)
  (h:QgS) (p:QbI) (o:Pre a) (u:QdP) (t:Q3)
  (l:AD x:=by decide) (he:Qaf:=by exact bC rfl) (hpl:Qas:=by rfl) :
  cY X CL b QbC δ (res a) δ1:=λH Z σ ts vs Q S kk=>
 cK (Mw F m t hm s y .nil vG JF l he hpl) (h H Z σ ts vs _ S λus H1 Z1 g k1 c r=>by
  rw[n2];refine⟨H1,a,.refl _,λ_ _ q _=>q,r,p,o,c.MD,λv H' W' fp d ww j nw tp rt nd own=>?_⟩;obtain⟨Z',i,z⟩:=c.back d c.zh ww j nw tp rt nd own (.inr u);exact kk v H' Z' (g.trans i) (k1.trans d) z)
theorem adE(a:A)(F:Qgi)(o:Qbv)(hm:QfO)(r:QfC)(t:Qcq)
  (h:Qgz) (q:QbI) (p:Pre a) (s:Q3)
  (m:AD x:=by decide) (he:Qaf:=by exact bC rfl) (hpl:Qas:=by rfl) :
  cY X CL b QbC δ (res a) δ1:=λH Z σ ts vs Q S kk=>
 cK (Mw F o s hm r t .nil vG JF m he hpl) (h H Z σ ts vs _ S λus H1 Z1 z i k1 d=>by
  rw[n2];have c:us.length=(arg a).length:=by simp_all
  have u:=d.drops (by simp[c]);refine⟨Z1,a,d.zh,d.tp,d.XD c,q,p,d.Ur,λv H' W' fp g ww l nw tp rt nd own=>?_⟩;obtain⟨Z',j,y⟩:=u.back g Qy ww l nw tp rt nd own Qac;exact kk v H' Z' (i.trans j) (k1.trans g) y)
variable{D D':gi}{st:Stmt}{fU ass:CS}
theorem Meets.to{E:Ends}(M:Qju)(h1:∀δ,D'.nx δ->D.nx δ)(h2:∀t δ,D'.rt t δ->D.rt t δ)(c:∀δ,D'.bk δ->D.bk δ)(a:∀δ,D'.ct δ->D.ct δ):Meets K CL b Z ts vs D' E:=
 ⟨λ_ _ _ _ s S k=>M.nx _ _ _ _ s S (h1 _ k),λ_ _ _ _ _ _ s S k=>M.rt _ _ _ _ _ _ s S (h2 _ _ k),λ_ _ _ _ s S k=>M.bk _ _ _ _ s S (c _ k),λ_ _ _ _ s S k=>M.ct _ _ _ _ s S (a _ k)⟩
def ak(h:D.nx δ):dW X CL b [] δ D:=λH Z σ ts vs E S M=>OE ah0 (M.nx δ σ H Z Qy S h)
def cH(h:Ut X CL b st δ {D with nx:=λδ1=>dW X CL b fU δ1 D}):dW X CL b (st::fU) δ D:=λH Z σ ts vs E S M=>
 OE (Gj RF Uq) (h H Z σ ts vs _ S ⟨λδ' σ' H' Z' s a k=>k H' Z' σ' ts vs E a (M.mono s),M.rt,M.bk,M.ct⟩)
def adF(h:D.bk δ):Ut X CL b (.Break pos) δ D:=λH Z σ ts vs E S M=>rV ac0 (M.bk δ σ H Z Qy S h)
def aij(h:D.ct δ):Ut X CL b (.Continue pos) δ D:=λH Z σ ts vs E S M=>rV QJ (M.ct δ σ H Z Qy S h)
def anI(h:QaG)(k:D.rt t δ1):Ut X CL b QjA δ D:=λH Z σ ts vs E S M=>rV (ac1 dN) (h H Z σ ts vs _ S λv H1 Z1 a k1 c=>M.rt t v H1 Z1 δ1 σ a c k)
theorem asu(h:QbZ)(h1:p=true->dW X CL b fU δ1 D)(h2:p=false->dW X CL b ass δ1 D):Ut X CL b (.If e fU ass pos) δ D:=λH Z σ ts vs E S M=>
 rV (alL Xv Uq Uq) (h H Z σ ts vs _ S λH1 Z1 a k1 c=>by
  cases p with
  | true=>exact JR (h1 rfl H1 Z1 σ ts vs E c (M.mono a))
  | false=>exact JQ (h2 rfl H1 Z1 σ ts vs E c (M.mono a)))
def Ux(i:Nat){pos':Pos}(h:QaG)(k:D.nx (δ1.set i Qar))(d:Qbm:=by decide)(f:Qa9:=by assumption)(hi:X.N[i]? = some x:=by rfl)(c:Qc3:=by first|exact .inl rfl|exact .inr rfl)
  (hs:Qeg:=by rfl) (hf:AM X x:=by first|exact .inl rfl|exact .inr rfl|assumption):Ut X CL b Qi0 δ D:=λH Z σ ts vs E S M=>
 rV (ac3 f hi c dN hs hf) (h H Z σ ts vs _ S λv H1 Z1 a k1 g=>M.nx _ _ H1 Z1 a (g.set d) k)
end
noncomputable def entry(N:At)(ds:BB):BA:=ds.map Qhh++List.replicate (N.length-ds.length) none
theorem kO{K:Frag}{CL:BC}{H Z:Hp}:∀{ds:BB} {vs:BY} (n:Nat),aG K CL Z ds vs->fH K CL H Z (ds.map Qhh++List.replicate n none) (vs.map some++List.replicate n none) []
 | _,_,0,.nil=>.nil
 | _,_,n+1,.nil=>.skip (kO n .nil)
 | _,_,n,.cons r t=>.cons (.sh r) (kO n t)
variable{P:Qak}{w:World}{mg:Bn}{base:Heap}{x qual:Str}{st:Stmt}{f:Addr}{fd:Qax}{N ps:At}{A:Type}
theorem Fy{k:Nat}{arg:Qai}{Pre:QP}{res:Q4}(F:QcZ)(S:QbV)
  (u:∀(gy:Value) (g:Qal) (outer:DA) (s:Qb) (H:Hp) (E:XK) (b:Bx) (a:A),eN k (g.deeper Qci)->Pre a →
   dW (rC mJ P w K mg base N qual Qaz f gy g outer s H E).Mu CL b Qbl QdR {nx:=λ_=>res a=.sh .non,rt:=λt _=>t=res a}) :
  eV P w K mg base mJ Qau f fd ps QgO:=by
 refine F.ok S (λvs H Q E h=>?_) (λgy g outer s H vs Q E n h=>?_)
 .obtain⟨W,a,_,_,r,i,_⟩:=h;rw[← r.length];exact i
 .obtain⟨W,a,j,tp,r,i,p,tb,kk⟩:=h;refine⟨_,Uq,u gy g _ s H E ⟨H,W⟩ a n p H W _ [] [] _ ⟨⟨[],[],?_,.nil,vy,λa d=>by cases d⟩,.refl _,.refl _,j,λa o q z=>?_,tp,tb⟩ ⟨λδ' σ' H' Z' s' c e=>?_,λt v H' Z' δ' σ' s' c e=>?_,λ_ _ _ _ _ _ e=>e.elim,λ_ _ _ _ _ _ e=>e.elim⟩⟩
  .unfold entry L2.start;rw[← r.length];exact kO _ r
  .grind
  .exact kk .non H' Z' [] c.bh c.zz c.zh c.new c.tp (by rw[e];exact .sh .non) vy λa d=>by cases d
  .have y:=e;subst y;obtain⟨fp,gp,_,m,nd,own⟩:=c.rep;cases m with
   | @cons _ _ _ _ f1 f2 l B=>
    have h1:=(oT.1 nd).2.1;exact kk v H' Z' f1 c.bh c.zz c.zh c.new c.tp l (oT.1 h1).1 λa d=>own a (j9 _ (nv _ d))
variable{prog:Qak}{A:Qal}{R:Result->Shared->Prop}{s:Qb}{elt iter:Expr}{ifs:Cc}{scope:Scope}
theorem MR{target:Expr}{it acc:Value}(I:Nat->Shared->Prop)
  (turn:∀n s,I n s->wpAny Qaa A (pyNext it) (λr d=>match r with
   | none=>R (.ok .next) d
   | some v=>wpAny Qaa A (letOwnedTupleGo target it v) (λ_ b=>wpAny Qaa A (assign target env v) (λ_ g=>
     wpAny Qaa A (forIn ifs true λc r=>if r=true then do let ok ← isTrue c env (eval c env);pure (ForInStep.yield ok) else pure Qj3) (λok a=>
      if ok=true then wpAny Qaa A (eval elt env) (λx f=>
       wpAny Qaa A (call (.builtin "list.append") [acc,x]) (λ_ e=>∃m,m<n/\I m e) Qa0 f) Qa0 a
      else ∃m,m<n/\I m a) Qa0 g) Qa0 b) Qa0 d) Qa0 s)
  (n:Nat) (h:I n s) :
  codeAny Qaa A (.compLoop (.ListComp elt [⟨target,iter,ifs,0⟩] scope pos) 0 it acc env) R s:=by
 refine codeAny_loop rfl I (λn s q=>?_) n h;refine wpAny_noted ?_;rw[compTurn_list];refine fF (MW (fF (o3 (turn n s q) (λr d j=>?_) λ_ _ h'=>h'.elim)));cases r with
 | none=>exact oa j
 | some v=>
  refine fF (o3 j (λ_ b k=>?_) λ_ _ h'=>h'.elim);refine fF (o3 k (λ_ g p=>fF (o3 p (λok a i=>?_) λ_ _ h'=>h'.elim)) λ_ _ h'=>h'.elim);cases ok with
  | false=>exact oa ⟨rfl,i⟩
  | true=>
   exact fF (fF (o3 i (λx f o=>fF (o3 o (λ_ e l=>oa (oa ⟨rfl,l⟩)) λ_ _ h'=>h'.elim)) λ_ _ h'=>h'.elim))
abbrev _root_.D1:=List (Str×NameKind)
noncomputable def fq(env:Env):D1->List QeQ->List QeQ
 | [],cs=>cs
 | (n,k)::r,cs=>fq env r (if k == .free then(n,(env.cells.lookup n).getD 0)::cs else cs)
theorem nA(h:∀x∈scope.names,x.2=.free->∃c,env.cells.lookup x.1=some c):closureFor scope env=pure (fq env scope.names []):=by
 have go:∀(l:List _) (cs:List _),(∀x∈l,x.2=.free->∃c,env.cells.lookup x.1=some c) →
   (forIn l cs λx r=>match x with|(name,kind)=>if (kind==NameKind.free)=true then do let a ← cellOf env name;pure (ForInStep.yield ((name,a)::r)) else pure Qj3:Sem _)=pure (fq env l cs):=by
  intro l
  induction l with
  | nil=>intro cs _;rfl
  | cons x r f=>
   intro cs d;obtain⟨n,k⟩:=x;rw[List.forIn_cons];by_cases j:k=.free
   .subst j;obtain⟨c,g⟩:=d _ eU rfl;have e:cellOf env n=pure c:=by unfold cellOf;rw[g]
    simp only[Na,uc,e,pure_bind];rw[f _ λy b=>d y (jk _ b)];simp[fq,uc];rw[g];rfl
   .have i:(k==NameKind.free)=false:=by grind
    simp only[i,tw,ti,pure_bind];rw[f _ λy b=>d y (jk _ b)];simp[fq,i,tw,ti]
 unfold closureFor;have:=go _ [] h;simp only[bind_pure]at this ⊢;exact this
theorem uq{env:Env}:∀{l:D1} {cs:List QeQ} {y:Str} {c:Addr},(∀x∈l,x.2=.free->∃c,env.cells.lookup x.1=some c)->(∀y c,cs.lookup y=some c->env.cells.lookup y=some c) →
  (fq env l cs).lookup y=some c->env.cells.lookup y=some c
 | [],cs,y,c,_,h,e=>h y c e
 | (n,k)::r,cs,y,c,a,h,e=>by
  refine uq (λz hz=>a z QcF) (λz d hz=>?_) e;by_cases b:k=.free
  .subst b;obtain⟨g,f⟩:=a _ eU rfl;grind
  simp_all
theorem Ej{env:Env}{y:Str}:∀{l:D1} {cs:List QeQ},(∃c,cs.lookup y=some c)->∃c,(fq env l cs).lookup y=some c
 | [],cs,h=>h
 | (n,k)::r,cs,h=>by
  refine Ej (l:=r) ?_;by_cases a:(k==NameKind.free)=true
  .rw[cq a,pf];by_cases b:(y==n)=true
   .rw[b];simp_all
   .have:(y==n)=false:=by simp_all
    rw[this];exact h
  .rw[bF a];exact h
theorem qy{env:Env}{y:Str}:∀{l:D1} {cs:List QeQ},l.lookup y=some .free->∃c,(fq env l cs).lookup y=some c
 | [],_,h=>by simp at h
 | (n,k)::r,cs,h=>by
  rw[pf]at h;by_cases a:(y==n)=true
  .refine Ej (l:=r) ?_;simp_all
  .have:(y==n)=false:=by simp_all
   rw[this]at h;exact qy (l:=r) h
def dg(X:Cx)(scope:Scope)(Nc:At)(C:Addr)(s:Qb)(H:Hp)(fp:BN):Cx where
 prog:=X.prog
 w:=X.w
 K:=X.K
 mg:=X.mg
 base:=X.base
 A:=X.A
 N:=Nc
 gZ:=s
 q9:=H
 env:=compEnvC scope QbK C X.env
 outer:=X.stack
 stack:=X.stack
 ex:=fp
 fn:=λ_=>false
 calm:=X.calm
 pn:=[]
 xe:=λ_ _=>False
abbrev _root_.CU:=List Nat
structure fQ(X:Cx)(scope:Scope)(x:Str)(Nc:At)(ix:CU):Prop where
 kind:scope.kind=.function
 CD:∀y∈scope.names,y.2 ≠ .cell
 nd:Nc.Nodup
 names:∀y∈scope.names,y.2=.local->scope.names.lookup y.1=some .local
 own:scope.names.lookup x=some .local
 frees:∀y∈scope.names,y.2=.free->scope.names.lookup y.1=some .free/\QkX
 hd:Nc=x::ix.filterMap (X.N[·]?)
 xm:∀i∈ix,∃y,X.N[i]? = some y/\scope.names.lookup y=some .free
theorem jG{env:Env}:∀{names:D1} {x:Str} {k:NameKind},names.lookup x=some k ->
  (names.map λ(n,k)=>if (k==NameKind.free&&env.scope.kind == .function&&env.kindOf n==some .cell) then(n,NameKind.cell) else(n,k)).lookup x=some (if (k==NameKind.free&&env.scope.kind == .function&&env.kindOf x==some .cell) then .cell else k)
 | [],_,_,h=>by simp at h
 | (n,b)::r,x,k,h=>by
  have c:=@jG env r x k;show List.lookup x (Qkk::_)=_;cases a:x==n with
  | true=>
   simp[pf,a]at h;cases h;have e:x=n:=by grind
   subst e;split<;>simp
  | false=>
   simp[pf,a]at h;split
   .simp only[pf,a];exact c h
   .simp only[pf,a];exact c h
theorem pG{env:Env}:∀{names:D1} {x:Str},names.lookup x=none ->
  (names.map λ(n,k)=>if (k==NameKind.free&&env.scope.kind == .function&&env.kindOf n==some .cell) then(n,NameKind.cell) else(n,k)).lookup x=none
 | [],_,_=>rfl
 | (n,b)::r,x,h=>by
  have c:=@pG env r x;show List.lookup x (Qkk::_)=_;cases a:x==n with
  | true=>simp only[pf,a]at h;cases h
  | false=>
   simp only[pf,a]at h;split
   .simp only[pf,a];exact c h
   .simp only[pf,a];exact c h
variable{Nc:At}{ix:CU}{pins:BM}
noncomputable def zR(σ:L2.St)(ix:CU)(o:QdW):L2.St:=o::ix.map λi=>(σ[i]?).getD none
theorem ZD{l:BM}{σ':L2.St}{s':Qb}{f:Heap}(I:Qz)(i:∀b∈fp,pH X pins H b)
  (J:Inv Qle l σ' H' s') (hs:Heap.SameBut s.heap.objs.size s'.heap f):Inv X pins σ H' {s' with heap:=f}:=by
 have un:Un Qb0 fp H H' s.heap _:=J.base;have j:Un Qb0 fp H H' s.heap f:=by
  have ne:∀b o,s.heap.get? b=some o->b≠s.heap.objs.size:=λb o e=>oI (nz e);refine⟨λb o e n a h=>(hs.2 b (ne b o e)).trans (un.keep b o e n a h),λb o e n a h=>?_,un.free,λb o e h=>?_,un.zL,un.fO,un.zM⟩
  .obtain⟨sl,q⟩:=un.slot b o e n a h;exact⟨sl,(hs.2 b (ne b o e)).trans q⟩
  .obtain⟨o',q⟩:=un.there b o e h;exact⟨o',(hs.2 b (ne b o e)).trans q⟩
 have m:H' s.heap.objs.size=none:=J.free;have fC:=λb u e=>by
  refine(J.fC b u e).AH (λc v r q=>(hs.2 c ?_).trans q) Qdc λ_ _ q=>q;rintro rfl;grind
 obtain⟨p,g,d,t,k⟩:=s';obtain rfl:k=s.os:=J.os;exact I.call j fC J.bare λb a=>⟨(i b a).2.2.2.1,(i b a).2.1,(i b a).2.2.2.2.1,(i b a).2.2.2.2.2⟩
def OA(X:Cx):Cc->TT
 | []=>λ_ H Q=>Q true H
 | [c]=>Mc X c
 | _=>λ_ _ _=>False
def adG(I:Qz)(h:OA X ifs σ H Q)(a:QfD) :
  wpAny Qr X.A (forIn ifs true λc r=>if r=true then do let ok ← isTrue c X.env (eval c X.env);pure (ForInStep.yield ok) else pure Qj3) QeG Qa0 s:=by
 match ifs,h with
 | [],h=>exact wpAny_tests_nil ⟨H,I,h⟩
 | [c],h=>
  have:=h pins s I;rw[a]at this;exact wpAny_tests_one this
def PH(X:Cx)(CL:BC)(b:Bx)(ifs:Cc)(δ:BA)(p:Bool):Prop:=
 match ifs with
 | []=>p=true
 | [c]=>ye X CL b c δ p δ
 | _=>False
theorem PH.sem(h:PH X CL b ifs δ p)(S:bH X.K CL b H Z δ σ [] [])
  (k:∀H' Z',aM Z Z'->aM H H'->bH X.K CL b H' Z' δ σ [] []->Q p H'):OA X ifs σ H Q:=by
 match ifs,h with
 | [],h=>
  have e:=h;subst e;exact k H Z Qy Qy S
 | [c],h=>exact(h) H Z σ [] [] Q S k
def yg:(T.lst ts).clean=T.cZ ts:=rfl
theorem GA{g:D->T}:∀{ds:BB},(∀d∈ds,(g d).clean=true)->T.cZ (ds.map g)=true
 | [],_=>rfl
 | d::ds,h=>by
  rw[og,T.cZ,h d eU,GA λe he=>h e (jk _ he)];rfl
theorem bA.at:∀{tl:Bi} {us:BY} {fp:BN} {j:Nat} {t:T},bA K CL H Z tl us fp->tl[j]? = some t->∃v f1 f2 b,us[j]? = some v/\fp=f1++(f2++b)/\bU K CL H Z t v f2 ∧
  ∀{H':Hp} {t':T} {v':V} {g:BN},(∀a∈f1++b,H' a=H a)->bU K CL H' Z t' v' g->bA K CL H' Z (tl.set j t') (us.set j v') (f1++(g++b))
 | _,_,_,_,_,.nil,e=>by simp at e
 | _,_,_,0,_,.cons (fp:=fp) (gp:=gp) r q,e=>by
  simp at e;subst e;exact⟨_,[],fp,gp,rfl,rfl,r,λ{H' t' v' g} k c=>bA.cons (fp:=g) c (bA.mono Qy (λa d=>k a (‹_›)) q)⟩
 | _,_,_,j+1,t,.cons (fp:=fp) r q,e=>by
  obtain⟨v,f1,f2,b,h1,h2,h,f⟩:=bA.at q (‹_›);refine⟨v,fp++f1,f2,b,‹_›,WD,h,λk c=>?_⟩;rw[nr];exact .cons (r.mono Qy λa d=>k a (by simp[d])) (f (λa d=>k a WD) c)
variable{α:Type}
theorem iC{l:QT}{x:α}(h:l[i]? = some x):l.set i x=l:=by
 apply FF;intro j;rw[List.getElem?_set];split
 .rename_i e;subst e;split
  .exact h.symm
  grind
 .rfl
variable{gp:BN}
theorem bH.write{f1 f2 d g f:BN}(S:Qag)(nd:(QeX++gp).Nodup)(own:∀c∈QeX++gp,Z c=none/\b.B c=none)(k:a∈f2)
  (m:∃o,H a=some o) (l:fH K CL (upd H a QaO) Z δ2 σ (f1++(g++d))) (j:bA K CL (upd H a QaO) Z tl us f) (pm:((f1++(g++d))++f).Nodup) (sub:∀c∈(f1++(g++d))++f,c∈QeX++gp) :
  bH K CL b (upd H a QaO) Z δ2 σ tl us:=by
 have h:=own a (by simp[k]);refine⟨⟨_,_,l,j,pm,λc e=>own c (sub c e)⟩,λc o q=>?_,S.zz,λc o q=>?_,S.new,λc o q i=>?_,S.tab⟩
 .rw[az (bf q h.2)];exact S.bh c o q
 .rw[az (bf q h.1)];exact S.zh c o q
 .by_cases e:c=a
  .subst e;rw[bD]at q;cases q;cases i
  .rw[az e]at q;exact S.tp c o q i
theorem bH.append(S:Qck)(hi:δ[i]? = some Qf6) :
  ∃a us,σ[i]? = some (some Qaj)/\H a=some Qb7/\us.length=tl.length/\bH K CL b (upd H a (.lst (us++[v]))) Z (δ.set i (some QdN)) σ ts vs:=by
 obtain⟨fp,gp,e,r,nd,k⟩:=S.rep;obtain⟨v0,f1,f2,l,hv,o,rt,put,_⟩:=e.get hi;subst o;obtain⟨a,us,g,rfl,rfl,n,rs⟩:=rt.g6;cases r with
 | @cons _ _ _ _ j f s q=>
  have ne:∀c∈(f1++(g++l))++(j++f),c≠a:=λc d e=>by
   subst e;have m:((f1++((c::g)++l))++(j++f)).Perm (c::((f1++(g++l))++(j++f))):=by simp
   exact(si.1 (m.nodup_iff.1 nd)).1 d
  refine⟨a,us,hv,n,rs.length.symm,?_⟩;have p:bU K CL _ Z _ Qaj _:=
   .lst bD (bA.app (rs.mono Qy λc d=>az (ne c (by simp[d]))) (.cons (s.mono Qy λc d=>az (ne c (by simp[d]))) .nil))
  have e2:=put Qy (λc d=>az (ne c (by
   obtain h|h:=f9.1 d
   .simp[h]
   .simp[h]))) p
  rw[iC hv]at e2;have m:((f1++((a::(g++(j++[])))++l))++f).Perm ((f1++((a::g)++l))++(j++f)):=by
   simp only[n2,uj,nr];refine yd f1 (List.Perm.cons a (yd g ?_));rw[← nr,← nr];exact ro.append_right f
  exact S.write nd k (eU) ⟨_,n⟩ e2 (q.mono Qy λc d=>az (ne c (by simp[d]))) (m.nodup_iff.2 nd) λc d=>m.mem_iff.1 d
section
variable{tl0:Bi}{D:gi}{pp pa pb:Pos}
def anJ(i:Nat)(h0:δ[i]? = some QhO)(h:QaG)(h1:δ1[i]? = some Qf6)(o:tl.length<sizeLine)(k:D.nx (δ1.set i (some QdN)))
  (hi:X.N[i]? = some x:=by rfl) (hv:yA X.env.scope x:=by first|exact Or.inl rfl|exact Or.inr (Or.inl rfl)|exact Or.inr (Or.inr rfl)) (hd:AD x:=by decide) (kL:AE x:=by decide)
  (l:Qik:=by rfl)
  (f:AB X pb e:=by rfl)
  (c:Qfr:=by rfl) (hs:Qad:=by exact bC rfl) (s:Qiw:=by rfl) :
  Ut X CL b (.Expr Qgl pos) δ D:=λH Z σ ts vs E S M=>
 rV (x8 (Le JI UP T2 yc QhV Qay l f c hs rfl) s) (by
  obtain⟨v0,e0,j⟩:=S.look h0;refine⟨v0,e0,?_,?_⟩
  .obtain⟨_,_,rfl,n,_⟩:=j.g6;exact .inl ⟨rfl,_,n⟩
  .refine h H Z σ ts vs _ S λv H1 Z1 g k1 r=>?_;obtain⟨a,us,d,p,m,q⟩:=r.append h1;rw[e0]at d;cases d;exact⟨a,us,v,rfl,rfl,p,m▸o,M.nx _ σ _ Z1 g q k⟩)
end
def YI:Option Qcd->Option T
 | some (some t)=>some (.sh t.gM)
 | _=>none
noncomputable def y4:Option Qcd->Option T
 | some (some (T.sh d))=>some Qey
 | _=>none
def GB(δ:BA)(ix:CU):BA:=ix.map λi=>YI δ[i]?
def CG(δ:BA)(ix:CU):BA:=ix.map λi=>y4 δ[i]?
theorem AW(S:Qag):∀(ix:CU) (H':Hp),fH K CL H' H (GB δ ix) (ix.map λi=>(σ[i]?).getD none) []
 | [],_=>.nil
 | i::r,H'=>by
  have a:=AW S r H';show fH K CL H' H (YI _::GB δ r) (((σ[i]?).getD none)::r.map _) [];cases e:δ[i]? with
  | none=>exact .skip a
  | some o=>
   cases o with
   | none=>exact .skip a
   | some t=>
    obtain⟨v,hv,c⟩:=S.look e;rw[hv];exact .cons (.sh c) a
theorem GC(S:Qag):∀(ix:CU) (H':Hp),fH K CL H' Z (CG δ ix) (ix.map λi=>(σ[i]?).getD none) []
 | [],_=>.nil
 | i::r,H'=>by
  have a:=GC S r H';show fH K CL H' Z (y4 _::CG δ r) (((σ[i]?).getD none)::r.map _) [];cases e:δ[i]? with
  | none=>exact .skip a
  | some o=>
   cases o with
   | none=>exact .skip a
   | some t=>
    cases t with
    | sh d=>
     obtain⟨v,hv,c⟩:=S.Xw e;rw[hv];exact .cons (.sh c) a
    | tup _=>exact .skip a
    | lst _=>exact .skip a
    | ins _ _=>exact .skip a
    | tE _=>exact .skip a
    | dct _=>exact .skip a
    | pin _ _=>exact .skip a
    | Ei _ _ _=>exact .skip a
section
variable{ds:BB}
structure Comes(X:Cx)(CL:BC)(b:Bx)(δ1:BA)(σ:L2.St)(ts:Bi)(vs:BY)(Z H:Hp)(ds:BB)(J:It)(H1:Hp):Prop where
 ex:∃Z1 us,aM Z Z1/\aM H H1/\bH X.K CL b H1 Z1 δ1 σ ts vs/\aG X.K CL Z1 ds us/\(∀i H2,aM Z1 H2->i<ds.length->J.go i H2) ∧
  (∀i H2 x H',aM Z1 H2->i<ds.length->J.u3 i H2 x H'->H'=H2/\us[i]? = some x)/\(∀H2,aM Z1 H2->J.stop ds.length H2)
def ZE(X:Cx)(CL:BC)(b:Bx)(tg e:Expr)(δ:BA)(ds:BB)(δ1:BA):Prop:=
 ∃a,PI X tg e a/\∀(H Z:Hp) (σ:L2.St) (ts:Bi) (vs:BY) (R:QfV),bH X.K CL b H Z δ σ ts vs->(∀J H1,Comes X CL b δ1 σ ts vs Z H ds J H1->R J H1)->a σ H R
theorem fJ{tg:Expr}(h:cY X CL b iter δ (.sh QcC) δ1):ZE X CL b tg iter δ ds δ1:=by
 refine⟨_,Xh dN,λH Z σ ts vs R S k=>h H Z σ ts vs _ S λv H1 Z1 g k1 e=>?_⟩;obtain⟨fp,gp,_,r,_,_⟩:=e.rep;cases r with
 | cons r _=>
  replace r:=r.MB;obtain⟨rfl,r⟩:=r;obtain⟨a,us,rfl,c,d⟩:=r.g6;refine⟨a,rfl,⟨us,e.zh.seq c⟩,k _ _ ⟨Z1,us,g,k1,e.pop,d,λi H2 s hi=>?_,λi H2 y H' s hi f=>⟨f.1,f.2 us (s.seq c)⟩,λH2 s=>⟨us,s.seq c,by rw[d.length];grind⟩⟩⟩;have j:=d.length▸hi;exact⟨us,us[i],s.seq c,WA⟩
theorem GD{tg:Expr}(h:cY X CL b iter δ (.sh Qb6) δ1):ZE X CL b tg iter δ ds δ1:=by
 refine⟨_,am8 dN,λH Z σ ts vs R S k=>h H Z σ ts vs _ S λv H1 Z1 g k1 e=>?_⟩;obtain⟨fp,gp,_,r,_,_⟩:=e.rep;cases r with
 | cons r _=>
  replace r:=r.MB;obtain⟨rfl,r⟩:=r;obtain⟨a,us,rfl,c,d⟩:=r.Q0;refine⟨a,rfl,⟨us,aM.u7 e.zh c⟩,k _ _ ⟨Z1,us,g,k1,e.pop,d,λi H2 s hi=>?_,λi H2 y H' s hi f=>⟨f.1,f.2 us (aM.u7 s c)⟩,λH2 s=>⟨us,aM.u7 s c,by rw[d.length];grind⟩⟩⟩;have j:=d.length▸hi;exact⟨us,us[i],aM.u7 s c,WA⟩
noncomputable def gj(lo:Int)(n:Nat):BB:=(List.range n).map λ(i:Nat)=>D.int (lo+i)
def Q7(lo:Int)(n:Nat):aG K CL Z (gj lo n) ((List.range n).map λ(i:Nat)=>V.int (lo+i)):=by
 unfold gj;generalize List.range n=l
 induction l with
 | nil=>exact .nil
 | cons i r a=>exact .cons QbE a
theorem vY{tg:Expr}{pr pc:Pos}{n:Int}(hm:Qc4)(h:dU X CL b iter δ (.int n) δ1)(d:-(2 ^ 62)<=n/\n<2 ^ 62)(g:Qdj)(f:starEach [iter] X.env=[(false,eval iter X.env)]:=by rfl)(l:AC X iter []:=by exact bC rfl) :
  ZE X CL b tg (.Call Qgh [iter] [] pc) δ (gj 0 n.toNat) δ1:=by
 refine⟨_,K8 g hm (bZ dN dS l) f,λH Z σ ts vs R S k=>h H Z σ ts vs _ S λv H1 Z1 e k1 j r=>⟨n,by rw[r.sc rfl],d.1,d.2,k _ _ ⟨Z1,_,e,k1,j,Q7 0 _,λi H2 s hi=>?_,λi H2 y H' s hi c=>?_,λH2 s=>?_⟩⟩⟩
 .show i<n.toNat;have:(gj 0 n.toNat).length=n.toNat:=by simp[gj]
  lia
 .have a:i<n.toNat:=by simpa [gj] using hi
  refine⟨c.1,?_⟩;rw[o2,uh a,c.2];rfl
 .show n.toNat<=(gj 0 _).length;simp[gj]
theorem ZF{tg:Expr}{pr pc:Pos}{m n:Int}(hm:Qc4)(h1:dU X CL b e1 δ (.int m) δ1)(h2:dU X CL b e2 δ1 (.int n) δ2)(l:-(2 ^ 62)<=m/\m<2 ^ 62 /\ -(2 ^ 62)<=n/\n<2 ^ 62)(o:Qdj)
  (j:AR X e1 e2:=by rfl) (t:starEach [e2] X.env=[(false,eval e2 X.env)]:=by rfl) (d:Qgk:=by rfl) (c:AC X e2 []:=by rfl) :
  ZE X CL b tg (.Call Qgh [e1,e2] [] pc) δ (gj m (n-m).toNat) δ2:=by
 refine⟨_,Zi o hm (bZ dN (bZ dN dS c) d) j t,λH Z σ ts vs R S k=>h1 H Z σ ts vs _ S λv H1 Z1 g k1 q r=>h2 H1 Z1 σ ts vs _ q λv2 H2 Z2 f k2 p h=>⟨m,n,by rw[r.sc rfl,h.sc rfl],l,k _ _ ⟨Z2,_,g.trans f,k1.trans k2,p,Q7 m _,λi H2 s hi=>?_,λi H2 y H' s hi e=>?_,λH2 s=>?_⟩⟩⟩
 .show i<(n-m).toNat;have:(gj m (n-m).toNat).length=(n-m).toNat:=by simp[gj]
  lia
 .have a:i<(n-m).toNat:=by simpa [gj] using hi
  refine⟨e.1,?_⟩;rw[o2,uh a,e.2];rfl
 .show(n-m).toNat<=(gj m _).length;simp[gj]
theorem anL{D:gi}{fU:CS}(i:Nat){pos':Pos}(P:QfR)(h:ZE X CL b Qei iter δ ds δ1)(h0:P 0 δ1)(B:∀j δ,P j δ->i<δ.length)
  (hs:∀j d δ,ds[j]? = some d->P j δ->dW X CL b fU (δ.set i Qbq) {nx:=P QA,rt:=D.rt,bk:=D.nx,ct:=P QA}) (hd:∀δ,P ds.length δ->D.nx δ)
  (z:QgU) (C:QaA) (F:Qa9) (hi:X.N[i]? = some x) (q:Qc3) (hf:AM X x) (u:Qcc:=by intro _;rfl) :
  Ut X CL b (.For Qei iter fU [] pos) δ D:=λH Z σ ts vs E S M=>by
 obtain⟨L,pi,hw⟩:=h;refine rV (ac5 z C pi (uf F hi q hf) Uq u) (hw H Z σ ts vs _ S λJ H1 zz=>?_);obtain⟨Z1,us,f,k1,I,o,go,n,st⟩:=zz;refine⟨λj m σ H2=>m=ds.length-j/\j<=ds.length/\∃Z2 δ2,aM Z1 Z2/\bH X.K CL b H2 Z2 δ2 σ ts vs/\P j δ2,⟨_,rfl,nZ _,Z1,δ1,.refl _,I,h0⟩,?_⟩;rintro j m σ H2 ⟨rfl,O,Z2,δ2,s,c,p2⟩;by_cases g:j<ds.length
 .refine .inr ⟨go j H2 QfW g,_,λσ' H' h=>⟨ _,We,rfl,g,h⟩,λy H' p=>?_⟩;obtain⟨e,r⟩:=n j H2 y H' QfW g p;subst e;obtain⟨d,l,rd⟩:=o.Zz r;have G:=(c.push (rd.mono s)).set (B j δ2 p2);exact hs j d δ2 l p2 _ Z2 _ ts vs _ G ⟨λδ' σ' H' Z' s' a k=>⟨Z',δ',s.trans s',a,k⟩,λt v H' Z' δ' σ' s' a k=>M.rt t v H' Z' δ' σ' (f.trans (s.trans s')) a k,λδ' σ' H' Z' s' a k=>M.nx δ' σ' H' Z' (f.trans (s.trans s')) a k,λδ' σ' H' Z' s' a k=>⟨Z',δ',s.trans s',a,k⟩⟩
 .have e:j=ds.length:=by lia
  subst e;exact .inl ⟨st H2 QfW,M.nx δ2 σ H2 Z2 (f.trans s) c (hd δ2 p2)⟩
def Block(X:Cx)(CL:BC)(scope:Scope)(Nc:At)(ifs:Cc)(elt:Expr)(δc:BA)(ds:BB)(p:D->Bool)(g:D->T):Prop:=
 ∀C s0 b f0 a d,d∈ds->PH (dg X scope Nc C s0 b f0) CL a ifs QfH (p d)/\(p d=true->cY (dg X scope Nc C s0 b f0) CL a elt QfH (g d) QfH)
variable{δc:BA}{p:D->Bool}{g:D->T}
end
def GF(sc:QeF)(I:Qbe):closureFor scope X.env=pure QbK:=
 nA λy a e=>I.ok.has y.1 (sc.frees y a e).2
noncomputable def isD:L3.D->String->Option Bool
 | .non,n=>if n="int" \/ n="str" \/ n="list" \/ n="tuple" \/ n="bool" \/ n="dict" then some false else none
 | .bl _,n=>if n="int" \/ n="bool" then some true else if n="str" \/ n="list" \/ n="tuple" \/ n="dict" then some false else none
 | .int _,n=>if n="int" then some true else if n="str" \/ n="list" \/ n="tuple" \/ n="bool" \/ n="dict" then some false else none
 | .str _, n => if n = "str" then some true else if n = "int" \/ n = "list" \/ n = "tuple" \/ n = "bool" \/ n = "dict" then some false else none
 | .lst _,n=>if n="list" then some true else if n="int" \/ n="str" \/ n="tuple" \/ n="bool" \/ n="dict" then some false else none
 | .tup _,n=>if n="tuple" then some true else if n="int" \/ n="str" \/ n="list" \/ n="bool" \/ n="dict" then some false else none
 | _,_=>none
noncomputable def SE(t n:Qa8):Option Bool:=if (Value.type t==Value.type n)=true then some true else if PySem.W.kitMeta n=true then(fastBuiltinMro t).map (·.contains (.type n)) else none
def tG{t n:Qa8}:kitOne K (.type t) (.type n)=SE t n:=rfl
def adH:(["NoneType","bool","int","str","list","tuple"].all λt=>["int","str","list","tuple","bool","dict"].all λn=>SE t n==some (t==n || Qhl))=true:=by decide +kernel
def yh{t n:Qa8}(a:t∈["NoneType","bool","int","str","list","tuple"])(b:QkD):SE t n=some (t==n || Qhl):=by
 have:=adH;rw[w1]at this;have h:=this t a;rw[w1]at h;simpa using h n b
noncomputable def Rn:L3.D->Option String
 | .non=>some "NoneType"
 | .bl _=>some "bool"
 | .int _=>some "int"
 | .str _ => some "str"
 | .lst _=>some "list"
 | .tup _=>some "tuple"
 | _=>none
theorem ZG:qq X (.builtin "isinstance") (λxs H Q=>∃y n d t,xs=[y,.ty n]/\bW X.K CL H d y/\Rn d=some t/\n∈["int","str","list","tuple","bool","dict"]/\Q (.bl (t==n || Qhl)) H):=by
 intro pins s σ H xs us Q I r h;obtain⟨y,n,d,t,rfl,rd,b,g,q⟩:=h;obtain⟨u,u2,rfl,f,i⟩:=r.two;cases (show u2=Value.type n from i);have fin:∀tk,EP X pins σ Q _ {s with toks:=tk}:=λtk=>⟨.bl _,H,I.tok tk,rfl,q⟩;cases rd with
 | non=>cases b;cases (show u=Value.none from f);exact Ar PySem.W.kitx_none I.xZ True.intro (tG.trans (yh Wp g)) (λz=>nomatch z) fin
 | bl c=>cases b;cases (show u=Value.bool c from f);exact Ar PySem.W.kitx_bool I.xZ True.intro (tG.trans (yh Wp g)) (λz=>nomatch z) fin
 | int c=>cases b;obtain⟨tt,e⟩:=(show ∃t,u=Value.int c t from f);cases e;exact Ar PySem.W.kitx_int I.xZ True.intro QhG (λz=>nomatch z) fin
 | str c=>cases b;obtain⟨tt,e⟩:=(show ∃t,u=Value.str c t from f);cases e;exact Ar PySem.W.kitx_str I.xZ True.intro QhG (λz=>nomatch z) fin
 | @lst a ws _ j k=>
  cases b;cases (show u=Value.ref a from f);obtain⟨its,_,pl,_⟩:=I.list j;obtain⟨o,l,e,c,_⟩:=pl;exact Ar PySem.W.kitx_list I.xZ ⟨o,e,c⟩ QhG (λz=>nomatch z) fin
 | @tup a ws _ j k=>
  cases b;cases (show u=Value.ref a from f);obtain⟨its,_,pl,_⟩:=I.tuple j;obtain⟨o,e,c,_⟩:=pl;exact Ar PySem.W.kitx_tuple I.xZ ⟨o,e,c⟩ QhG (λz=>nomatch z) fin
 | ins _ _=>cases b
 | any _=>cases b
 | val _=>cases b
 | tE _ _=>cases b
 | dct _ _=>cases b
 | Ei _ _ _=>cases b
variable{pp pq:Pos}
def aim{d:L3.D}{t n:Qa8}{nm:Str}(hm:QjR)(f:X.mg nm=none)(o:Gl X "isinstance")(g:Gl X nm)(i:bootBuiltins nm=some (.type n))(a:nm≠"__name__")(c:AD nm)(h:QeA)(l:Rn d=some t)(m:QkD)
  (hs:starEach [e,.Name nm pq] X.env=(false,eval e X.env)::starEach [.Name nm pq] X.env:=by exact bC rfl) :
  cY X CL b (.Call Qjr [e,.Name nm pq] [] pos) δ (.sh (.bl (t==n || Qhl))) δ1:=λH Z σ ts vs Q S k=>
 cK (nU (ZG) o hm boot_isinstance (bZ dN (bZ (Xe g f i (v:=.ty n) rfl a c) dS) hs) (he:=hs)) (h H Z σ ts vs _ S λv H1 Z1 j k1 p r=>
  ⟨v,n,d,t,rfl,r,l,m,k _ H1 Z1 j k1 (p.push Qcf)⟩)
variable{n:Nat}
def Lk(h:Nat.ble n 1000=true):n<=sizeLine:=p7 (dG (k6 h))
structure Vn(X:Cx)(i:Nat)(x:Str):Prop where
 hi:X.N[i]? = some x
 hv:yA X.env.scope x
 hd:Qhk=false
 kL:(x==("__classdict__":Str))=false
structure Ln(X:Cx)(i:Nat)(x:Str):Prop extends Vn X i x where
 loc:Loc X.env.scope x
 hf:X.fn x=true\/X.env.scope.names.lookup x=some .local
structure Gx(X:Cx):Prop where
 nd:X.N.Nodup
 calm:X.calm=true
 xe:PassesOwn Qr X.A X.env X.xe
structure Fc(X:Cx)(CL:BC)(x:Str)(k n:Nat){A:Type}(arg:Qai)(Pre:QP)(res:Q4):Prop where
 ex:∃f fd ps,eV X.prog X.w X.K X.mg X.base mJ k f fd ps Qjj/\X.mg x=some Q0/\keepIn X.K Q0=true/\Binds X.K fd ps []
 room:eN k X.A
section
variable{d:L3.D}{D:gi}{fU:CS}{ds:BB}
def v_(n:QaI)(h:δ[i]? = some Qbq:=by rfl):cY X CL b Qan δ (.sh d) δ:=anD i n.hi n.hv n.hd n.kL h
def vM(n:QaI)(h:δ[i]? = some Qar:=by rfl):cY X CL b Qan δ t (δ.set i none):=aie i n.hi n.hv n.hd n.kL h
def vB(n:QaI)(h:δ[i]? = some Qar:=by rfl):dU X CL b Qan δ t.gM δ:=anE i n.hi n.hv n.hd n.kL h
def g7(h:dU X CL b e δ (.int k) δ1):cY X CL b (.UnaryOp .USub e pos) δ (.sh (.int (-k))) δ1:=λH Z σ ts vs Q S kk=>
 cK (arY ang dN) (h H Z σ ts vs _ S λv H1 Z1 a k1 c r=>⟨k,r.sc rfl,kk _ H1 Z1 a k1 (c.push QbE)⟩)
def vL(n:QaI)(h:δ[i]? = some (some (.lst Qbf)):=by rfl):dU X CL b Qan δ (.lst ds) δ:=by
 have:=vB (CL:=CL) (b:=b) (pos:=pos) n h
 rwa [T.gM,lu]at this
def c_{k:Nat}{A:Type}{arg:Qai}{Pre:QP}{res:Q4}(a:A)(F:Qfs)(i:Q3)(h:QgS)(d:Pre a)(j:QdP)(g:QbI:=by rfl)
  (c:AD x:=by decide) (he:Qaf:=by exact bC rfl) (hpl:Qas:=by rfl) :
  cY X CL b QbC δ (res a) δ1:=by
 obtain⟨f,fd,ps,l,m,k,b⟩:=F.ex;exact aii a l F.room m k b h g d j i c he hpl
def cF{k:Nat}{A:Type}{arg:Qai}{Pre:QP}{res:Q4}(a:A)(F:Qfs)(i:Q3)(h:Qgz)(d:Pre a)(g:QbI:=by rfl)
  (c:AD x:=by decide) (he:Qaf:=by exact bC rfl) (hpl:Qas:=by rfl) :
  cY X CL b QbC δ (res a) δ1:=by
 obtain⟨f,fd,ps,j,m,k,b⟩:=F.ex;exact adE a j F.room m k b h g d i c he hpl
def bu{pos':Pos}(g:Gx X)(n:QbJ)(h:QaG)(k:QiR)(a:Qbm:=by exact k6 rfl)(hs:Qeg:=by rfl) :
  dW X CL b QiV δ D:=cH (Ux i h k a g.nd n.hi n.loc hs n.hf)
def bG(h:QaG)(k:D.rt t δ1):dW X CL b (.Return (some e) pos::fU) δ D:=cH (anI h k)
def fK{a c:CS}(h:QbZ)(h1:p=true->dW X CL b a δ1 {D with nx:=λδ2=>dW X CL b fU δ2 D})(h2:p=false->dW X CL b c δ1 {D with nx:=λδ2=>dW X CL b fU δ2 D}):dW X CL b (.If e a c pos::fU) δ D:=cH (asu h h1 h2)
theorem dW.to{D':gi}(h:dW X CL b fU δ D')(h1:∀δ,D'.nx δ->D.nx δ)(h2:∀t δ,D'.rt t δ->D.rt t δ)(c:∀δ,D'.bk δ->D.bk δ)(a:∀δ,D'.ct δ->D.ct δ):dW X CL b fU δ D:=λH Z σ ts vs E S M=>h H Z σ ts vs E S (M.to h1 h2 c a)
def AX{a c:CS}(J:BA->Prop)(h:QbZ)(h1:p=true->dW X CL b a δ1 {D with nx:=J})(h2:p=false->dW X CL b c δ1 {D with nx:=J})(k:∀δ2,J δ2->dW X CL b fU δ2 D):dW X CL b (.If e a c pos::fU) δ D:=
 fK h (λd=>dW.to (h1 d) k (λ_ _ q=>q) Qdc Qdc) (λd=>dW.to (h2 d) k (λ_ _ q=>q) Qdc Qdc)
def jn{body:CS}{pos':Pos}(g:Gx X)(n:QbJ)(P:QfR)(h:ZE X CL b Qei e δ ds δ1)(h0:P 0 δ1)(c:∀j δ,P j δ->i<δ.length)
  (hs:∀j d δ,ds[j]? = some d->P j δ->dW X CL b body (δ.set i Qbq) {nx:=P QA,rt:=D.rt,bk:=λδ2=>dW X CL b fU δ2 D,ct:=P QA}) (hd:∀δ,P ds.length δ->dW X CL b fU δ D) (a:AN X e:=by intro _;rfl) :
  dW X CL b (.For Qei e body [] pos::fU) δ D:=
 cH (anL i P h h0 c hs hd g.xe g.calm g.nd n.hi n.loc n.hf a)
def vZ{o:Qd2}{l:Nat}(h:∃c,swapsWith e o l env=pure c):swapsWith e o l env=pure true\/swapsWith e o l env=pure false:=by
 obtain⟨c,h⟩:=h;cases c
 .exact .inr h
 .exact .inl h
def adI{C:Addr}(h1:Nc[i]? = some x)(h2:QgQ)(hd:AD x:=by decide)(kL:AE x:=by decide):Vn Qbb i x:=
 ⟨h1,.inl (ME h2),hd,kL⟩
def anN{C:Addr}(h1:Nc[i]? = some x)(h2:Qi3)(hd:AD x:=by decide)(kL:AE x:=by decide):Vn Qbb i x:=by
 refine⟨h1,?_,hd,kL⟩;have q:=jG (env:=X.env) h2;show(relabel _ _).names.lookup x=some _\/(relabel _ _).names.lookup x=some _\/(relabel _ _).names.lookup x=some _;rw[show(relabel _ _).names.lookup x=_ from q];split
 .exact .inr Qac
 .exact .inr QaK
def ain{C:Addr}(h2:QiC):Gl Qbb x:=by
 have q:=jG (env:=X.env) h2;show(relabel _ _).names.lookup x=some _;rw[show(relabel _ _).names.lookup x=_ from q];rfl
def aio{C:Addr}(g:Gx X)(h:Nc.Nodup):Gx Qbb:=⟨h,g.calm,.never⟩
def ly{C:Addr}{k:Nat}{A:Type}{arg:Qai}{Pre:QP}{res:Q4}(F:Qfs):Fc Qbb CL x k n arg Pre res:=⟨F.ex,F.room⟩
end
variable{d:L3.D}{t:Qa8}
def ZH:bootBuiltins "int" = some (.type "int"):=by decide +kernel
def bS:bootBuiltins "list" = some QeL:=by decide +kernel
def isL(hm:QjR)(a:QeH)(g:Gl X "isinstance")(c:Qe8)(h:QeA)(f:Rn d=some t:=by rfl)(hs:starEach [e,.Name "list" pq] X.env=(false,eval e X.env)::starEach [.Name "list" pq] X.env:=by exact bC rfl) :
  cY X CL b (.Call Qjr [e,.Name "list" pq] [] pos) δ (.sh (.bl (t=="list" || (t=="bool" && "list" == "int")))) δ1:=aim hm a g c bS Wp (rfl) h f Wp hs
def Ek:bootBuiltins "tuple" = some (.type "tuple"):=by decide +kernel
noncomputable def TQ(sc:Scope)(l:D1):Bool:=l.all λp=>sc.names.lookup p.1==some p.2
def cE{sc:Scope}{l:D1}(h:TQ sc l=true)(i:Nat){k:NameKind}(hi:l[i]? = some (x,k)):sc.names.lookup x=some k:=by
 unfold TQ at h;rw[w1]at h;exact wx.1 (h _ (qz hi))
inductive L9(X:Cx):CU->At->Prop where
 | nil:L9 X [] []
 | cons {i:Nat} {y:Str} {ix:CU} {ys:At} (n:Vn X i y) (k:X.env.kindOf y=some .cell\/X.env.kindOf y=some .free) (r:L9 X ix ys):L9 X (i::ix) (y::ys)
noncomputable def adK(scope:Scope)(x:Str)(a:At):Bool:=
 scope.kind == .function&&scope.names.lookup x==some .local&&a.all Qk7&&decide ((x::a).Nodup) &&
  scope.names.all λy=>y.2 != .cell&&(y.2 != .local || scope.names.lookup y.1==some .local)&&(y.2 != .free || QkY)
theorem b8{d:At}(c:L9 X ix d)(ok:adK scope x d=true):fQ X scope x (x::d) ix:=by
 unfold adK at ok;simp only[oD,w1,FC,wx]at ok;obtain⟨⟨⟨⟨h1,h2⟩,h⟩,g⟩,b⟩:=ok;have j:∀y∈d,X.env.kindOf y=some .cell\/X.env.kindOf y=some .free:=by
  clear h g b
  induction c with
  | nil=>intro y a;cases a
  | cons n k r f=>
   intro y a;obtain e|a:=eu.1 a
   .subst e;exact k
   simp_all
 refine⟨h1,λy a e=>?_,g,λy a e=>?_,h2,λy a e=>?_,?_,λi hi=>?_⟩
 .have:=(b y a).1.1;rw[e]at this;simp at this
 .have:=(b y a).1.2;rw[e]at this;simpa using this
 .have:=(b y a).2;simp_all
 .congr 1;clear h g b j
  induction c with
  | nil=>rfl
  | cons n k r f=>rw[rl,n.hi,← f]
 .clear g b j
  induction c with
  | nil=>cases hi
  | @cons l y ix ys n k r f=>
   obtain e|hi:=eu.1 hi
   .subst e;exact⟨y,n.hi,h y eU⟩
   .exact f (λz hz=>h z QcF) hi
noncomputable def D.zj:D->Int
 | .int i=>i
 | _=>0
noncomputable def D.toS:D->Str
 | .str x => x
 | _=>Str.empty
theorem g8{bs:AT}(h0:0<=k)(h1:k<bs.length):za (bs.map D.int) k=some (.int (bs.getD k.toNat 0)):=by
 obtain⟨j,rfl⟩:∃j:Nat,k=j:=⟨k.toNat,We⟩;refine fD ?_;simp_all
theorem cB:∀(bs:AT),D.ck (bs.map D.int)=true
 | []=>rfl
 | i::r=>by rw[og,D.ck,cB r];rfl
theorem Q8{lo:Int}{d:D}(h:(gj lo n)[j]? = some d):d=.int (lo+j)/\j<n:=by
 have a:=by
  have:=(pd.1 h).1;simpa [gj] using this
 refine⟨?_,a⟩;unfold gj at h;rw[o2,uh a]at h;simp_all
def rE(l:QT):l.filter (λ_=>true)=l:=by simp
theorem Q9{K:Frag}{CL:BC}{Z:Hp}:∀(ns:AT),aG K CL Z (ns.map D.int) Qb1
 | []=>.nil
 | n::r=>.cons (.int n) (Q9 r)
mutual
def D.toPy:D->PyData
 | .non=>.none
 | .bl b=>.bool b
 | .int i=>.int i
 | .str x => .str x
 | .tup ds=>.tuple (D.v7 ds)
 | .lst ds=>.list (D.v7 ds)
 | .ins _ _=>.none
 | .tE _=>.none
 | .dct _=>.none
 | .any=>.none
 | .val _=>.none
 | .Ei _ _ _=>.none
def D.v7:BB->List PyData
 | []=>[]
 | d::ds=>d.toPy::D.v7 ds
end
inductive rW:Nat->D->Prop where
 | non (n:Nat):rW n .non
 | bl (n:Nat) (b:Bool):rW n (.bl b)
 | int (n:Nat) (i:Int):rW n QaL
 | str (n:Nat) (x:Str) (h:PyData.strOk x=true):rW n Qbj
 | tup {n:Nat} {ds:BB} (h:∀d∈ds,rW n d):rW (n+1) Qb6
 | lst {n:Nat} {ds:BB} (h:∀d∈ds,rW n d):rW (n+1) QcC
noncomputable def MS(a b:D):Bool:=PyData.eqv a.toPy b.toPy
theorem rW.SA{n:Nat}:∀{ds:BB},(∀d∈ds,d.toPy.canLay0=true/\d.toPy.depth<=n)->PyData.canLayAll0 (D.v7 ds)=true/\PyData.depthAll (D.v7 ds)<=n
 | [],_=>⟨ rfl,nZ _ ⟩
 | d::ds,h=>by
  have h1:=h d eU;have h2:=rW.SA λe he=>h e (jk _ he);rw[D.v7,PyData.canLayAll0,h1.1,h2.1];exact⟨rfl,Nat.max_le.2 ⟨h1.2,h2.2⟩⟩
theorem rW.lay{d:D}(h:rW n d):d.toPy.canLay0=true/\d.toPy.depth<=n:=by
 induction h with
 | non n=>exact⟨ rfl,nZ _ ⟩
 | bl n b=>exact⟨ rfl,nZ _ ⟩
 | int n i=>exact⟨ rfl,nZ _ ⟩
 | str n x c=>exact⟨ ‹_›,nZ _ ⟩
 | @tup n ds _ a=>
  have:=rW.SA a;rw[D.toPy,PyData.canLay0,PyData.depth];simp_all
 | @lst n ds _ a=>
  have:=rW.SA a;rw[D.toPy,PyData.canLay0,PyData.depth];simp_all
def AY{d:D}(h:rW n d):MS d d=true:=SeqAt.eqv_refl _ h.lay.1
def MT(I:Qbe){d:D}{u:Value}(hd:rW n d)(q:bW X.K CL H d v)(r:QbT):∃as,Reads s.heap u d.toPy as:=by
 refine bW.rec
  (motive_2:=λds vs _=>∀(n:Nat) (us:List _),(∀d∈ds,rW n d)->Vals vs us->∃as,ReadsAll s.heap us (D.v7 ds) as) (motive_3:=λ_ _ _=>True) (motive_4:=λ_ _ _=>True) (motive_5:=λ_ _ _=>True)
  (λ_ _ _ r=>?non) (λb _ _ _ r=>?bl) (λi _ _ _ r=>?int) (λx _ _ _ r=>?str) (λ_ _ _ hd _=>by cases hd) (λ_ _ _ hd _=>by cases hd) (λl _ a n u hd r=>?tup) (λl _ a n u hd r=>?lst) (λ_ _ _ _ _ hd _=>by cases hd) (λ_ _ _ _ _ hd _=>by cases hd) (λ_ _ _ _ _ hd _=>by cases hd) (λ_ _ _ _ _ _ _ hd _=>by cases hd)
  (λ_ _ _ r=>?nil) (λ_ _ a j n us h r=>?cons) trivial Qaq trivial Qaq trivial Qaq q n u hd r
 case non=>cases r;exact⟨[],.none⟩
 case bl=>cases r;exact⟨[],.bool b⟩
 case int=>obtain⟨t,rfl⟩:=r;exact⟨[],.int i t⟩
 case str=>obtain⟨t,rfl⟩:=r;exact⟨[],.str x t⟩
 case tup=>
  cases hd with
  | tup hd=>
   cases r;obtain⟨its,f,⟨o,e,c,k,m⟩,_⟩:=I.tuple l;obtain⟨as,g⟩:=a _ _ hd f;exact⟨as,.tuple e c m (‹_›)⟩
 case lst=>
  cases hd with
  | lst hd=>
   cases r;obtain⟨its,f,⟨o,k,e,c,_,m⟩,_⟩:=I.list l;obtain⟨as,g⟩:=a _ _ hd f;exact⟨_,.list e c m (‹_›)⟩
 case nil=>cases r;exact⟨[],.nil⟩
 case cons=>
  cases r with
  | cons r rs=>
   obtain⟨as,g⟩:=a n _ (h _ eU) r;obtain⟨bs,p⟩:=j n _ (λe he=>h e (jk _ he)) rs;exact⟨ _,.cons g p⟩
variable{δ3:BA}{p2:Pos}{t:T}{fU:CS}{DD:gi}{d1 d2:D}{ds:BB}
theorem anP(k:QdQ):AJ X (compareOp .Eq) (λx y H Q=>∃a c,bW X.K CL H a x/\bW X.K CL H c y/\rW 60 a/\rW 60 c/\Q (.bl (MS a c)) H):=by
 intro pins s σ H x y v u Q I f e h;obtain⟨a,c,g,rc,b,d,q⟩:=h;obtain⟨as,j⟩:=MT I b g f;obtain⟨bs,i⟩:=MT I d rc e;exact SeqAt.rcAt_reads j i b.lay.1 d.lay.1 (by have:=b.lay.2;lia) _ X.w X.xe _ ⟨.bl _,H,I,rfl,q⟩
theorem Uy(k:QdQ):AJ X (compareOp .NotEq) (λx y H Q=>∃a c,bW X.K CL H a x/\bW X.K CL H c y/\rW 60 a/\rW 60 c/\Q (.bl (!MS a c)) H):=by
 intro pins s σ H x y v u Q I f e h;obtain⟨a,c,g,rc,b,d,q⟩:=h;obtain⟨as,j⟩:=MT I b g f;obtain⟨bs,i⟩:=MT I d rc e;exact SeqAt.rcNeAt_reads j i b.lay.1 d.lay.1 (by have:=b.lay.2;lia) _ X.w X.xe _ ⟨.bl _,H,I,rfl,q⟩
def YE{op:CmpOp}{f:Bool->Bool}(n:AJ X Qh7 (λx y H Q=>∃a c,bW X.K CL H a x/\bW X.K CL H c y/\rW 60 a/\rW 60 c/\Q (.bl (f (MS a c))) H))(h1:Qfw)(h2:Qet)(k1:rW 60 d1)(k2:rW 60 d2)
  (hm:behindInMarks op e2=false):ye X CL b Qg2 δ (f (MS d1 d2)) δ2/\cY X CL b Qg2 δ (.sh (.bl (f (MS d1 d2)))) δ2:=by
 constructor
 .intro H Z σ ts vs Q S k;refine EI (pI n dN dN hm) (h1 H Z σ ts vs _ S λv1 H1 Z1 h e m j=>h2 H1 Z1 σ ts vs _ m λv2 H2 Z2 g d l i=>?_);exact⟨d1,d2,j.mono d,i,k1,k2,_,rfl,k H2 Z2 (h.trans g) (e.trans d) l⟩
 .intro H Z σ ts vs Q S k;refine cK (x9 n dN dN hm) (h1 H Z σ ts vs _ S λv1 H1 Z1 h e m j=>h2 H1 Z1 σ ts vs _ m λv2 H2 Z2 g d l i=>?_);exact⟨d1,d2,j.mono d,i,k1,k2,k _ H2 Z2 (h.trans g) (e.trans d) (l.push Qcf)⟩
def MV(a:QdQ)(h1:Qfw)(h2:Qet)(k1:rW 60 d1)(k2:rW 60 d2):ye X CL b Qen δ (MS d1 d2) δ2/\cY X CL b Qen δ (.sh (.bl (MS d1 d2))) δ2:=
 YE (f:=λb=>b) (anP a) h1 h2 k1 k2 (oJ _)
def GH(a:QdQ)(h1:Qfw)(h2:Qet)(k1:rW 60 d1)(k2:rW 60 d2):ye X CL b QcP δ (!MS d1 d2) δ2/\cY X CL b QcP δ (.sh (.bl (!MS d1 d2))) δ2:=
 YE (Uy a) h1 h2 k1 k2 (oJ _)
def cutD(xs:QT)(lo hi:Ch):List α:=(xs.drop (HT.JD xs.length 0 lo)).take QkM
theorem aG.drop{K:Frag}{Z:Hp}:∀{ds:BB} {vs:BY} (n:Nat),aG K CL Z ds vs->aG K CL Z (ds.drop n) (vs.drop n)
 | _,_,0,r=>r
 | _,_,_+1,.nil=>.nil
 | _,_,n+1,.cons _ t=>aG.drop n t
theorem aG.take{K:Frag}{Z:Hp}:∀{ds:BB} {vs:BY} (n:Nat),aG K CL Z ds vs->aG K CL Z (ds.take n) (vs.take n)
 | _,_,0,_=>.nil
 | _,_,_+1,.nil=>.nil
 | _,_,n+1,.cons r t=>.cons r (aG.take n t)
theorem aG.cut{ds:BB}(r:QeK)(lo hi:Ch):aG K CL Z (cutD ds lo hi) (L4 vs lo hi):=by
 unfold cutD L4;rw[r.length];exact(r.drop _).take _
theorem jH:∀{ds:BB},D.ck ds=true->∀d∈ds,d.tF=true
 | [],_,_,h=>by cases h
 | d::ds,k,e,h=>by
  rw[D.ck,oD]at k;obtain h|h:=eu.1 h
  .subst h;exact k.1
  .exact jH k.2 e h
theorem jo:∀{ds:BB},(∀d∈ds,d.tF=true)->D.ck ds=true
 | [],_=>rfl
 | d::ds,h=>by rw[D.ck,h d eU,jo λe he=>h e (jk _ he)];rfl
def XG{xs:QT}{lo hi:Ch}{x:α}(h:x∈cutD xs lo hi):x∈xs:=List.mem_of_mem_drop (w7 h)
def FK(X:Cx)(CL:BC)(b:Bx)(e:Qd2)(δ:BA)(k:Ch)(δ':BA):Prop:=
 ∃t,PO X e t/\∀(H Z:Hp) (σ:L2.St) (ts:Bi) (vs:BY) (Q:Ch->Hp->Prop),bH X.K CL b H Z δ σ ts vs->(∀H' Z',aM Z Z'->aM H H'->bH X.K CL b H' Z' δ' σ ts vs->Q k H')->t σ H Q
def Fz:FK X CL b none δ none δ:=⟨_,Xp,λH Z σ ts vs Q S k=>k H Z Qy Qy S⟩
def AZ(h:dU X CL b e δ (.int k) δ1):FK X CL b (some e) δ (some k) δ1:=⟨_,Xq dN,λH Z σ ts vs Q S kk=>h H Z σ ts vs _ S λv H1 Z1 a k1 c r=>⟨k,r.sc rfl,kk H1 Z1 a k1 c⟩⟩
def GJ{lo hi:Qd2}{l h:Ch}(h1:Qcl)(g:QbX)(h2:FK X CL b lo δ1 l δ2)(x:FK X CL b hi δ2 h δ3):cY X CL b Qlb δ (.lst ((cutD ds l h).map T.sh)) δ3:=λH Z σ ts vs Q S k=>by
 obtain⟨t2,f,q⟩:=h2;obtain⟨t3,a,o⟩:=x;refine cK (QV Xs dN f a) (h1 H Z σ ts vs _ S λv H1 Z1 n k1 A r=>q H1 Z1 σ ts vs _ A λH2 Z2 m k2 z=>o H2 Z2 σ ts vs _ z λB Z3 j k3 i=>?_);have t:=r.mono (k2.trans k3);obtain⟨_,_,rfl,u,s⟩:=t.g6;refine⟨_,_,rfl,u,λp w=>?_⟩;have rc:=aG.tF i.tp (jo λd hd=>jH g d (XG hd)) (s.cut l h);obtain⟨c,y⟩:=(bH.pF rc i).kN (g0:=[]) (by simp[rc.length]) w;exact k _ _ _ (n.trans (m.trans j)) (k1.trans (k2.trans (k3.trans c))) y
def CJ(hm:X.mg "tuple" = none)(h:Qcl)(hi:QbX)(o:Gl X "tuple")(hs:Qad:=by exact bC rfl):cY X CL b Qlu δ (.sh Qb6) δ1:=λH Z σ ts vs Q S k=>
 cK (k7 zg o hm Ek Qay (he:=hs)) (h H Z σ ts vs _ S λv H1 Z1 j k1 g r=>by
  obtain⟨_,_,rfl,m,d⟩:=r.g6;refine⟨_,_,rfl,.inl ⟨m,λl n=>?_⟩⟩;obtain⟨a,c,p⟩:=(bH.pF (aG.tF g.tp hi d) g).ML (by simp[d.length]) n;obtain⟨Z3,i,f⟩:=p.MF;rw[T.gM,lu]at f;exact k _ _ Z3 (j.trans (a.trans i)) Qcu f)
def lz{tl0:Bi}{pa pb:Pos}(n:QaI)(h0:δ[i]? = some QhO)(h:QaG)(h1:δ1[i]? = some Qf6)(f:tl.length<=1000000)(k:Qlo)
  (d:Qik:=by rfl)
  (c:AB X pb e:=by rfl)
  (a:Qfr:=by rfl) (hs:Qad:=by exact bC rfl) (g:Qiw:=by rfl) :
  dW X CL b (.Expr Qgl pos::fU) δ DD:=
 cH (anJ i h0 h h1 (vT f Wp) k n.hi n.hv n.hd n.kL d c a hs g)
def jq(a:ds.length=n)(hm:X.mg "len" = none)(h:Qcl)(c:Gl X "len")(hs:Qad:=by exact bC rfl):cY X CL b QlC δ (.sh (.int n)) δ1:=by
 subst a;exact Fx hm h c hs
def cA(h:QiW):dU X CL b e δ (.lst ds) δ1:=by
 have:=alW h
 rwa [T.gM,lu]at this
def aip{a:BB}(h:QiW)(c:ds=a):dU X CL b e δ (.lst a) δ1:=c▸cA h
theorem gA{f:α->D}{l:QT}(z:α)(h0:0<=k)(h1:k<l.length):za Qdu k=some (f (l.getD k.toNat z)):=by
 obtain⟨j,rfl⟩:∃j:Nat,k=j:=⟨k.toNat,We⟩;refine fD ?_;simp_all
variable{β:Type}
theorem Ra{f:α->β}{l:QT}{lo hi:Ch}:cutD Qdu lo hi=(cutD l lo hi).map f:=by
 unfold cutD;simp_all
def MX(l:Bool)(ds:BB):D:=match l with
 | true=>.lst ds
 | false=>.tup ds
theorem eZ{α:Type}{f:α->D}(h:∀a,(f a).tF=true):∀(l:QT),D.ck Qdu=true
 | []=>rfl
 | a::l=>by rw[og,D.ck,h a,eZ h l];rfl
variable{d:D}
def aiq{u:Tok}(hm:X.mg x=some (.int k u))(a:Q3)(hd:AD x:=by decide):cY X CL b Qan δ (.sh (.int k)) δ:=λH Z σ ts vs Q S kk=>
 cK (Ft (v:=.int k) a hm ⟨u,rfl⟩ hd) (kk _ H Z Qy Qy (S.push (.int k)))
def e7(hm:∃u,X.mg x=some (.int k u))(a:Q3)(hd:AD x:=by decide):cY X CL b Qan δ (.sh (.int k)) δ:=by
 obtain⟨u,hm⟩:=hm;exact aiq hm a hd
def vE(n:QaI)(h:δ[i]? = some Qar)(e:t.gM=d):dU X CL b Qan δ d δ:=e▸vB n h
theorem A1(x:Str):∀l:At,ze Qbj Qf1=decide Qfa
 | []=>by simp[ze]
 | y::l=>by
  have b:=A1 x l;unfold ze at b ⊢;have e:∀a c,t4 (.str a) (.str c)=(a==c):=λ_ _=>rfl;grind
theorem aG.strs{K:Frag}{Z:Hp}:∀{l:At} {vs:BY},aG K CL Z (l.map D.str) vs->vs=l.map V.str
 | [],_,r=>by
  have a:=r;cases a;rfl
 | y::l,_,r=>by
  have a:=r;cases a with
  | cons c b=>rw[c.sc rfl,aG.strs b];rfl
theorem lA:∀l:At,(l.map V.str).all zf=true
 | []=>rfl
 | y::l=>by rw[og,JE,lA l];rfl
def air(hm:X.mg "int" = none)(h:dU X CL b e δ (.bl p) δ1)(c:Gl X "int")(hs:Qad:=by exact bC rfl):cY X CL b (.Call (.Name "int" pp) [e] [] pos) δ (.sh (.int (if p then 1 else 0))) δ1:=λH Z σ ts vs Q S k=>
 cK (k7 Zn c hm ZH Qay (he:=hs)) (h H Z σ ts vs _ S λv H1 Z1 a k1 d r=>.inr ⟨p,by rw[r.sc rfl],k _ H1 Z1 a k1 (d.push QbE)⟩)
noncomputable def GK:Expr->Option Str
 | .Constant (.str x) _ _=>some x
 | _=>none
def CK:Cc->Option At
 | []=>some []
 | e::es=>(GK e).bind λx=>(CK es).map (x::·)
theorem Rb(h:GK e=some x):∃j p,e=.Constant Qbj j p:=by
 unfold GK at h;split at h
 .cases h;grind
 .cases h
theorem rG:∀{es:Cc} {l:At},CK es=some l->MH X CL b es δ ((l.map D.str).map T.sh) δ
 | [],l,h=>by
  have e:=(o7 h).symm;subst e;exact bI
 | e::es,l,h=>by
  rw[CK]at h;obtain⟨x,a,h⟩:=Option.bind_eq_some_iff.1 h;obtain⟨d,c,rfl⟩:=MU.1 h;obtain⟨j,p,rfl⟩:=Rb a;exact bq fZ (rG c)
def Su{a:Stmt}(J:BA->Prop)(k:∀δ2,J δ2->dW X CL b fU δ2 DD)(h:(∀δ2,J δ2->dW X CL b fU δ2 DD)->dW X CL b (a::fU) δ DD):dW X CL b (a::fU) δ DD:=h k
theorem adL(h0:0<=k)(h1:k<n):My n k=some k.toNat:=by
 unfold My;simp_all
def rH(l:AT):T.cZ ((l.map D.int).map T.sh)=true:=by
 rw[n7]
 induction l with
 | nil=>rfl
 | cons i r a=>rw[og,T.cZ,a];rfl
noncomputable def Itv(K:Frag)(a:Addr)(n:Nat):It:=
 ⟨λi H=>i<n/\∃xs,oG K H a xs/\xs.length=n,λi H x H'=>H'=H/\∀xs,oG K H a xs->xs[n-1-i]? = some x,λi _=>i=n⟩
variable{tg:Expr}
theorem adM(a it:Addr)(n:Nat):Turn P w K tg (Itv K a n) [it] it (λi h=>PySem.Heap.IsRevIter h it a ((n:Int)-1-(i:Int))) where
 mem:=by simp
 obj:=λi h st b g=>by
  have e:b=it:=by simpa using g
  subst e;obtain⟨o,e,c,d⟩:=st;exact⟨o,e,λv z=>by rw[d]at z;cases z⟩
 keep:=λi h h' st k=>st.at λo e=>k it WA o e
 item:=by
  intro X m hw q B i pins s σ H E I hf st l;subst m hw q;obtain⟨hi,xs,A,O⟩:=l;obtain⟨its,F,p,hz⟩:=I.list A;have y:n-1-i<xs.length:=by lia
  obtain⟨u,L,G⟩:=F.get (pv y);obtain⟨f0,f1,f2,t,f4,r⟩:=hf it WA;have e1:(n:Int)-1-(i:Int)=((n-1-i:Nat):Int):=by lia
  have f:PySem.Heap.IsRevIter s.heap it a ((n-1-i:Nat):Int):=e1▸st;refine PySem.wpAny_pyNext_rev_item f p.isList (x:=u) (by simpa using L) λh' C D=>?_;have N:L2.Inv X pins σ H {s with heap:=h'}:=I.turned (t':=s.toks) (λb o g e=>(D.2 b g).trans e) f0 f1 t f4 r;have e2:((n-1-i:Nat):Int)-1=(n:Int)-1-((i+1:Nat):Int):=by lia
  have j:PySem.Heap.IsRevIter h' it a ((n:Int)-1-((i+1:Nat):Int)):=e2▸C;obtain⟨o,e,c,d⟩:=id C;exact⟨u,rfl,Xg (s:={s with heap:=h'}) e c d Wp ⟨_,H,N,G,⟨rfl,λys J=>by rw[I.Gi J A];exact pv y⟩,j,λb g=>(hf b g).1⟩⟩
 done:=by
  intro X m hw q B i pins s σ H E I hf st l;subst m hw q;obtain⟨f0,f1,f2,t,f4,r⟩:=hf it WA;have e1:(n:Int)-1-(i:Int)=-1:=by have:i=n:=l;lia
  have f:PySem.Heap.IsRevIter s.heap it a (-1):=e1▸st;exact PySem.wpAny_pyNext_rev_end (I.ok.hd B) f λh' M=>⟨rfl,I.turned (t':=s.toks) (λb o g e=>M b o g e) f0 f1 t f4 r⟩
 self:=λ_ _ _ _ _ st h=>PySem.wpAny_pyIter_revIter st h
def awJ(K:Frag)(ta:TA):TI:=λσ H R=>ta σ H λvs H1=>∃a xs,vs=[.ref a]/\oG K H1 a xs/\R (Itv K a xs.length) H1
theorem anS{a:Expr}{ta:TA}{p:Pos}(k:Qh5)(hm:QhC)(n:PA X [a] ta)(hs:AC X a []):PI X tg (.Call (.Name "reversed" p) [a] [] pos) (awJ X.K ta):=by
 intro pins s σ H R I h;refine Call_ (qp I k hm boot_reversed (EG (fX Qjk λus s1 zz=>?_) hs rfl));obtain⟨vs,H1,c,g,i⟩:=zz;obtain⟨l,xs,e,j,q⟩:=i;subst e;cases g with
 | cons r f=>
  cases f;cases r;obtain⟨its,d,p,hz⟩:=c.list j;refine PySem.call_reversed_list p.isList ?_;have u:=d.length;have e0:Qjv=xs.length-1-(0:Int):=by grind
  have t:L2.Inv X pins σ H1 {s1 with heap:=s1.heap.push (PySem.revObj l Qjv)}:=c.kept λb o e=>ot _ e;have st:PySem.Heap.IsRevIter (s1.heap.push (PySem.revObj l Qjv)) s1.heap.objs.size l (xs.length-1-(0:Int)):=e0▸⟨_,pk _ rfl,rfl,rfl⟩;refine PySem.wpAny_pyIter_revIter st ?_;refine⟨ _,_,_,_,H1,rfl,t,adM l _ _,st,λb m=>?_,q⟩;have e:=by simpa using m
  subst e;exact c.JM (iP _) Qhz
variable{pr pc:Pos}{ds:BB}
theorem anT(hm:QhC)(h:QgI)(t:Qh5)(hs:Qad:=by exact bC rfl):ZE X CL b tg (.Call (.Name "reversed" pr) [e] [] pc) δ ds.reverse δ1:=by
 refine⟨_,anS t hm Qay hs,λH Z σ ts vs R S k=>h H Z σ ts vs _ S λv H1 Z1 m k1 g=>?_⟩;obtain⟨fp,gp,_,r,_,_⟩:=g.rep;cases r with
 | cons r _=>
  replace r:=r.MB;obtain⟨rfl,r⟩:=r;obtain⟨a,us,rfl,c,j⟩:=r.g6;have hlen:=j.length;have f:=by
   have go:∀{ds:BB} {us:BY} {es:BB} {ws:BY},aG X.K CL Z1 ds us->aG X.K CL Z1 es ws->aG X.K CL Z1 (ds.reverse++es) (us.reverse++ws):=by
    intro ds us es ws r
    induction ds generalizing us es ws with
    | nil=>cases r;simp_all
    | cons d ds p=>
     cases r with
     | cons o n=>
      intro q;rw[rh,rh,nr,nr];exact p n (.cons o q)
   simpa using go j .nil
  refine⟨a,us,rfl,g.zh.seq c,k _ _ ⟨Z1,_,m,k1,g.pop,f,λi H2 s hi=>?_,λi H2 y H' s hi l=>?_,λH2 s=>?_⟩⟩
  .rw[x7]at hi;exact⟨We,us,s.seq c,rfl⟩
  .rw[x7]at hi;refine⟨l.1,?_⟩;rw[List.getElem?_reverse We];exact l.2 us (s.seq c)
  .rw[x7];exact hlen
theorem nV.get:∀{fs:Do} {gs:CA} {f:Str} {d:D},nV K CL Z fs gs->fs.lookup f=some d->∃v,gs.lookup f=some v/\bW K CL Z d v
 | _,_,_,_,.nil,e=>by simp at e
 | _,_,f,d,.cons (x:=x) r t,e=>by
  rw[pf]at e ⊢;cases h:f==x with
  | true=>rw[h]at e;grind
  | false=>rw[h]at e;exact nV.get t e
noncomputable def zS(f:Str)(t:T):B1->B1
 | []=>[(f,t)]
 | (g,x)::r=>if g=f then(g,t)::r else(g,x)::zS f t r
theorem dO.length{fs:B1}{gs:CA}(h:dO K CL H Z fs gs fp):fs.length=gs.length:=
 dO.ind (P:=λd v _=>d.length=v.length) rfl Qg6 h
theorem dO.put{f:Str}{g:BN}(q:bU K CL H Z t v g):∀{fs:B1} {gs:CA} {fp:BN},dO K CL H Z fs gs fp →
  ∃a b,dO K CL H Z (zS f t fs) (tu f v gs) a/\b.Sublist fp/\a.Perm (g++b)
 | _,_,_,.nil=>⟨ _,[],.cons q .nil,tj _,List.Perm.refl _⟩
 | _,_,_,.cons (x:=x) (fp:=fp) (gp:=gp) r rs=>by
  rw[zS,tu];by_cases h:x=f
  .rw[cq h,cq h];exact⟨ _,gp,.cons q rs,FA _ _,List.Perm.refl _⟩
  .rw[bF h,bF h];obtain⟨p,c,h1,h2,d⟩:=dO.put q rs;refine⟨ _,_,.cons r h1,vu (tj _) h2,(yd fp d).trans ?_⟩;rw[← nr,← nr];exact ro.append_right c
theorem bH.Uz{d f:BN}(hm:kM o=false)(S:Qag)(own:∀c∈fp++gp,Z c=none/\b.B c=none)(j:a∈fp++gp)
  (k:fH K CL Qbs Z δ2 σ d) (h:bA K CL Qbs Z tl us f) (pm:(d++f).Nodup) (sub:∀c∈d++f,c∈fp++gp) :
  bH K CL b Qbs Z δ2 σ tl us:=by
 have g:=own a j;refine⟨⟨_,_,k,h,pm,λc e=>own c (sub c e)⟩,λc u q=>?_,S.zz,λc u q=>?_,S.new,λc u q i=>?_,S.tab⟩
 .rw[az (bf q g.2)];exact S.bh c u q
 .rw[az (bf q g.1)];exact S.zh c u q
 .by_cases e:c=a
  .subst e;rw[bD]at q;grind
  .rw[az e]at q;exact S.tp c u q i
variable{f:Str}{d:D}{fs:Do}
def cL(l:Qdf)(n:Qh8)(h:dU X CL b e δ (.ins c fs) δ1)(j:fs.lookup f=some d)(m:AS X e f:=by rfl) :
  dU X CL b QfB δ d δ1:=λH Z σ ts vs Q S k=>
 cK (Uh dN m) (h H Z σ ts vs _ S λv H' Z' z s p r=>by
  obtain⟨a,dx,gs,rfl,o,i⟩:=r.Gw;obtain⟨w,hw,g⟩:=i.get j;exact⟨a,CL c,dx,gs,w,rfl,o,l,n,hw,k w H' Z' z s p g⟩)
def kP(m:Qdf)(n:Qh8)(h:cY X CL b e δ (.sh Qa4) δ1)(l:fs.lookup f=some d)(o:AS X e f:=by rfl) :
  cY X CL b QfB δ (.sh d) δ1:=λH Z σ ts vs Q S k=>
 cK (Uh dN o) (h H Z σ ts vs _ S λv H' Z' z s i=>by
  obtain⟨fp,gp,_,r,_,_⟩:=i.rep;cases r with
  | cons r _=>
   replace r:=r.MB;obtain⟨rfl,r⟩:=r;obtain⟨a,dx,gs,rfl,p,j⟩:=r.Gw;obtain⟨w,hw,g⟩:=j.get l;exact⟨a,CL c,dx,gs,w,rfl,i.zh _ _ p,m,n,hw,k w H' Z' z s (i.pop.push g)⟩)
def y3(K:Frag)(CL:BC){A:Type}(c:Str)(n:Nat)(arg:Qai)(Pre:QP)(res:A->B1):Sp:=λvs H Q _=>
 ∃(W b:Hp) (a:A) (x dx:Addr) (us:BY),vs=.ref x::us/\b x=none/\b dx=none/\dx≠x/\H=upd (upd b dx Qea) x (.ins (CL c) dx []) ∧
  aM W b/\(∀c o,b c=some o->kM o=true->W c=some o)/\aG K CL W Qb4 us/\(arg a).length+1=n/\Pre a/\oK CL W ∧
  ∀H' W' fp,aM b H'->aM W W'->aM W' H'->(∀c o,W' c=some o->W c=none->b c=none)->(∀c o,H' c=some o->kM o=true->W' c=some o) →
   bU K CL H' W' (.ins c Qcg) QaV fp->fp.Nodup->(∀c∈fp,W' c=none/\b c=none)->Q .non H'
section
variable{o:Expr}{apos:Pos}{A:Type}{k:Nat}{f:Addr}{m:Str}{arg:Qai}{Pre:QP}
def ais{res:A->B1}(a:A)(M:Mk X.K (CL c) f)(F:Qkt)(s:Qf7)(hm:X.mg x=some QeR)(y:Qcq)
  (h:QgS) (u:QhW) (t:Pre a) (B:T.fY Qcg=true) (v:Q3)
  (o:AD x:=by decide) (he:Qaf:=by exact bC rfl) (hpl:Qas:=by rfl) :
  cY X CL b QbC δ (.ins c Qcg) δ1:=λH Z σ ts vs Q S kk=>
 cK (Mx M F s v hm y .nil vG JF o he hpl) (h H Z σ ts vs _ S λus H1 Z1 j k1 g r x dx p d ne=>by
  rw[n2];refine⟨H1,H1,a,x,dx,us,rfl,p,d,ne,rfl,.refl _,λ_ _ q _=>q,r,u,t,g.MD,λH' W' fp i ww m nw tp rt nd own=>⟨rfl,?_⟩⟩;obtain⟨Z',l,z⟩:=g.back i g.zh ww m nw tp rt nd own (.inr (‹_›));exact kk _ H' Z' (j.trans l) (k1.trans i) z)
theorem adN{res:A->B1}(a:A)(M:Mk X.K (CL c) f)(F:Qkt)(r:Qf7)(hm:X.mg x=some QeR)(v:Qcq)
  (h:Qgz) (t:QhW) (s:Pre a) (u:Q3)
  (p:AD x:=by decide) (he:Qaf:=by exact bC rfl) (hpl:Qas:=by rfl) :
  cY X CL b QbC δ (.ins c Qcg) δ1:=λH Z σ ts vs Q S kk=>
 cK (Mx M F r u hm v .nil vG JF p he hpl) (h H Z σ ts vs _ S λus H1 Z1 B l k1 g x dx q i ne=>by
  rw[n2];have d:us.length=(arg a).length:=by grind
  have y:=g.drops (by simp[d]);refine⟨Z1,H1,a,x,dx,us,rfl,q,i,ne,rfl,g.zh,g.tp,g.XD d,t,s,g.Ur,λH' W' fp j ww o nw tp rt nd own=>⟨rfl,?_⟩⟩;obtain⟨Z',m,z⟩:=y.back j Qy ww o nw tp rt nd own Qac;exact kk _ H' Z' (l.trans m) (k1.trans j) z)
def ait{res:Q4}{fs:Do}{ds:BB}{pl:QbH}(a:A)(M:Qdf)(hm:QhJ)(F:Qgi)(C:Qbv)(L:Qcq)
  (E:Qfl) (hf:Qc6) (h:Xx X CL b Qab δ1 ds δ2) (R:arg a=.ins c fs::ds) (G:QbI) (D:Pre a) (J:QdP)
  (he:Qaf:=by exact bC rfl) (hpl:Qas:=by rfl)
  (B:eval Qeo X.env=(do
   let I ← eval o X.env
   standAt apos.atName
   let (f,first) ← holding [I] Qcp
   callWith pos f first (backTo pos QcU) QaX):=by rfl) :
  cY X CL b Qeo δ (res a) δ2:=λH Z σ ts vs Q S kk=>
 cK (Xn dN M hm F C L .nil vG JF he hpl B) (E H Z σ ts vs _ S λv H1 Z1 s k1 O y=>by
  obtain⟨N,dx,gs,rfl,j,g⟩:=y.Gw;have U:=by
   have:∀{fs:List _} {gs:List _},nV X.K CL H1 fs gs->fs.lookup m=none->gs.lookup m=none:=by
    intro fs gs r
    induction fs generalizing gs with
    | nil=>intro _;cases r;rfl
    | cons p fs z=>
     cases r with
     | cons q r=>
      intro h;rw[pf]at h ⊢;split at h
      .cases h
      .exact z r h
   exact this g hf
  refine⟨N,dx,gs,rfl,j,U,h H1 Z1 σ ts vs _ O λus H2 Z2 l k2 d x=>?_⟩;rw[n2];refine⟨H2,a,.refl _,λ_ _ q _=>q,R ▸ .cons (.ins (k2 _ _ j) (g.mono k2)) x,G,D,d.MD,λv H' W' fp i ww u nw tp rt nd own=>?_⟩;obtain⟨Z',t,P⟩:=d.back i d.zh ww u nw tp rt nd own (.inr J);exact kk v H' Z' (s.trans (l.trans t)) (k1.trans (k2.trans i)) P)
def adO{res:Q4}{fs:Do}{pl:QbH}(a:A)(B:Qdf)(hm:QhJ)(F:Qgi)(s:Qbv)(z:Qcq)
  (u:Qfl) (hf:∀{H:Hp} {gs:CA},nV X.K CL H fs gs->gs.lookup m=none) (E:arg a=[.ins c fs]) (x:QbI) (t:Pre a) (y:QdP)
  (r:eval Qer X.env=(do
   let I ← eval o X.env
   standAt apos.atName
   let (f,first) ← holding [I] Qcp
   callWith pos f first (backTo pos QcX) QaX):=by rfl) :
  cY X CL b Qer δ (res a) δ1:=λH Z σ ts vs Q S kk=>
 cK (QO dN B hm F s z .nil vG r) (u H Z σ ts vs _ S λv H1 Z1 i k1 d p=>by
  obtain⟨C,dx,gs,rfl,h,e⟩:=p.Gw;refine⟨C,dx,gs,rfl,h,hf e,?_⟩;refine⟨H1,a,.refl _,λ_ _ q _=>q,E ▸ .cons (.ins h e) .nil,x,t,d.MD,λv H' W' fp g ww l nw tp rt nd own=>?_⟩;obtain⟨Z',j,D⟩:=d.back g d.zh ww l nw tp rt nd own (.inr y);exact kk v H' Z' (i.trans j) (k1.trans g) D)
end
def MZ{f:Addr}{k:Nat}{A:Type}{arg:Qai}{Pre:QP}{res:A->B1}(F:QcZ)(S:QbV)
  (J:∀(gy:Value) (l:Qal) (outer:DA) (s:Qb) (H:Hp) (E:XK) (b:Bx) (a:A) (y:Addr),eN k (l.deeper Qci)->Pre a →
   dW (rC mJ P w K mg base N qual Qaz f gy l outer s H E).Mu CL b Qbl (some (.pin y (.ins c []))::((arg a).map Qhh++List.replicate (N.length-((arg a).length+1)) none))
    {nx:=λδ=>δ[0]? = some (some (.pin y (.ins c Qcg))),rt:=λ_ _=>False}) :
  eV P w K mg base mJ Qau f fd ps (y3 K CL c ps.length arg Pre res):=by
 refine F.ok S (λvs H Q E h=>?_) (λgy l outer s H vs Q E G h=>?_)
 .obtain⟨W,j,a,y,dx,us,rfl,_,_,_,_,_,_,r,B,_⟩:=h;rw[o1,← r.length];exact B
 .obtain⟨W,j,a,y,dx,us,rfl,m,n,ne,rfl,u,tp,r,B,I,tb,kk⟩:=h;have old:∀{d:Addr} {o:HO},j d=some o->upd (upd j dx (.own y)) y (.ins (CL c) dx []) d=some o:=λ{d o} q=>by
   rw[az (bf q m),az (bf q n)];exact q
  refine⟨_,Uq,J gy l outer s _ E ⟨j,W⟩ a y G I _ W _ [] [] _ ⟨⟨[y]++[],[],?_,.nil,WA,λd hd=>?_⟩,λd o q=>old q,.refl _,λd o q=>old (u d o q),λd o q z=>?_,λd o q i=>?_,tb⟩ ⟨λδ' σ' H' Z' s' g e=>?_,λt v H' Z' δ' σ' s' g e=>e.elim,λ_ _ _ _ _ _ e=>e.elim,λ_ _ _ _ _ _ e=>e.elim⟩⟩
  .unfold L2.start;rw[og,o1,uj,← r.length];exact .cons (.pin (.ins bD .nil)) (kO _ r)
  .have:d=y:=by simpa using hd
   subst this;exact⟨Us u m,m⟩
  .have D:W d=some o:=q;have p:W d=none:=z;rw[D]at p;cases p
  .by_cases h1:d=y
   .subst h1;rw[bD]at q;cases q;cases i
   .rw[az h1]at q;by_cases h2:d=dx
    .subst h2;rw[bD]at q;cases q;cases i
    .rw[az h2]at q;exact tp d o q i
  .obtain⟨fp,gp,L,_,nd,own⟩:=g.rep;obtain⟨v,f1,f2,M,hv,C,rt,_,_⟩:=L.get e;subst C;replace rt:=rt.Uo;obtain⟨rfl,rt⟩:=rt;refine kk H' Z' f2 g.bh g.zz g.zh g.new g.tp rt ?_ λd hd=>own d (by simp[hd]);have h1:=(oT.1 nd).1;exact(oT.1 (oT.1 h1).2.1).1
variable{body:CS}{ds ZI:BB}
theorem FD(g:Gx X)(P:QfR)(m:Nat)(h0:P m δ)
  (hs:∀m δ,P m δ->∃p δ1,ye X CL b e δ p δ1 ∧
   (p=true->dW X CL b body δ1 {nx:=λδ2=>∃a,a<m/\P a δ2,rt:=DD.rt,bk:=λδ2=>dW X CL b fU δ2 DD,ct:=λδ2=>∃a,a<m/\P a δ2})/\(p=false->dW X CL b fU δ1 DD)) :
  dW X CL b (.While e body [] pos::fU) δ DD:=cH λH Z σ ts vs E S M=>
 rV (ac4 g.xe Xv Uq) (by
  refine⟨λm σ H=>∃Z2 δ2,aM Z Z2/\bH X.K CL b H Z2 δ2 σ ts vs/\P m δ2,⟨m,Z,δ,.refl _,S,h0⟩,?_⟩;rintro m σ H ⟨Z2,δ2,f,k,p2⟩;obtain⟨p,δ3,j,h1,h2⟩:=hs m δ2 p2;refine j H Z2 σ ts vs _ k λi Z3 d k3 h=>?_;cases p with
  | true=>
   refine⟨ _,λσ' H' q=>q,?_⟩;refine h1 rfl i Z3 σ ts vs _ h ⟨λδ' σ' H' Z' s' c ⟨a,l,q⟩=>⟨a,l,Z',δ',f.trans (d.trans s'),c,q⟩,λt v H' Z' δ' σ' s' c q=>M.rt t v H' Z' δ' σ' (f.trans (d.trans s')) c q,
    λδ' σ' H' Z' s' c q=>M.nx δ' σ' H' Z' (f.trans (d.trans s')) c q,λδ' σ' H' Z' s' c ⟨a,l,q⟩=>⟨a,l,Z',δ',f.trans (d.trans s'),c,q⟩⟩
  | false=>
   exact M.nx δ3 σ i Z3 (f.trans d) h (h2 rfl))
def asA(K:Frag):R2:=λx y H Q=>∃l b xs zs,x=.ref l/\y=.ref b/\oG K H l xs/\oG K H b zs/\xs.length+zs.length<=sizeLine/\∀p,H p=none->Q Qdz (upd H p (.lst (xs++zs)))
theorem XH:AJ X (binaryOp .Add) (asA X.K):=by
 intro pins s σ H x y v u Q I k j h;obtain⟨l,b,xs,zs,rfl,rfl,p,t,hz,q⟩:=h;cases k;cases j;obtain⟨its,r,pl,_⟩:=I.list p;obtain⟨i,f,d,_⟩:=I.list t;have e1:=r.length;have e2:=f.length;obtain⟨⟨D,dd,A,sl⟩,g,o,n,hd⟩:=pl.isList;obtain⟨⟨C,e,z,c⟩,a,B,m,hd2⟩:=d.isList;cases o;cases B;cases hd;cases hd2;refine concat_meets ⟨_,g,rfl⟩ ⟨_,a,rfl⟩ noFill_list_add seq_list_add PySem.F.slot_list_add PySem.F.entry_list_add (PySem.F.args_list_add_2 _ _)
  (list_addW l b _ _ n m dd e sl c WE) ⟨g,a,?_⟩
 have w:its.toArray++i.toArray=(its++i).toArray:=by simp
 rw[w];exact⟨.ref _,_,I.YP (r.append f) WD,rfl,q _ I.fresh⟩
theorem aG.app{ds ZI:BB}{a:BY}(h:QeK)(b:aG K CL Z ZI a):aG K CL Z (ds++ZI) (vs++a):=
 aG.ind (P:=λds vs=>aG K CL Z (ds++ZI) (vs++a)) b (λr _ i=>.cons r i) h
def A2(h1:Qi2)(h2:dU X CL b e2 δ1 (.lst ZI) δ2)(i1:QbX)(i2:D.ck ZI=true)(hz:ds.length+ZI.length<=sizeLine) :
  cY X CL b Qes δ (.lst ((ds++ZI).map T.sh)) δ2:=λH Z σ ts vs Q S k=>
 cK (QN XH dN dN) (h1 H Z σ ts vs _ S λv1 H1 Z1 i k1 o l=>h2 H1 Z1 σ ts vs _ o λv2 H2 Z2 h k2 g j=>by
  have e:=l.mono k2;obtain⟨_,_,rfl,f,d⟩:=e.g6;obtain⟨_,_,rfl,q,a⟩:=j.g6;refine⟨_,_,_,_,rfl,rfl,f,q,by rw[← d.length,← a.length];exact hz,λp m=>?_⟩;have rc:=aG.app (aG.tF g.tp i1 d) (aG.tF g.tp i2 a);obtain⟨c,n⟩:=(bH.pF rc g).kN (g0:=[]) (by simp[d.length,a.length]) m;exact k _ _ _ (i.trans h) (k1.trans (k2.trans c)) n)
def boot_min:bootBuiltins "min" = some (.builtin "min"):=by decide +kernel
def boot_max:bootBuiltins "max" = some (.builtin "max"):=by decide +kernel
def boot_str:bootBuiltins "str" = some (.type "str"):=by decide +kernel
def aiu{i j:Int}(g:Gx X)(hm:X.mg "min" = none)(e:Gl X "min")(h:Xx X CL b [e1,e2] δ [.int i,.int j] δ1)(hs:Qgk:=by exact bC rfl)(hpl:(backTo pos QjS).any (·.1)=false:=by rfl) :
  cY X CL b (.Call (.Name "min" pp) [e1,e2] [] pos) δ (.sh Qk9) δ1:=λH Z σ ts vs Q S k=>
 cK (nU (Zm g.calm) e hm boot_min JF (he:=hs) (hpl:=hpl)) (h H Z σ ts vs _ S λus H1 Z1 a k1 f r=>by
  cases r with
  | cons d r=>
   cases r with
   | cons c r=>
    cases r;rw[d.sc rfl,c.sc rfl];exact⟨i,j,rfl,k _ H1 Z1 a k1 (f.push QbE)⟩)
def aiv{i j:Int}(g:Gx X)(hm:X.mg "max" = none)(e:Gl X "max")(h:Xx X CL b [e1,e2] δ [.int i,.int j] δ1)(hs:Qgk:=by exact bC rfl)(hpl:(backTo pos QjS).any (·.1)=false:=by rfl) :
  cY X CL b (.Call (.Name "max" pp) [e1,e2] [] pos) δ (.sh Qk8) δ1:=λH Z σ ts vs Q S k=>
 cK (nU (Zk g.calm) e hm boot_max JF (he:=hs) (hpl:=hpl)) (h H Z σ ts vs _ S λus H1 Z1 a k1 f r=>by
  cases r with
  | cons d r=>
   cases r with
   | cons c r=>
    cases r;rw[d.sc rfl,c.sc rfl];exact⟨i,j,rfl,k _ H1 Z1 a k1 (f.push QbE)⟩)
def XI{i:Int}(hm:X.mg "str" = none)(c:Gl X "str")(h:dU X CL b e δ (.int i) δ1)(hi:i.natAbs.log2<1920)(hs:Qad:=by exact bC rfl) :
  cY X CL b QlD δ (.sh QjZ) δ1:=λH Z σ ts vs Q S k=>
 cK (k7 AK c hm boot_str Qay (he:=hs)) (h H Z σ ts vs _ S λv H1 Z1 a k1 d r=>r.sc rfl▸⟨i,rfl,hi,k _ H1 Z1 a k1 (d.push (.str _))⟩)
structure Fm(X:Cx)(CL:BC)(x:Str)(k n:Nat){A:Type}(arg:Qai)(Pre:QP)(res:A->B1):Prop where
 ex:∃f fd ps,Mk X.K (CL x) f/\eV X.prog X.w X.K X.mg X.base mJ k f fd ps (y3 X.K CL x n arg Pre res)/\X.mg x=some (.ref (CL x))/\Binds X.K fd ps []
 room:eN Qau X.A
structure Fq(X:Cx)(CL:BC)(c m:Str)(k n:Nat){A:Type}(arg:Qai)(Pre:QP)(res:Q4):Prop where
 ex:∃f fd ps,Meth X.K (CL c) m f/\eV X.prog X.w X.K X.mg X.base mJ k f fd ps Qjj/\Binds X.K fd ps []
 room:eN k X.A
 cls:jC X.K (CL c)
noncomputable def UA(N:At)(y:Addr)(c:Str)(ds:BB):BA:=some (.pin y (.ins c []))::(ds.map Qhh++List.replicate (N.length-(ds.length+1)) none)
section
variable{m:Str}{D:gi}
def mk_{k:Nat}{A:Type}{arg:Qai}{Pre:QP}{res:A->B1}(a:A)(F:Qjo)(i:Q3)(h:QgS)(d:Pre a)(j:T.fY Qcg=true)(g:QhW:=by rfl)
  (c:AD x:=by decide) (he:Qaf:=by exact bC rfl) (hpl:Qas:=by rfl) :
  cY X CL b QbC δ (.ins x Qcg) δ1:=by
 obtain⟨f,fd,ps,M,l,m,b⟩:=F.ex;exact ais a M l F.room m b h g d j i c he hpl
def mkF{k:Nat}{A:Type}{arg:Qai}{Pre:QP}{res:A->B1}(a:A)(F:Qjo)(i:Q3)(h:Qgz)(d:Pre a)(g:QhW:=by rfl)
  (c:AD x:=by decide) (he:Qaf:=by exact bC rfl) (hpl:Qas:=by rfl) :
  cY X CL b QbC δ (.ins x Qcg) δ1:=by
 obtain⟨f,fd,ps,M,j,m,b⟩:=F.ex;exact adN a M j F.room m b h g d i c he hpl
end
def M0{d:α}{fs:List (Str×α)}:((f,d)::fs).lookup f=some d:=by simp
def iU{g:Str}{d:α}{fs:List (Str×α)}(h:(f==g)=false):((g,d)::fs).lookup f=fs.lookup f:=by
 rw[pf,h]
variable{d:L3.D}
theorem A3(x:Int):∀l:AT,ze (.int x) (l.map V.int)=decide Qfa
 | []=>rfl
 | y::l=>by
  have a:=A3 x l;unfold ze at a ⊢;rw[og,vx,a];by_cases h:y=x
  .subst h;simp[t4]
  .have h':¬ x=y:=λe=>h e.symm;simp[t4,h,h']
theorem aG.ints{K:Frag}{Z:Hp}:∀{l:AT} {vs:BY},aG K CL Z (l.map D.int) vs->vs=l.map V.int
 | [],_,r=>by
  have a:=r;cases a;rfl
 | y::l,_,r=>by
  have a:=r;cases a with
  | cons c b=>rw[c.sc rfl,aG.ints b];rfl
theorem lB:∀l:AT,(l.map V.int).all zf=true
 | []=>rfl
 | y::l=>by rw[og,JE,lB l];rfl
abbrev _root_.Dx:=Option BB
def A4(d:L3.D):Dx:=match d with
 | .lst ds=>some ds
 | .tup ds=>some ds
 | _=>none
theorem bW.A4{ds:BB}(r:Qde)(h:L3.A4 d=some ds):∃p us,v=.ref p/\(oG K Z p us\/AG K Z p us)/\aG K CL Z ds us:=by
 cases r with
 | tup b a=>cases h;exact⟨_,_,rfl,.inr b,a⟩
 | lst b a=>cases h;exact⟨_,_,rfl,.inl b,a⟩
 | non=>cases h
 | bl=>cases h
 | int=>cases h
 | str=>cases h
 | any=>cases h
 | val=>cases h
 | tE=>cases h
 | dct=>cases h
 | ins=>cases h
 | Ei=>cases h
variable{l:AT}
def FE{i:Int}(h1:Qba)(h2:Qhn)(hd:L3.A4 d=some Qb2)(hm:behindInMarks .In e2=false) :
  ye X CL b QgY δ (decide (i∈l)) δ2/\cY X CL b QgY δ (.sh (.bl (decide (i∈l)))) δ2:=by
 constructor
 .intro H Z σ ts vs Q S k;refine EI (pI yb dN dN hm) (h1 H Z σ ts vs _ S λv1 H1 Z1 f k1 n a=>h2 H1 Z1 σ ts vs _ n λv2 H2 Z2 c k2 m h=>?_);obtain⟨p,us,rfl,j,g⟩:=bW.A4 h hd;have e:=g.ints;subst e;refine⟨_,_,rfl,j,by rw[a.sc rfl];rfl,lB l,_,rfl,?_⟩;rw[a.sc rfl,A3];exact k H2 Z2 Qcv Qao m
 .intro H Z σ ts vs Q S k;refine cK (x9 yb dN dN hm) (h1 H Z σ ts vs _ S λv1 H1 Z1 f k1 n a=>h2 H1 Z1 σ ts vs _ n λv2 H2 Z2 c k2 m h=>?_);obtain⟨p,us,rfl,j,g⟩:=bW.A4 h hd;have e:=g.ints;subst e;refine⟨_,_,rfl,j,by rw[a.sc rfl];rfl,lB l,?_⟩;rw[a.sc rfl,A3];exact k _ H2 Z2 Qcv Qao (m.push Qcf)
def M3{i:Int}(h1:Qba)(h2:Qhn)(hd:L3.A4 d=some Qb2)(hm:behindInMarks .NotIn e2=false) :
  ye X CL b QgP δ (!decide (i∈l)) δ2/\cY X CL b QgP δ (.sh (.bl (!decide (i∈l)))) δ2:=by
 constructor
 .intro H Z σ ts vs Q S k;refine EI (pI pJ dN dN hm) (h1 H Z σ ts vs _ S λv1 H1 Z1 f k1 n a=>h2 H1 Z1 σ ts vs _ n λv2 H2 Z2 c k2 m h=>?_);obtain⟨p,us,rfl,j,g⟩:=bW.A4 h hd;have e:=g.ints;subst e;refine⟨_,_,rfl,j,by rw[a.sc rfl];rfl,lB l,_,rfl,?_⟩;rw[a.sc rfl,A3];exact k H2 Z2 Qcv Qao m
 .intro H Z σ ts vs Q S k;refine cK (x9 pJ dN dN hm) (h1 H Z σ ts vs _ S λv1 H1 Z1 f k1 n a=>h2 H1 Z1 σ ts vs _ n λv2 H2 Z2 c k2 m h=>?_);obtain⟨p,us,rfl,j,g⟩:=bW.A4 h hd;have e:=g.ints;subst e;refine⟨_,_,rfl,j,by rw[a.sc rfl];rfl,lB l,?_⟩;rw[a.sc rfl,A3];exact k _ H2 Z2 Qcv Qao (m.push Qcf)
def XJ{l:At}(h1:Qi8)(h2:Qhn)(hd:L3.A4 d=some (l.map .str))(hm:behindInMarks .In e2=false) :
  ye X CL b QgY δ (decide Qfa) δ2/\cY X CL b QgY δ (.sh (.bl (decide Qfa))) δ2:=by
 constructor
 .intro H Z σ ts vs Q S k;refine EI (pI yb dN dN hm) (h1 H Z σ ts vs _ S λv1 H1 Z1 f k1 m a=>h2 H1 Z1 σ ts vs _ m λv2 H2 Z2 c k2 j h=>?_);obtain⟨p,us,rfl,i,g⟩:=bW.A4 h hd;have e:=g.strs;subst e;refine⟨_,_,rfl,i,by rw[a.sc rfl];rfl,lA l,_,rfl,?_⟩;rw[a.sc rfl,A1];exact k H2 Z2 Qcv Qao j
 .intro H Z σ ts vs Q S k;refine cK (x9 yb dN dN hm) (h1 H Z σ ts vs _ S λv1 H1 Z1 f k1 m a=>h2 H1 Z1 σ ts vs _ m λv2 H2 Z2 c k2 j h=>?_);obtain⟨p,us,rfl,i,g⟩:=bW.A4 h hd;have e:=g.strs;subst e;refine⟨_,_,rfl,i,by rw[a.sc rfl];rfl,lA l,?_⟩;rw[a.sc rfl,A1];exact k _ H2 Z2 Qcv Qao (j.push Qcf)
def aiw{l:At}(h1:Qi8)(h2:Qhn)(hd:L3.A4 d=some (l.map .str))(hm:behindInMarks .NotIn e2=false) :
  ye X CL b QgP δ (!decide Qfa) δ2/\cY X CL b QgP δ (.sh (.bl (!decide Qfa))) δ2:=by
 constructor
 .intro H Z σ ts vs Q S k;refine EI (pI pJ dN dN hm) (h1 H Z σ ts vs _ S λv1 H1 Z1 f k1 m a=>h2 H1 Z1 σ ts vs _ m λv2 H2 Z2 c k2 j h=>?_);obtain⟨p,us,rfl,i,g⟩:=bW.A4 h hd;have e:=g.strs;subst e;refine⟨_,_,rfl,i,by rw[a.sc rfl];rfl,lA l,_,rfl,?_⟩;rw[a.sc rfl,A1];exact k H2 Z2 Qcv Qao j
 .intro H Z σ ts vs Q S k;refine cK (x9 pJ dN dN hm) (h1 H Z σ ts vs _ S λv1 H1 Z1 f k1 m a=>h2 H1 Z1 σ ts vs _ m λv2 H2 Z2 c k2 j h=>?_);obtain⟨p,us,rfl,i,g⟩:=bW.A4 h hd;have e:=g.strs;subst e;refine⟨_,_,rfl,i,by rw[a.sc rfl];rfl,lA l,?_⟩;rw[a.sc rfl,A1];exact k _ H2 Z2 Qcv Qao (j.push Qcf)
variable{ds:BB}
def fz:MH X CL b [] δ (([]:BB).map T.sh) δ:=bI
def aO(h1:Qg9)(h2:MH X CL b es δ1 Qbf δ2)(hs:Qaf:=by exact bC rfl):MH X CL b Qab δ ((d::ds).map T.sh) δ2:=bq h1 h2 hs
theorem eX(h:MH X CL b es δ (ds.map T.sh) δ1)(a:QbM):cY X CL b (.List es pos) δ (.lst Qbf) δ1:=c9 h WD
def v8(l:At):D.ck (l.map L3.D.str)=true:=eZ Qdb _
def eY(h:QiW):cY X CL b e δ (.sh QcC) δ1:=by
 have:=Uu h
 rwa [T.gM,lu]at this
def A5(h:QaG)(q:t.gM=d):cY X CL b e δ (.sh d) δ1:=q▸Uu h
def XM(h:DD.bk δ):dW X CL b (.Break pos::fU) δ DD:=cH (adF h)
def anW(h:DD.ct δ):dW X CL b (.Continue pos::fU) δ DD:=cH (aij h)
def El{d2:L3.D}(h:QeA)(q:d=d2):dU X CL b e δ d2 δ1:=q▸h
def bw{t2:T}(h:QaG)(q:t=t2):cY X CL b e δ t2 δ1:=q▸h
structure M4(Z H Z' H':Hp):Prop where
 z:aM Z Z'
 h:aM H H'
 zh:aM Z' H'
 new:∀a o,Z' a=some o->Z a=none->H a=none
 tp:∀a o,H' a=some o->kM o=true->Z' a=some o
theorem M4.refl(zh:aM Z H)(tp:∀a o,H a=some o->kM o=true->Z a=some o):M4 Z H Z H:=⟨.refl _,.refl _,zh,λa o q z=>WE,tp⟩
theorem M4.tup{p:Addr}(zh:aM Z H)(tp:∀a o,H a=some o->kM o=true->Z a=some o)(b:H p=none):M4 Z H (upd Z p Qbi) (upd H p Qbi):=by
 have c:=zh.free b;refine⟨aM.upd c,aM.upd b,λa o q=>?_,λa o q z=>?_,λa o q i=>?_⟩
 .by_cases e:a=p
  .subst e;rw[bD]at q ⊢;exact q
  .rw[az e]at q ⊢;exact zh a o q
 .by_cases e:a=p
  .subst e;exact b
  .rw[az e,z]at q;cases q
 .by_cases e:a=p
  .subst e;rw[bD]at q ⊢;exact q
  .rw[az e]at q ⊢;exact tp a o q i
theorem bH.grow(S:Qag)(g:M4 Z H Z' H'):bH K CL b H' Z' δ σ ts vs:=by
 obtain⟨fp,gp,e,r,nd,k⟩:=S.rep;have old:=λa c=>(f9.1 c).elim (e.there a) (r.there a);have keep:∀a∈fp++gp,H' a=H a:=λa c=>by
  obtain⟨o,q⟩:=old a c;rw[q];exact g.h a o q
 refine⟨⟨fp,gp,e.mono g.z (λa c=>keep a (nv _ c)),r.mono g.z (λa c=>keep a (j9 _ c)),nd,λa c=>⟨?_,(k a c).2⟩⟩,S.bh.trans g.h,S.zz.trans g.z,g.zh,λa o q z=>?_,g.tp,S.tab⟩
 .cases q:Z' a with
  | none=>rfl
  | some o=>
   obtain⟨u,d⟩:=old a c;rw[g.new a o q (k a c).1]at d;cases d
 .cases e2:Z a with
  | none=>exact S.bh.free (g.new a o q e2)
  | some u=>
   have:=g.z a u e2;rw[q]at this;cases this;exact S.new a o e2 z
noncomputable def XO(δ:BA):CU->BB->BA
 | i::is,d::ds=>XO (δ.set i Qbq) is ds
 | _,_=>δ
noncomputable def GL(σ:L2.St):CU->BY->L2.St
 | i::is,v::vs=>GL (σ.set i Qat) is vs
 | _,_=>σ
theorem bH.sets{ps:BB}{ys:BY}:∀{is:CU} {δ:BA} {σ:L2.St},bH K CL b H Z δ σ ts vs->aG K CL Z ps ys->(∀i∈is,i<δ.length)->bH K CL b H Z (XO δ is ps) (GL σ is ys) ts vs:=by
 intro is
 induction is generalizing ps ys with
 | nil=>
  intro δ σ S r _;cases ps<;>cases ys<;>exact S
 | cons i is d=>
  intro δ σ S r a;cases r with
  | nil=>exact S
  | cons r c=>exact d ((S.push r).set (a i eU)) c (λj e=>by rw[ui];exact a j (jk _ e))
section
variable{ds:BB}
structure UB(X:Cx)(CL:BC)(b:Bx)(δ1:BA)(σ:L2.St)(ts:Bi)(vs:BY)(Z H:Hp)(ds:BB)(J:It)(H1:Hp):Prop where
 ex:∃Z1,aM Z Z1/\aM H H1/\bH X.K CL b H1 Z1 δ1 σ ts vs/\(∀i H2,aM Z1 H2->i<ds.length->J.go i H2) ∧
  (∀i Z2 H2 x H',aM Z1 Z2->aM Z2 H2->(∀a o,H2 a=some o->kM o=true->Z2 a=some o)->i<ds.length->J.u3 i H2 x H'->∃Z3 d,ds[i]? = some d/\M4 Z2 H2 Z3 H'/\bW X.K CL Z3 d x)/\(∀H2,aM Z1 H2->J.stop ds.length H2)
def yY(X:Cx)(CL:BC)(b:Bx)(tg e:Expr)(δ:BA)(ds:BB)(δ1:BA):Prop:=
 ∃a,PI X tg e a/\∀(H Z:Hp) (σ:L2.St) (ts:Bi) (vs:BY) (R:QfV),bH X.K CL b H Z δ σ ts vs->(∀J H1,UB X CL b δ1 σ ts vs Z H ds J H1->R J H1)->a σ H R
def al2(h:ZE X CL b tg iter δ ds δ1):yY X CL b tg iter δ ds δ1:=by
 obtain⟨f,pi,hw⟩:=h;refine⟨f,pi,λH Z σ ts vs R S k=>hw H Z σ ts vs R S λJ H1 zz=>?_⟩;obtain⟨Z1,us,a,k1,m,g,go,c,st⟩:=zz;refine k J H1 ⟨Z1,a,k1,m,go,λi Z2 H2 x H' s1 s2 tp hi j=>?_,st⟩;obtain⟨e,l⟩:=c i H2 x H' Qic hi j;subst e;obtain⟨d,hd,rd⟩:=g.Zz l;exact⟨Z2,d,hd,.refl s2 tp,rd.mono s1⟩
def Nj(X:Cx)(CL:BC)(tg:Expr)(is:CU)(parts:D->Dx):Prop:=
 ∃t:TG,PG X tg t/\∀(Z H:Hp) (d:D) (ps:BB) (x:V) (σ:L2.St) (Q:L2.St->Hp->Prop),aM Z H->bW X.K CL Z d x->parts d=some ps->(∀ys,aG X.K CL Z ps ys->Q (GL σ is ys) H)->t x σ H Q
def part1(d:D):Dx:=some [d]
noncomputable def part2:D->Dx
 | .tup [a,c]=>some [a,c]
 | _=>none
theorem ZK{d:D}{ps:BB}(h:part2 d=some ps):∃d1 d2,d=.tup [d1,d2]/\ps=[d1,d2]:=by
 unfold part2 at h;split at h
 .grind
 .cases h
theorem UC{d:D}{ps:BB}{x:V}{Q:L2.St->Hp->Prop}(zh:aM Z H)(r:bW K CL Z d x)(e:part2 d=some ps)(k:∀ys,aG K CL Z ps ys->Q (GL σ [i,j] ys) H):Zl K 2 (TV (K7 i) (TV (K7 j) Zp)) x σ H Q:=by
 obtain⟨d1,d2,rfl,rfl⟩:=ZK e;obtain⟨_,_,rfl,f,a⟩:=r.Q0;cases a with
 | cons c a=>
  cases a with
  | cons b a=>
   cases a;exact⟨_,_,rfl,aM.u7 zh f,rfl,_,_,rfl,_,_,rfl,rfl,k _ (.cons c (.cons b .nil))⟩
def adP{px:Pos}(a:Qa9)(n:QbJ):Nj X CL (.Name x px) [i] part1:=
 ⟨ _,uf a n.hi n.loc n.hf,λZ H d ps x σ Q zh r e k=>by
  cases e;exact k [x] (.cons r .nil)⟩
def XQ{k:Nat}{y:Str}{px py pt:Pos}(a:Qa9)(f:QaA)(n:QbJ)(m:Ln X j y)(hs:(assignEach [.Name x px,.Name y py] X.env).map (·.2)=assign (.Name x px) X.env::(assignEach [.Name y py] X.env).map (·.2):=by rfl)(g:(assignEach [.Name y py] X.env).map (·.2)=assign QfL X.env::(assignEach [] X.env).map (·.2):=by rfl)
  (c:(assignEach [.Name x px,.Name y py] X.env).length=2:=by rfl) (b:(assignEach [.Name x px,.Name y py] X.env).findIdx? (·.1)=none:=by rfl):Nj X CL (.Tuple [.Name x px,.Name y py] k pt) [i,j] part2:=
 ⟨ _,am2 f (QK (uf a n.hi n.loc n.hf) (QK (uf a m.hi m.loc m.hf) ah1 g) hs) c b,λZ H d ps x σ Q zh r e k=>UC zh r e k⟩
theorem aix{D:gi}(is:CU)(parts:L3.D->Dx)(P:QfR)(h:Qfq)(n:Nj X CL tg is parts)(h0:P 0 δ1)(F:∀j δ,P j δ->∀i∈is,i<δ.length)
  (hs:∀j d δ,ds[j]? = some d->P j δ->∃ps,parts d=some ps/\dW X CL b fU (XO δ is ps) {nx:=P QA,rt:=D.rt,bk:=D.nx,ct:=P QA}) (hd:∀δ,P ds.length δ->D.nx δ)
  (C:QgU) (G:QaA) (B:Qcc:=by intro _;rfl) :
  Ut X CL b (.For tg iter fU [] pos) δ D:=λH Z σ ts vs E S M=>by
 obtain⟨O,pi,hw⟩:=h;obtain⟨t,pg,n⟩:=n;refine rV (ac5 C G pi pg Uq B) (hw H Z σ ts vs _ S λJ H1 zz=>?_);obtain⟨Z1,f,k1,N,go,u,st⟩:=zz;refine⟨λj m σ H2=>m=ds.length-j/\j<=ds.length/\∃Z2 δ2,aM Z1 Z2/\bH X.K CL b H2 Z2 δ2 σ ts vs/\P j δ2,⟨_,rfl,nZ _,Z1,δ1,.refl _,N,h0⟩,?_⟩;rintro j m σ H2 ⟨rfl,R,Z2,δ2,s,c,p2⟩;by_cases l:j<ds.length
 .refine .inr ⟨go j H2 QfW l,_,λσ' H' h=>⟨ _,We,rfl,l,h⟩,λy H' x=>?_⟩;obtain⟨Z3,d,p,q,rd⟩:=u j Z2 H2 y H' s c.zh c.tp l x;obtain⟨ps,o,I⟩:=hs j d δ2 p p2;have r:=c.grow q;refine n Z3 H' d ps y σ _ r.zh rd o λys g=>?_;have L:=r.sets g (F j δ2 p2);have s3:=s.trans q.z;exact I _ Z3 _ ts vs _ L ⟨λδ' σ' H' Z' s' a k=>⟨Z',δ',s3.trans s',a,k⟩,λt v H' Z' δ' σ' s' a k=>M.rt t v H' Z' δ' σ' (f.trans (s3.trans s')) a k,λδ' σ' H' Z' s' a k=>M.nx δ' σ' H' Z' (f.trans (s3.trans s')) a k,λδ' σ' H' Z' s' a k=>⟨Z',δ',s3.trans s',a,k⟩⟩
 .have e:j=ds.length:=by lia
  subst e;exact .inl ⟨st H2 QfW,M.nx δ2 σ H2 Z2 (f.trans s) c (hd δ2 p2)⟩
def anY{D:gi}{is:CU}{parts:L3.D->Dx}(g:Gx X)(a:Nj X CL tg is parts)(P:QfR)(h:Qfq)(h0:P 0 δ1)(e:∀j δ,P j δ->∀i∈is,i<δ.length)
  (hs:∀j d δ,ds[j]? = some d->P j δ->∃ps,parts d=some ps/\dW X CL b body (XO δ is ps) {nx:=P QA,rt:=D.rt,bk:=λδ2=>dW X CL b fU δ2 D,ct:=P QA}) (hd:∀δ,P ds.length δ->dW X CL b fU δ D) (c:Qcc:=by intro _;rfl) :
  dW X CL b (.For tg iter body [] pos::fU) δ D:=
 cH (aix is _ P h a h0 e hs hd g.xe g.calm c)
end
structure ur(X:Cx)(scope:Scope)(xs:At)(Nc:At)(ix:CU):Prop where
 kind:scope.kind=.function
 CD:∀y∈scope.names,y.2 ≠ .cell
 nd:Nc.Nodup
 names:∀y∈scope.names,y.2=.local->scope.names.lookup y.1=some .local
 own:∀x∈xs,scope.names.lookup x=some .local
 frees:∀y∈scope.names,y.2=.free->scope.names.lookup y.1=some .free/\QkX
 hd:Nc=xs++ix.filterMap (X.N[·]?)
 xm:∀i∈ix,∃y,X.N[i]? = some y/\scope.names.lookup y=some .free
noncomputable def ZL(σ:L2.St)(ix:CU)(os:Qge):L2.St:=os++ix.map λi=>(σ[i]?).getD none
variable{xs:At}
theorem Rf(sc:QdK)(I:Qz)(x:∀b∈fp,pH X pins H b/\b<s.heap.objs.size){h':Heap}{m:Bn}{tk:Nat}
  (Z:h'.Ns s.heap.objs.size m) (d:∀b o,s.heap.get? b=some o->h'.get? b=some o) :
  Inv Qle [] (ZL σ ix (List.replicate xs.length none)) H {s with heap:=h',toks:=tk}:=by
 have frees:∀y∈scope.names,y.2=.free->∃c,X.env.cells.lookup y.1=some c:=λy J e=>I.ok.has y.1 (sc.frees y J e).2;have sub:∀{y:Str} {c:Addr},(fq X.env scope.names []).lookup y=some c->X.env.cells.lookup y=some c:=λ{y c} e=>uq frees (λ_ _ z=>by cases z) e;have hlen:(ZL σ ix (List.replicate xs.length none)).length=Nc.length:=by
  have all:∀l:CU,(∀i∈l,∃y,X.N[i]? = some y/\scope.names.lookup y=some .free)->(l.filterMap (X.N[·]?)).length=l.length:=by
   intro l
   induction l with
   | nil=>intro _;rfl
   | cons i r G=>
    intro h;obtain⟨y,e,_⟩:=h i eU;rw[rl,e];show _+1=_+1;rw[G λj C=>h j (jk _ C)]
  unfold ZL;rw[sc.hd,n6,n6,dm,Fh,all ix sc.xm]
 have C0:s.heap.get? s.heap.objs.size=none:=Heap.get?_none_of_le (iP _);refine⟨⟨I.ok.mod,sc.kind,I.ok.glob,I.ok.blt,iP _,λy z c h1 h2=>I.ok.inj y z c (sub h1) (sub h2),λy J=>?_,λy c hf _=>(by cases (show false=true from hf)),I.ok.hd,I.ok.frames,.inl rfl,λb g=>⟨oI (x b g).2,λy c e=>(x b g).1.2.2.2.2.1 y c (sub e)⟩,I.bs,oy I.ok.tf I.sz,λb o e g=>?_,λb g hf=>?_,I.stack,I.Fp⟩,
  rfl,I.bare,Un.kept d,⟨m,Z,λi y v h1 h2 h3=>?_⟩,λy c e=>?_,I.fC.fresh (iP _),λy c e=>I.nS y c (sub e),λp W=>absurd (show p∈([]:BM) from W) WA,I.fC.kept d,hlen⟩
 .
  have B:(relabel scope X.env).names.lookup y=some .cell\/(relabel scope X.env).names.lookup y=some .free:=J;cases e:scope.names.lookup y with
  | none=>
   have:=pG (env:=X.env) e;obtain q|q:=B<;>(rw[show(relabel scope X.env).names.lookup y=none from this]at q;cases q)
  | some k=>
   have q:=jG (env:=X.env) e;have d:k=.free:=by
    by_cases d:k=.free
    .exact d
    .have g:(k==NameKind.free)=false:=by simpa using d
     rw[bF (by rw[g];simp)]at q;have V:k ≠ .cell:=λz=>by
      subst z;exact sc.CD _ (w4 e) rfl
     obtain z|z:=B
     .rw[show(relabel scope X.env).names.lookup y=some k from q]at z;exact absurd (o7 z) V
     .rw[show(relabel scope X.env).names.lookup y=some k from q]at z;exact absurd (o7 z) d
   subst d;exact qy e
 .
  rcases(x b g).1.2.2.2.1 with z|z
  .exact I.ok.T8 b o e z
  .exact absurd (pE (nz e) (oy I.ok.tf z)) (z4 _)
 .obtain z|z:=eu.1 (I.Mt b hf)
  .exact(x b g).1.2.1 z
  .exact(x b g).1.2.2.1 z
 .
  unfold ZL at h2;by_cases hi:i<xs.length
  .rw[Pc (by rw[Fh];exact hi),TZ,cq hi]at h2;cases h2
  .obtain⟨n,rfl⟩:∃n,i=xs.length+n:=⟨i-xs.length,We⟩;rw[Nf (by rw[Fh];lia),Fh,Nat.add_sub_cancel_left,o2]at h2;cases F:ix[n]? with
   | none=>rw[F]at h2;cases h2
   | some j=>
    rw[F]at h2;have t:(σ[j]?).getD none=some v:=o7 h2;have C:σ[j]? = some Qat:=by
     cases q:σ[j]? with
     | none=>rw[q]at t;cases t
     | some o=>rw[q]at t;exact congrArg some t
    obtain⟨f,A,w⟩:=sc.xm j (qz F);have M:Nc[xs.length+n]? = some f:=by
     have all:∀(l:CU) (i:Nat),(∀j∈l,∃y,X.N[j]? = some y/\scope.names.lookup y=some .free)->l[i]? = some j->(l.filterMap (X.N[·]?))[i]? = some f:=by
      intro l
      induction l with
      | nil=>intro i _ h;simp at h
      | cons a r G=>
       intro i h hi;obtain⟨ya,O,_⟩:=h a eU;rw[rl,O];cases i with
       | zero=>
        simp at hi;subst hi;rw[A]at O;cases O;rfl
       | succ i=>exact G i (λj C=>h j (List.mem_cons_of_mem _ C)) (by simpa using hi)
     rw[sc.hd,Nf We,Nat.add_sub_cancel_left];exact all ix n sc.xm F
    have ey:f=y:=by
     have E:Nc[xs.length+n]? = some y:=h1;rw[M]at E;exact o7 E
    subst ey;have S:=(sc.frees (f,.free) (w4 w) rfl).2;have P:yA X.env.scope f:=S.elim (λz=>.inr QcH) (λz=>.inr (.inr z));obtain⟨m0,Y,L⟩:=I.loc;obtain⟨u,U,lk⟩:=L j f v A C P;refine⟨u,U,?_⟩;obtain⟨kk,_⟩|⟨_,c,hc,T⟩:=lk
    .obtain z|z:=S
     .rw[kk]at z;cases z
     .rw[kk]at z;cases z
    .obtain⟨R,D⟩:=qy (env:=X.env) (cs:=[]) w;have:R=c:=by
      have:=sub D;rw[hc]at this;exact(o7 this).symm
     subst this;obtain⟨o,K,hd⟩:=T;refine .inr ⟨?_,R,D,o,d _ _ K,hd⟩;have q:=jG (env:=X.env) w;show(relabel scope X.env).names.lookup f=some .cell\/(relabel scope X.env).names.lookup f=some .free;rw[show(relabel scope X.env).names.lookup f=_ from q];split
     .exact .inl rfl
     .exact .inr rfl
 .obtain⟨v,o,K,hd⟩:=I.cell y c (sub e);exact⟨v,o,d _ _ K,hd⟩
def TK(X:Cx)(tg elt:Expr)(ifs:Cc)(n:Nat)(σ:L2.St)(ix:CU)(D:Addr)(N:Hp->Prop)(e:V)(os:Qge)(g:Hp):Prop:=
 ∃t:TG,PG X tg t/\t e (ZL σ ix os) g λa f=>∃b,b.length=n/\a=ZL σ ix b/\OA X ifs a f λok d=>
  if ok=true then zP X elt a d λy c=>∃acc,c D=some (.lst acc)/\acc.length<sizeLine/\N (upd c D (.lst (acc++[y]))) else N d
variable{it:Addr}{E:BS}
def zT{J:It}{tn:QhM}{G:Addr->Hp->Prop}{RR:QiE}
  (sc:QdK) (hc:QaA) (I:Qz) (l:Turn X.prog X.w X.K tg J fp it tn) (st:tn 0 s.heap) (hf:∀b∈fp,pH X pins H b)
  (loop:∀D,H D=none->∃W:Nat->Nat->Hp->Prop,(∃m,W 0 m (upd H D Qdv))/\∀i m H2,W i m H2->(J.stop i H2/\G D H2) ∨
   (J.go i H2/\∃N:Hp->Prop,(∀H',N H'->∃m',m'<m/\W (i+1) m' H')/\∀L H3,J.u3 i H2 L H3->∀C s0 H0 f0 os,os.length=xs.length->TK Qg4 tg elt ifs xs.length σ ix D N L os H3))
  (aI:∀D C s' H',(∃m,s'.heap.Ns C m)->(∃o,s'.heap.get? C=some o/\∀v,o.data ≠ .cell v)->H' C=none->(C≠X.env.locals/\C∉X.fs/\X.gZ.heap.objs.size<=C/\(∀y c,X.env.cells.lookup y=some c->c≠C)/\∀q∈X.pn++pins,q.1≠C)->(∀h',Heap.SameBut C s'.heap h'->Inv X pins σ H' {s' with heap:=h'})->G D H'->RR QaW C (.ok .next) s') :
  wpAny Qr X.A Qf4 (λacc O=>wpAny Qr X.A Qih (λRg M=>
   codeAny Qr X.A (.compStart QdD 0 QbD acc {Rg with scope:=relabel scope X.env}) (RR acc Rg.locals) M) E O) E s:=by
 refine wpAny_newObj_type ?_;have F:Inv X pins σ (upd H s.heap.objs.size Qdv) {s with heap:=s.heap.push {cls:=.type "list",dict:=none,data:=.seq ([]:B2).toArray}}:=
  I.laid (t':=s.toks) QjT (iP _) ⟨by show 0<=sizeLine;exact nZ _,[],0,.nil,pk _ rfl⟩
 have hD:H s.heap.objs.size=none:=I.fC.fresh (iP _);obtain⟨W,⟨m0,w0⟩,turn⟩:=loop _ hD;have j:∀b∈fp,pH X pins Qif b/\b<(s.heap.push {cls:=.type "list",dict:=none,data:=.seq ([]:B2).toArray}).objs.size:=λb a=>by
  obtain⟨f0,f1⟩:=hf b a;obtain⟨o,ho,_⟩:=l.obj 0 _ st b a;have nB:=nz ho;refine⟨⟨by rw[az (oI nB)];exact f0,f1⟩,?_⟩;rw[Heap.size_push];exact Nat.lt_succ_of_lt nB
 have R:tn 0 (s.heap.push {cls:=.type "list",dict:=none,data:=.seq ([]:B2).toArray}):=l.keep 0 _ _ st λb _ o e=>ot _ e;generalize ag:({s with heap:=s.heap.push {cls:=.type "list",dict:=none,data:=.seq ([]:B2).toArray}}:Shared)=s3 at F ⊢;have aw:s3.heap=s.heap.push {cls:=.type "list",dict:=none,data:=.seq ([]:B2).toArray}:=by rw[← ag]
 rw[← aw]at j R;refine wpAny_newFunctionEnv sc.CD (by intro y hy;simp at hy) (λh bc ba=>?_) sc.kind;have old:∀b o,s3.heap.get? b=some o->h.get? b=some o:=λb o e=>(ba.2 b Qf9).trans (ot _ e);have J0:=Rf (tk:=s3.toks+([]:D2).length) sc F j bc old;have P:tn 0 h:=l.keep 0 _ _ R λb _ o e=>old b o e;have V:∀s4:Shared,s4={s3 with heap:=h,toks:=s3.toks+([]:D2).length}->codeAny Qr X.A (.compLoop QdD 0 QbD Qeq (compEnvC scope QbK s3.heap.objs.size X.env)) (RR Qeq s3.heap.objs.size) s4:=by
  rintro s4 rfl;have f:∀{H':Hp},(∀b∈fp,H' b=none)->∀b∈fp,pH Qee [] H' b:=λ{H'} hn b a=>by
   obtain⟨⟨f0,f1,f2,f3,f4,f5⟩,nB⟩:=j b a;refine⟨hn b a,oI nB,λz=>?_,.inl a,λy c e=>f4 y c (uq (λy hy e=>I.ok.has y.1 (sc.frees y hy e).2) (λ_ _ z=>by cases z) e),λp hp=>absurd (show p∈([]:BM) from hp) WA⟩;obtain q|q:=eu.1 (F.Mt b z)
   .exact f1 q
   .exact f2 q
  refine MR (λn s'=>∃i o H',o.length=xs.length/\Inv Qee [] (ZL σ ix o) H' s'/\tn i s'.heap/\(∀b∈fp,H' b=none)/\W i n H') ?_ m0 ⟨0,_,_,Fh,J0,P,λb a=>(j b a).1.1,w0⟩;rintro n s5 ⟨i,o5,H5,ae,I5,Xi,U,w5⟩;obtain⟨stop,g⟩|⟨go,N,hN,step⟩:=turn i n H5 w5
  .refine fX (l.done Qee rfl rfl rfl hc i [] s5 _ H5 _ I5 (f U) Xi stop) λr s6 zz=>?_;obtain⟨hr,I6⟩:=zz;subst hr;obtain⟨m6,T,_⟩:=I6.loc;obtain⟨oc,bo,bp,ar,ax,_⟩:=id T;have k:=F.JM (iP s3.heap.objs.size) (H':=λ_=>none) rfl;refine aI _ _ s6 H5 ⟨m6,T⟩ ⟨oc,ar,λv z=>by rw[ax]at z;cases z⟩ I6.free ⟨k.2.1,k.2.2.1,?_,k.2.2.2.2.1,k.2.2.2.2.2⟩ (λh' ZM=>ZD F (λb a=>(j b a).1) I6 ZM) g;exact F.sz
  .refine fX (l.item Qee rfl rfl rfl hc i [] s5 _ H5 _ I5 (f U) Xi go) λr s6 zz=>?_;obtain⟨u,hr,h6⟩:=zz;subst hr;refine fX h6 λ_ s7 zz=>?_;obtain⟨L,H7,I7,r7,y7,B,aT⟩:=zz;have bg:=I7.pinned (f aT) (l.obj _ _ B);obtain⟨t,hg,ht⟩:=step L _ y7 s3.heap.objs.size s3 Qif fp o5 ae;refine fX (hg _ s7 _ H7 L u _ bg r7 ht) λ_ s8 zz=>?_;obtain⟨bj,H8,I8,S,aa,e8,h8⟩:=zz;subst e8;refine fX (adG I8 h8 rfl) λok s9 zz=>?_;obtain⟨H9,I9,Z⟩:=zz;have again:∀{x:Hp} {sa:Qb},Inv Qee ([]++Gk fp s7.heap) (ZL σ ix S) x sa->N x->∃m,m<n/\∃i o H',o.length=xs.length/\Inv Qee [] (ZL σ ix o) H' sa/\tn i sa.heap/\(∀b∈fp,H' b=none)/\W i m H':=λ{x sa} Y na=>by
    obtain⟨m',hm,wa⟩:=hN x na;refine⟨m',hm,i+1,S,x,aa,Y.vS,l.keep _ _ _ B λb a o e=>(Y.pin (b,o) (j9 _ (j9 _ (mQ a e)))).1,λb a=>?_,wa⟩;obtain⟨o,e,d⟩:=l.obj _ _ B b a;exact(Y.pin (b,o) (j9 _ (j9 _ (mQ a e)))).2.1
   cases ok with
   | false=>
    rw[bF q7]at Z ⊢;exact again I9 Z
   | true=>
    rw[cq rfl]at Z ⊢;refine fX (Z _ s9 I9) λv sa zz=>?_;obtain⟨y,x,Y,ra,acc,EJ,hlen,na⟩:=zz;refine fX (yc (X:=dg X scope Nc s3.heap.objs.size s3 Qif fp) _ sa _ x Qeq [y] Qeq [v] (λ_ Hb=>Hb=upd x s.heap.objs.size (.lst (acc++[y]))) Y rfl (.cons ra .nil) ⟨_,acc,y,rfl,rfl,EJ,hlen,rfl⟩) λ_ sb zz=>?_;obtain⟨_,Hb,Ib,_,eb⟩:=zz;subst eb;exact again Ib na
 exact codeAny_compStart_list (V _ rfl) (l.self _ 0 _ _ _ P (V _ rfl))
noncomputable def ZN(ps:BB):BA:=ps.map λp=>some (.sh p)
theorem Lp:∀{ys:BY} {os:Qge} {pre r:L2.St},os.length=ys.length->GL (pre++(os++r)) (List.range' pre.length ys.length) ys=pre++(ys.map some++r)
 | [],os,pre,r,h=>by
  have:=List.length_eq_zero_iff.1 h;subst this;rfl
 | y::ys,os,pre,r,h=>by
  match os,h with
  | o::os,h=>
   show GL _ _ ys=_;have:=Lp (pre:=pre++[some y]) (r:=r) (by simpa using h);simp_all
def aiy:∀{ps:BB} {ys:BY} {δc:BA} {a:L2.St},aG K CL Z ps ys->fH K CL H Z δc a []->fH K CL H Z Qe3 (ys.map some++a) []:=λ{ps ys δc a} h e=>
 aG.ind (P:=λps ys=>fH K CL H Z Qe3 (ys.map some++a) []) e (λr _ i=>.cons (.sh r) i) h
section
variable{W1:Hp}{δc:BA}{J:It}{ds:BB}{p:D->Bool}{g:D->T}{parts:D->Dx}
def CM(X:Cx)(CL:BC)(scope:Scope)(Nc:At)(n:Nat)(tg:Expr)(parts:D->Dx)(ifs:Cc)(elt:Expr)(δc:BA)(ds:BB)(p:D->Bool)(g:D->T):Prop:=
 ∀C s0 a f0 b,Nj Qjl CL tg (List.range' 0 n) parts/\∀d,d∈ds->∃ps,parts d=some ps/\ps.length=n/\PH Qjl CL b ifs Qe3 (p d)/\(p d=true->cY Qjl CL b elt Qe3 (g d) Qe3)
structure GW(K:Frag)(CL:BC)(H W1:Hp)(D:Addr)(l:Bi)(k:Nat)(H2 Z2:Hp)(TR:BY)(fp:BN):Prop where
 a1:aM H H2
 a2:aM W1 Z2
 a3:aM Z2 H2
 a4:Z2 D=none
 a5:∀a o,Z2 a=some o->W1 a=none->H a=none
 a6:∀a o,H2 a=some o->kM o=true->Z2 a=some o
 a7:H2 D=some (.lst TR)
 a8:bA K CL H2 Z2 l TR fp
 a9:fp.Nodup
 b1:D∉fp
 b2:∀a∈fp,Z2 a=none/\H a=none
 b3:TR.length<=k
theorem zU(S:Qg3)(zw:aM Z W1)(wh:aM W1 H)(tp:∀a o,H a=some o->kM o=true->W1 a=some o)
  (bc:∀H',fH X.K CL H' W1 δc (ix.map λi=>(σ[i]?).getD none) []) (inner:CM X CL scope Nc n tg parts ifs elt δc ds p g)
  (GN:∀i H2,aM W1 H2->i<ds.length->J.go i H2)
  (hy:∀i Z2 H2 x H',aM W1 Z2->aM Z2 H2->(∀a o,H2 a=some o->kM o=true->Z2 a=some o)->i<ds.length->J.u3 i H2 x H'->∃Z3 d,ds[i]? = some d/\M4 Z2 H2 Z3 H'/\bW X.K CL Z3 d x)
  (jB:∀H2,aM W1 H2->J.stop ds.length H2) (hlen:QbM) (c:W1=Z\/∀d∈ds,(g d).clean=true) :
  ∀D,H D=none->∃W:Nat->Nat->Hp->Prop,(∃m,W 0 m (upd H D Qdv))/\∀i m H2,W i m H2->(J.stop i H2/\∃Z2,aM Z Z2/\aM H H2/\bH X.K CL b H2 Z2 δ σ (.lst ((ds.filter p).map g)::ts) Qdk) ∨
   (J.go i H2/\∃N:Hp->Prop,(∀H',N H'->∃m',m'<m/\W (i+1) m' H')/\∀V k,J.u3 i H2 V k->∀C s0 H0 f0 os,os.length=n->TK Qg4 tg elt ifs n σ ix D N V os k):=by
 intro D hD;have wD:W1 D=none:=wh.free hD;refine⟨λi m H2=>m=ds.length-i/\i<=ds.length/\∃Z2 TR fp,GW X.K CL H W1 D (((ds.take i).filter p).map g) i H2 Z2 TR fp,⟨ds.length,rfl,nZ _,W1,[],[],aM.upd hD,.refl _,wh.trans (aM.upd hD),wD,λa o q z=>?_,λa o q i=>?_,bD,.nil,vy,WA,WA,WA⟩,?_⟩
 .rw[q]at z;cases z
 .by_cases f:a=D
  .subst f;rw[bD]at q;cases q;cases i
  .rw[az f]at q;exact tp a o q i
 .rintro i m H2 ⟨rfl,hi,Z2,TR,fp,hh,R,zh,zD,nw,I,E,T,nd,nD,own,bj⟩;by_cases nB:i<ds.length
  .refine .inr ⟨GN i H2 (R.trans zh) nB,λH'=>∃Z2 TR fp,GW X.K CL H W1 D (((ds.take (i+1)).filter p).map g) (i+1) H' Z2 TR fp,λH' h=>⟨ds.length-(i+1),We,rfl,nB,h⟩,λV k y C s0 H0 f0 os aT=>?_⟩;obtain⟨Z3,d,hd,w,rd⟩:=hy i Z2 H2 V k R zh I nB y;have O:∀a,Z2 a=none->(∃o,H2 a=some o)->Z3 a=none:=λa e ⟨o,e2⟩=>by
    cases q:Z3 a with
    | none=>rfl
    | some u=>rw[w.new a u q e]at e2;cases e2
   have aa:∀a o,Z3 a=some o->W1 a=none->H a=none:=λa o q z=>by
    cases e:Z2 a with
    | none=>exact hh.free (w.new a o q e)
    | some u=>
     have:=w.z a u e;rw[q]at this;cases this;exact nw a o e z
   have l:bA X.K CL k Z3 (((ds.take i).filter p).map g) TR fp:=T.mono w.z λa f=>by
    obtain⟨o,e⟩:=T.there a f;rw[e];exact w.h a o e
   have B:∀a∈fp,Z3 a=none/\H a=none:=λa f=>⟨O a (own a f).1 (T.there a f),(own a f).2⟩;have G:Z3 D=none:=O D zD ⟨_,E⟩;have j:k D=some (.lst TR):=w.h D _ E;have s:=hh.trans w.h;have A:=R.trans w.z;have U:=w.zh;have aw:=w.tp;clear own nw T zD E hh R zh I w O;have JV:d∈ds:=qz hd;have yi:ds.take (i+1)=ds.take i++[d]:=by rw[x3,hd];rfl
   obtain⟨nN,UD⟩:=inner C s0 H0 f0 ⟨k,Z3⟩;obtain⟨ps,aI,hpl,it,ie⟩:=UD d JV;obtain⟨t,pg,ht⟩:=nN;refine⟨t,pg,ht Z3 k d ps V _ _ U rd aI λys Y=>?_⟩;have M:ys.length=n:=by rw[← Y.length];exact hpl
   have es:GL (ZL σ ix os) (List.range' 0 n) ys=ZL σ ix (ys.map some):=by
    have:=Lp (ys:=ys) (os:=os) (pre:=[]) (r:=ix.map λi=>(σ[i]?).getD none) (by rw[aT,M]);rw[M]at this;exact this
   refine⟨ys.map some,by rw[dm];exact M,es,?_⟩;rw[es];have S0:bH X.K CL ⟨k,Z3⟩ k Z3 Qe3 (ZL σ ix (ys.map some)) [] []:=
    ⟨⟨[],[],aiy Y ((bc k).mono A λa f=>by cases f),.nil,vy,λa f=>by cases f⟩,.refl _,.refl _,U,λa o q z=>(by have z':Z3 a=none:=z;rw[show Z3 a=some o from q]at z';cases z'),aw,(S.Ur.mono zw).mono A⟩
   refine it.sem S0 λH4 Z4 P L S4=>?_;have bg:∀a∈fp,H4 a=k a:=λa f=>by
    obtain⟨o,e⟩:=l.there a f;rw[e];exact L a o e
   have ar:∀a,Z3 a=none->(∃o,k a=some o)->Z4 a=none:=λa e ⟨o,e2⟩=>by
    cases q:Z4 a with
    | none=>rfl
    | some u=>
     have:=S4.new a u q e;rw[show k a=none from this]at e2;cases e2
   cases hp:p d with
   | false=>
    refine JQ ⟨Z4,TR,fp,s.trans L,A.trans P,S4.zh,ar D G ⟨_,j⟩,λa o q z=>?_,S4.tp,L D _ j,?_,nd,nD,λa f=>⟨ar a (B a f).1 (l.there a f),(B a f).2⟩,We⟩
    .cases e:Z3 a with
     | none=>exact s.free (S4.new a o q e)
     | some u=>
      have:=P a u e;rw[q]at this;cases this;exact aa a o e z
    .rw[yi,tq,Nb (by simp[hp]),z6,n2];exact l.mono P bg
   | true=>
    refine JR ((ie hp) H4 Z4 (ZL σ ix (ys.map some)) [] [] _ S4 λyv H5 Z5 z5 k5 S5=>⟨TR,k5 D _ (L D _ j),We,?_⟩);obtain⟨f1,g1,e1,r1,ae,ag⟩:=S5.rep;cases r1 with
    | @cons _ _ _ _ fy fn ry rn=>
     cases rn;rw[n2]at ae ag;have ax:fy.Nodup:=(oT.1 ae).2.1;have F:∀a∈fy,Z5 a=none/\k a=none:=λa f=>ag a (j9 _ f);have UE:∀a,Z3 a=none->(∃o,k a=some o)->Z5 a=none:=λa e ⟨o,e2⟩=>by
      cases q:Z5 a with
      | none=>rfl
      | some u=>
       have:=S5.new a u q e;rw[show k a=none from this]at e2;cases e2
     have yD:∀a∈fy,a≠D:=λa f e=>by
      subst e;rw[(F a f).2]at j;cases j
     have bo:H5 D=some (.lst TR):=k5 D _ (L D _ j);have sD:aM H (upd H5 D (.lst (TR++[yv]))):=λa o q=>by
      rw[az (bf q hD)];exact k5 a o (L a o (s a o q))
     refine⟨Z5,TR++[yv],fp++fy,sD,A.trans (P.trans z5),λa o q=>?_,UE D G ⟨_,j⟩,λa o q z=>?_,λa o q im=>?_,bD,?_,?_,?_,λa f=>?_,?_⟩
     .rw[az (bf q (UE D G ⟨_,j⟩))];exact S5.zh a o q
     .cases e:Z3 a with
      | none=>exact s.free (S5.new a o q e)
      | some u=>
       have:=z5 a u (P a u e);rw[q]at this;cases this;exact aa a o e z
     .by_cases f:a=D
      .subst f;rw[bD]at q;cases q;cases im
      .rw[az f]at q;exact S5.tp a o q im
     .rw[yi,tq,Fu hp,z6,nH];refine bA.app (l.mono (P.trans z5) λa f=>?_) (by
       have:=bA.cons (fp:=fy) (gp:=[]) (ry.mono Qy λa f=>az (yD a f)) (bA.nil (H:=upd H5 D (.lst (TR++[yv]))) (Z:=Z5))
       rwa [n2]at this)
      have:a≠D:=λe=>nD (e▸f);rw[az this];obtain⟨o,e⟩:=l.there a f;rw[e];exact k5 a o (L a o e)
     .refine oT.2 ⟨nd,ax,λa f a' ba e=>?_⟩;subst e;obtain⟨o,e⟩:=l.there a f;rw[(F a ba).2]at e;cases e
     .intro h;obtain h|h:=f9.1 h
      .exact nD h
      .exact yD D h rfl
     .obtain h|h:=f9.1 f
      .exact⟨UE a (B a h).1 (l.there a h),(B a h).2⟩
      .exact⟨(F a h).1,s.free (F a h).2⟩
     .rw[n6,wy];lia
  .have e:i=ds.length:=by lia
   subst e;refine .inl ⟨jB H2 (R.trans zh),?_⟩;rw[pz]at T;obtain⟨Z',z',S'⟩:=S.back (H':=H2) (W:=W1) (W':=Z2) (t:=.lst ((ds.filter p).map g)) (v:=.ref D) (fp:=D::fp) hh zw R zh nw I (.lst E T) (si.2 ⟨nD,nd⟩) (λa f=>by
    obtain h|h:=eu.1 f
    .subst h;exact⟨zD,hD⟩
    .exact own a h) (c.imp id λc=>by
     rw[yg];exact GA λd hd=>c d (oC.1 hd).1)
   exact⟨Z',z',hh,S'⟩
end
variable{δc:BA}{ds:BB}{p:D->Bool}{g:D->T}{parts:D->Dx}
def Lq{J:It}{tn:QhM}{H1:Hp}{RR:QiE}
  (sc:QdK) (G:QaA) (C:UB X CL b δ1 σ ts vs Z H ds J H1) (I:L2.Inv X pins σ H1 s) (M:Turn X.prog X.w X.K tg J fp it tn) (st:tn 0 s.heap) (hf:∀b∈fp,pH X pins H1 b)
  (L:(δc=GB δ1 ix/\∀d∈ds,(g d).clean=true)\/δc=CG δ1 ix) (inner:Qgn) (hlen:QbM)
  (k:∀D C s' H' Z',(∃m,s'.heap.Ns C m)->(∃o,s'.heap.get? C=some o/\∀v,o.data ≠ .cell v)->H' C=none->(C≠X.env.locals/\C∉X.fs/\X.gZ.heap.objs.size<=C/\(∀y c,X.env.cells.lookup y=some c->c≠C)/\∀q∈X.pn++pins,q.1≠C)->(∀h',Heap.SameBut C s'.heap h'->L2.Inv X pins σ H' {s' with heap:=h'})->aM Z Z'->aM H H'->bH X.K CL b H' Z' δ1 σ (.lst ((ds.filter p).map g)::ts) Qdk->RR QaW C (.ok .next) s') :
  wpAny Qr X.A Qf4 (λacc h=>wpAny Qr X.A Qih (λt f=>
   codeAny Qr X.A (.compStart QdD 0 QbD acc {t with scope:=relabel scope X.env}) (RR acc t.locals) f) E h) E s:=by
 obtain⟨Z1,x,k1,a,go,l,j⟩:=C.ex;have lp:∀D,H1 D=none->∃W:Nat->Nat->Hp->Prop,(∃m,W 0 m (upd H1 D Qdv))/\∀i m H2,W i m H2->(J.stop i H2/\∃Z2,aM Z1 Z2/\aM H1 H2/\bH X.K CL b H2 Z2 δ1 σ (.lst ((ds.filter p).map g)::ts) Qdk) ∨
   (J.go i H2/\∃N:Hp->Prop,(∀H',N H'->∃r,r<m/\W (i+1) r H')/\∀n u,J.u3 i H2 n u->∀C s0 P f0 os,os.length=xs.length->TK (dg X scope Nc C s0 P f0) tg elt ifs xs.length σ ix D N n os u):=by
  obtain⟨e,cl⟩|e:=L
  .subst e;exact zU a a.zh Qy (λ_ _ q _=>q) (AW a ix) inner (λi H2 s=>go i H2 (a.zh.trans s)) (λi Z2 H2 y H' s=>l i Z2 H2 y H' (a.zh.trans s)) (λH2 s=>j H2 (a.zh.trans s)) hlen (.inr cl)
  .subst e;exact zU a Qy a.zh a.tp (GC a ix) inner go l j hlen Qac
 exact zT sc G I M st hf lp λD C s' H' m io B ch ci ⟨Z',z,F,O⟩=>k D C s' H' Z' m io B ch ci (x.trans z) (k1.trans F) O
def v9(sc:QdK)(I:Qbe):closureFor scope X.env=pure QbK:=
 nA λy a e=>I.ok.has y.1 (sc.frees y a e).2
def GO(sc:QdK)(j:QaA)(h:Qfq)(l:(δc=GB δ1 ix/\∀d∈ds,(g d).clean=true)\/δc=CG δ1 ix)(inner:Qgn)(hlen:QbM)
  (hs:Qcc:=by intro _;rfl):cY X CL b QdD δ (.lst ((ds.filter p).map g)) δ1:=λH Z σ ts vs Q S k pins s I=>by
 obtain⟨t,pi,hw⟩:=h;refine Nd rfl hs (v9 sc I) sc.kind sc.names ?_;refine fX (pi pins s σ H _ I (hw H Z σ ts vs _ S λJ H1 C=>C)) λv s1 h1=>fX h1 λf s2 zz=>?_;obtain⟨it,fp,tn,J,H1,e,r,o,st,hf,C⟩:=zz;subst e;refine Lq sc j C r o st hf l inner hlen λD w s' H' Z' m io u ch ci a c q=>?_;obtain⟨m,i⟩:=m;exact⟨m,i,λh' n=>⟨.ref D,H',ci h' n,rfl,k _ H' Z' a c q⟩⟩
variable{y:Str}
def aiB{D:gi}{py K:Pos}(i:Nat)(sc:QdK)(hc:QaA)(h:Qfq)(n:(δc=GB δ1 ix/\∀d∈ds,(g d).clean=true)\/δc=CG δ1 ix)(inner:Qgn)(hlen:QbM)
  (k:D.nx (δ1.set i Qly)) (Y:Qbm) (hN:Qa9) (hi:X.N[i]? = some y) (V:Loc X.env.scope y) (l:AM X y)
  (CF:swapsWith QdD (some QfL) K.line X.env=pure true)
  (hs:Qcc:=by intro _;rfl):Ut X CL b (.Assign [.Name y py] QdD K) δ D:=λH Z σ ts vs E S M pins s I=>by
 obtain⟨wi,pi,hw⟩:=h;rw[exec_Assign_Name_used _ _ _ _ CF];refine fF (MW (fF ?_));show wpAny _ X.A (do let _ ← comprehension QdD scope X.env _ Qf4 false (eval iter X.env) (some QjP)) _ _ s;refine fF (o3 (Nd (use:=some QjP) (Q:=λ_ s'=>SP X pins E .next s') rfl hs (v9 sc I) sc.kind sc.names ?_) (λ_ s' c=>oa (oa c)) λ_ _ e=>e);refine fX (pi pins s σ H _ I (hw H Z σ ts vs (λJ H1=>UB X CL b δ1 σ ts vs Z H ds J H1) S λJ H1 C=>C)) λv s1 h1=>fX h1 λU s2 zz=>?_;obtain⟨it,fp,tn,J,H1,e,I1,Tn,st,hf,C⟩:=zz;subst e;refine Lq (RR:=λacc C=>compPost Qr X.A X.xe (some QjP) Qlz acc C) sc hc C I1 Tn st hf n inner hlen λD' f s' H' Z' m io T ch ci P k' S'=>?_;obtain⟨m,W⟩:=m;obtain⟨o,F,R⟩:=io;have L:L2.Inv X pins σ H' s':=ci s'.heap (.refl ..);have I2:L2.Inv X (pins++[(f,o)]) σ H' s':=L.x6 λq c=>by
  obtain z|z:=f9.1 c
  .exact L.pin q (j9 _ z)
  .have e:q=(f,o):=by simpa using z
   subst e;exact⟨F,T,ch.1,ch.2.1,R⟩
 show wpAny _ X.A (assign QfL X.env QdY) _ _ s';have hg:PG X QfL (K7 i):=uf hN hi V l;refine fX (hg _ s' σ H' QdY QdY (λa O=>a=σ.set i Qid/\O=H') I2 rfl ⟨rfl,rfl⟩) λ_ B zz=>?_;obtain⟨a,O,u,e8,t⟩:=zz;subst e8;subst t;obtain⟨r,j,_⟩:=u.pin (f,o) (j9 _ (j9 _ WA));refine⟨m,W.at' λo' G=>by rw[F]at G;cases G;exact r,λh' ZM=>?_⟩;have I9:L2.Inv X pins (σ.set i Qid) _ B:=u.x6 λq c=>u.pin q (j9 _ (nv _ c));have x:=I9.turned (it:=f) (h':=h') (t':=B.toks) (λb o n e=>(ZM.2 b n).trans e) j ch.1.symm.symm (.inr ch.2.2.1) ch.2.2.2.1 ch.2.2.2.2;exact⟨_,_,x,M.nx _ _ _ Z' P (S'.set Y) k⟩
variable{pos':Pos}
def an6{D:gi}(c:Gx X)(n:QbJ)(sc:QdK)(h:Qfq)
  (f:(δc=GB δ1 ix/\∀d∈ds,(g d).clean=true)\/δc=CG δ1 ix) (inner:Qgn) (hlen:QbM) (k:dW X CL b fU (δ1.set i Qly) D) (e:Qbm)
  (a:swapsWith Qiq Qfg pos.line X.env=pure true\/swapsWith Qiq Qfg pos.line X.env=pure false) (hs:Qcc:=by intro _;rfl) :
  dW X CL b (.Assign [.Name x pos'] Qiq pos::fU) δ D:=by
 obtain a|a:=a
 .exact cH (aiB i sc c.calm h f inner hlen k e c.nd n.hi n.loc n.hf a hs)
 .exact cH (Ux i (GO sc c.calm h f inner hlen hs) k e c.nd n.hi n.loc a n.hf)
noncomputable def Ya(scope:Scope)(xs a:At):Bool:=
 scope.kind == .function&&xs.all (λy=>scope.names.lookup y==some .local)&&a.all Qk7&&decide ((xs++a).Nodup) &&
  scope.names.all λy=>y.2 != .cell&&(y.2 != .local || scope.names.lookup y.1==some .local)&&(y.2 != .free || QkY)
theorem aiC{d:At}(c:L9 X ix d)(ok:Ya scope xs d=true):ur X scope xs (xs++d) ix:=by
 unfold Ya at ok;simp only[oD,w1,FC,wx]at ok;obtain⟨⟨⟨⟨h1,h2⟩,h⟩,g⟩,b⟩:=ok;have j:∀y∈d,X.env.kindOf y=some .cell\/X.env.kindOf y=some .free:=by
  clear h g b
  induction c with
  | nil=>intro y a;cases a
  | cons n k r f=>
   intro y a;obtain e|a:=eu.1 a
   .subst e;exact k
   simp_all
 refine⟨h1,λy a e=>?_,g,λy a e=>?_,h2,λy a e=>?_,?_,λi hi=>?_⟩
 .have:=(b y a).1.1;rw[e]at this;simp at this
 .have:=(b y a).1.2;rw[e]at this;simpa using this
 .have:=(b y a).2;simp_all
 .congr 1;clear h g b j
  induction c with
  | nil=>rfl
  | cons n k r f=>rw[rl,n.hi,← f]
 .clear g b j
  induction c with
  | nil=>cases hi
  | @cons l y ix ys n k r f=>
   obtain e|hi:=eu.1 hi
   .subst e;exact⟨y,n.hi,h y eU⟩
   .exact f (λz hz=>h z QcF) hi
variable{C:Addr}
def UG(h1:Nc[i]? = some x)(h2:QgQ)(hd:AD x:=by decide)(kL:AE x:=by decide):Ln Qbb i x:=
 ⟨adI h1 h2 hd kL,.inl (ME h2),.inr (ME h2)⟩
def Ite(K:Frag)(a:Addr):It:=
 ⟨λi H=>∃xs x,oG K H a xs/\xs[i]? = some x,λi H x H'=>∃T y,H T=none/\x=.ref T/\(∀xs,oG K H a xs->xs[i]? = some y)/\H'=upd H T (.tup [.int i,y]),λi H=>∃xs,oG K H a xs/\xs.length<=i⟩
variable{elts:Cc}{kk:Nat}{pt:Pos}
theorem ZP(a e it:Addr)(S:e≠it):Turn P w K QhD (Ite K a) [e,it] e (λi h=>(∃old,PySem.IsEnum h e it i old)/\h.IsListIter it a i) where
 mem:=by simp
 obj:=λi h st b g=>by
  obtain⟨⟨old,he⟩,hit⟩:=st;obtain z|z:=eu.1 g
  .subst z;exact⟨_,he,λv z=>by
    have T:Data.fields _=Data.cell v:=z;cases T⟩
  .have z:b=it:=by simpa using z
   subst z;obtain⟨o,e,c,d⟩:=hit;exact⟨o,e,λv z=>by rw[d]at z;cases z⟩
 keep:=λi h h' st k=>by
  obtain⟨⟨old,he⟩,hit⟩:=st;exact⟨⟨old,k e WA _ he⟩,hit.at λo q=>k it WA o q⟩
 item:=by
  intro X N hw O f i pins s σ H E I hf st G;subst N hw O;obtain⟨xs,x,A,D⟩:=G;obtain⟨its,C,p,hz⟩:=I.list A;obtain⟨u,W,U⟩:=C.get D;obtain⟨⟨old,he⟩,hit⟩:=st;have t:=hf e WA;have fi:=hf it WA;have l:H s.heap.objs.size=none:=I.fC.fresh (iP _);have B:=I.JM (iP s.heap.objs.size) l;refine PySem.wpAny_pyNext_enum_item he hit p.isList (x:=u) (by simpa using W) S λh' F R Z hsz Y=>⟨_,rfl,?_⟩;refine PySem.wpAny_letOwnedTupleGo_enum F λh2 J y=>?_;replace y:Heap.SameBut e h' h2:=y;have eT:e<s.heap.objs.size:=nz he;have keep:∀b o,b≠e->b≠it->s.heap.get? b=some o->h2.get? b=some o:=λb o h1 h3 q=>(y.2 b h1).trans (Y b o h1 h3 q);have M:h2.get? s.heap.objs.size=some {cls:=.type "tuple",data:=.seq #[.int i s.toks,u]}:=(y.2 _ (Nat.ne_of_gt eT)).trans Z;have j:∀b o,H b=some o->b≠e/\b≠it/\b≠s.heap.objs.size:=λb o q=>⟨λz=>(by rw[z,t.1]at q;cases q),λz=>(by rw[z,fi.1]at q;cases q),λz=>(by rw[z,l]at q;cases q)⟩;have I':L2.Inv X pins σ (upd H s.heap.objs.size (.tup [.int i,x])) {s with heap:=h2,toks:=s.toks+1}:=by
   refine I.step (g':=s.gens) (d':=s.drawn) (ch:=[e,it,s.heap.objs.size]) (λb g=>?_) (λb o _ _ f q _=>?_) (λb o _ _ f q _=>⟨o.slots,?_⟩) (λb o f q n=>?_) (λb o f q=>⟨o,?_⟩) (λb ys q=>?_) (λb o u q=>?_) (λb ps q=>⟨#[],?_⟩) (λm hm=>?_) (λb o q=>?_) I.bare
   .obtain z|g:=eu.1 g
    .subst z;exact⟨t.2.2.2.1,t.2.1,t.2.2.2.2.1,t.2.2.2.2.2⟩
    .obtain z|g:=eu.1 g
     .subst z;exact⟨fi.2.2.2.1,fi.2.1,fi.2.2.2.2.1,fi.2.2.2.2.2⟩
     .have z:b=s.heap.objs.size:=by simpa using g
      subst z;exact⟨B.2.2.2.1,B.2.1,B.2.2.2.2.1,B.2.2.2.2.2⟩
   .exact keep b o (λz=>f (by simp[z])) (λz=>f (by simp[z])) q
   .exact keep b o (λz=>f (by simp[z])) (λz=>f (by simp[z])) q
   .rw[az (λz=>f (by simp[z]))];exact n
   .exact keep b o (λz=>f (by simp[z])) (λz=>f (by simp[z])) q
   .rw[az (j b _ q).2.2];exact q
   .rw[az (j b _ q).2.2];exact q
   .rw[az (j b _ q).2.2,q];simp
   .obtain⟨o,es,ep,F,r⟩:=hm;exact⟨o,es,ep,keep _ o (qs t.2.1) (qs fi.2.1) F,r⟩
   .by_cases g:b=s.heap.objs.size
    .subst g;rw[bD]at q;cases q;exact⟨p7 (dG Qa7),[.int i s.toks,u],.cons ⟨s.toks,rfl⟩ (.cons U .nil),⟨_,M,rfl,_,rfl⟩⟩
    .rw[az g]at q;refine(I.fC b o q).AH (λc v f z=>keep c v ?_ ?_ z) (λc z=>by rw[az (j c _ z).2.2];exact z) (λc ys z=>by rw[az (j c _ z).2.2];exact z) λc ys z=>by rw[az (j c _ z).2.2];exact z
     .obtain z|z:=f
      .rw[z];exact(j b _ q).1
      .exact(j c _ z).1
     .obtain z|z:=f
      .rw[z];exact(j b _ q).2.1
      .exact(j c _ z).2.1
  have ei:((i+1:Nat):Int)=(i:Int)+1:=by lia
  refine⟨.ref s.heap.objs.size,_,I',rfl,⟨_,x,l,rfl,λys V=>by rw[I.Gi V A];exact D,rfl⟩,⟨⟨u,by rw[ei];exact J⟩,R.at λo q=>(y.2 it (qs S)).trans q⟩,λb g=>?_⟩;have L:=hf b g;obtain⟨o,Ze,_⟩:∃o,s.heap.get? b=some o/\True:=by
   obtain z|z:=eu.1 g
   .subst z;exact⟨_,he,trivial⟩
   .have z:b=it:=by simpa using z
    subst z;obtain⟨o,q,_⟩:=hit;exact⟨o,q,trivial⟩
  rw[az (oI (nz Ze))];exact L.1
 done:=by
  intro X N hw O f i pins s σ H E I hf st G;subst N hw O;obtain⟨xs,A,D⟩:=G;obtain⟨its,C,p,hz⟩:=I.list A;obtain⟨⟨old,he⟩,hit⟩:=st;obtain⟨f0,f1,f2,f3,f4,f5⟩:=hf it WA;have hl:=C.length;exact PySem.wpAny_pyNext_enum_end (I.ok.hd f) he hit p.isList WF λh' eb=>⟨rfl,I.turned (t':=s.toks) (λb o g e=>eb b o g e) f0 f1 f3 f4 f5⟩
 self:=λ_ _ _ _ _ st h=>by
  obtain⟨⟨old,he⟩,_⟩:=st;exact PySem.wpAny_pyIter_enum he h
def asD(K:Frag)(ta:TA):TI:=λσ H R=>ta σ H λvs H1=>∃a xs,vs=[.ref a]/\oG K H1 a xs/\R (Ite K a) H1
theorem aiD{a:Expr}{ta:TA}{p:Pos}(k:Gl X "enumerate")(hm:Qj4)(n:PA X [a] ta)(hs:AC X a []):PI X QhD (.Call (.Name "enumerate" p) [a] [] pos) (asD X.K ta):=by
 intro pins s σ H R I h;refine Call_ (qp I k hm boot_enumerate (EG (fX Qjk λus s1 zz=>?_) hs rfl));obtain⟨vs,H1,c,f,g⟩:=zz;obtain⟨l,xs,e,i,q⟩:=g;subst e;cases f with
 | cons r d=>
  cases d;cases r;obtain⟨its,t,p,hz⟩:=c.list i;refine PySem.call_enumerate_list p.isList λh' he hit hsz j=>?_;have o:=c.kept (t':=s1.toks) j;refine PySem.wpAny_pyIter_enum he ?_;refine⟨ _,_,_,_,H1,rfl,o,ZP l _ _ (Nat.succ_ne_self _),⟨⟨_,he⟩,hit⟩,λb m=>?_,q⟩;obtain z|z:=eu.1 m
  .subst z;exact c.JM (tI _) (c.fC.fresh (tI _))
  .have z:=by simpa using z
   subst z;exact c.JM (iP _) Qhz
noncomputable def GP(ds:BB):BB:=(List.range ds.length).map λ(i:Nat)=>.tup [.int i,ds.getD i .non]
def Lr(ds:BB):(GP ds).length=ds.length:=by simp[GP]
def ZQ{ds:BB}{d:D}(h:ds[i]? = some d):(GP ds)[i]? = some (.tup [.int i,d]):=by
 have hi:=(pd.1 h).1;unfold GP;rw[o2,uh hi];show some (D.tup _)=_;rw[ox,h];rfl
variable{ds:BB}
theorem aiE(hm:Qj4)(h:QgI)(q:Gl X "enumerate")(hs:Qad:=by exact bC rfl):yY X CL b QhD Qlf δ (GP ds) δ1:=by
 refine⟨_,aiD q hm Qay hs,λH Z σ ts vs R S k=>h H Z σ ts vs _ S λv H1 Z1 m k1 g=>?_⟩;obtain⟨fp,gp,_,r,_,_⟩:=g.rep;cases r with
 | cons r _=>
  replace r:=r.MB;obtain⟨rfl,r⟩:=r;obtain⟨a,us,rfl,c,j⟩:=r.g6;have p:=j.length;refine⟨a,us,rfl,g.zh.seq c,k _ _ ⟨Z1,m,k1,g.pop,λi H2 s hi=>?_,λi Z2 H2 x H' s1 s2 tp hi n=>?_,λH2 s=>?_⟩⟩
  .rw[Lr]at hi;have f:i<us.length:=p▸hi;exact⟨us,_,s.seq c,pv f⟩
  .obtain⟨T,y,t,rfl,o,rfl⟩:=n;obtain⟨d,hd,rd⟩:=j.Zz (o us ((s1.trans s2).seq c));have l:=M4.tup (xs:=[.int i,y]) s2 tp t;exact⟨_,_,ZQ hd,l,.tup (AG.of bD) (.cons QbE (.cons ((rd.mono s1).mono l.z) .nil))⟩
  .rw[Lr];exact⟨us,s.seq c,by simp_all ⟩
noncomputable def insI(x:Int):AT->AT
 | []=>[x]
 | y::l=>if x<=y then x::y::l else y::insI x l
def sortI:AT->AT
 | []=>[]
 | x::l=>insI x (sortI l)
theorem insI_perm(x:Int):∀l,(insI x l).Perm (x::l)
 | []=>.refl _
 | y::l=>by
  rw[insI];split
  .exact .refl _
  .exact((insI_perm x l).cons y).trans (.swap x y l)
theorem sortI_perm:∀l,(sortI l).Perm l
 | []=>.refl _
 | x::l=>(insI_perm x _).trans ((sortI_perm l).cons x)
def qh{x:Int}:x∈sortI l↔x∈l:=(sortI_perm l).mem_iff
def qi(l:AT):(sortI l).length=l.length:=(sortI_perm l).length_eq
theorem Em(x:Int):∀{l:AT},l.Pairwise (· <= ·)->(insI x l).Pairwise (· <= ·)
 | [],_=>wz _ _
 | y::l,h=>by
  rw[insI];obtain⟨h1,h2⟩:=o8.1 h;split
  .rename_i e;refine o8.2 ⟨λz hz=>?_,h⟩;obtain rfl|hz:=eu.1 hz
   .exact e
   .exact Int.le_trans e (h1 z hz)
  .refine o8.2 ⟨λz hz=>?_,Em x h2⟩;obtain rfl|hz:=eu.1 ((insI_perm x l).mem_iff.1 hz)
   .lia
   simp_all
theorem pL:∀l,(sortI l).Pairwise (· <= ·)
 | []=>.nil
 | x::l=>Em x (pL l)
theorem En:∀{a b:AT},a.Perm b->a.Pairwise (· <= ·)->b.Pairwise (· <= ·)->a=b
 | [],b,p,_,_=>(List.nil_perm.1 p).symm
 | x::a,[],p,_,_=>absurd p.length_eq WA
 | x::a,y::b,p,d,c=>by
  obtain⟨a1,a2⟩:=o8.1 d;obtain⟨b1,b2⟩:=o8.1 c;have e:x=y:=by
   have h1:=p.mem_iff.1 eU;have h2:=p.mem_iff.2 eU;obtain e|h1:=eu.1 h1
   .exact e
   .obtain e|h2:=eu.1 h2
    .exact e.symm
    .exact Int.le_antisymm (a1 y h2) (b1 x h1)
  subst e;rw[En (List.Perm.cons_inv p) a2 b2]
def A6{z:AT}(p:z.Perm l)(s:z.Pairwise (· <= ·)):z=sortI l:=En (p.trans (sortI_perm l).symm) s (pL l)
def adW(s:l.Pairwise (· <= ·)):sortI l=l:=(A6 Qy s).symm
theorem uv:∀{us:B2} {ns:AT},IntsAre us ns->Vals Qb1 us
 | _,_,.nil=>.nil
 | _,_,.cons n t r=>.cons ⟨t,rfl⟩ (uv r)
theorem M5:qq X Qhx (λxs H Q=>∃p ns,xs=[.ref p]/\oG X.K H p (ns.map .int)/\ns.length<64/\∀l,H l=none->Q (.ref l) (upd H l (.lst ((sortI ns).map .int)))):=by
 intro pins s σ H xs us Q I r h;obtain⟨p,ns,rfl,d,f,q⟩:=h;obtain⟨u,rfl,b⟩:=vals1 r;cases b;obtain⟨its,a,pl,hz⟩:=I.list d;have hlen:=a.length;rw[dm]at hlen;refine sorted_ints pl.isList (intsAre_of a) We λout c a1 a2 a3=>?_;obtain⟨e,he⟩:=sortedAll_at _ its out;have e2:=A6 a2 a3;subst e2;refine⟨.ref _,_,I.laid (λ_ _=>sortedAll_old) (tI _) (show gQ _ X.w _ _ _ QdB from⟨?_,_,e,uv a1,?_⟩),rfl,q _ Qj0⟩
 .rw[dm,qi];simp_all
 omega
def uw:bootBuiltins "sorted" = some Qhx:=by decide +kernel
theorem yj(h:aG K CL Z (l.map D.int) us):us=l.map V.int:=by
 refine aG.ind (P:=λds us=>∀l,ds=l.map D.int->us=l.map V.int) ?_ ?_ h l rfl
 .simp_all
 .intro d v ds vs r _ i l e;cases l with
  | nil=>cases e
  | cons a l=>
   injection e with e1 e2;subst e1;rw[i l e2];cases r;rfl
theorem ints_rep{K:Frag}{Z:Hp}:∀(l:AT),aG K CL Z (l.map D.int) (l.map V.int)
 | []=>.nil
 | _::l=>.cons QbE (ints_rep l)
def ux(hm:QhR)(h:QiT)(j:l.length<64)(m:Gl X "sorted")(hs:Qad:=by exact bC rfl):cY X CL b (.Call Qj5 [e] [] pos) δ (.lst (((sortI l).map D.int).map T.sh)) δ1:=λH Z σ ts vs Q S k=>
 cK (nU M5 m hm uw Qay (he:=hs)) (h H Z σ ts vs _ S λv H1 Z1 d k1 o r=>by
  obtain⟨a,us,rfl,g,f⟩:=r.g6;have:=yj f;subst this;refine⟨a,l,rfl,g,j,λp i=>?_⟩;obtain⟨c,n⟩:=(bH.pF (ints_rep _) o).kN (g0:=[]) WA i;exact k _ _ _ d Qcu n)
def ZR(j:QaA):qq X (.builtin "sum") (λxs H Q=>∃(p:Addr) (ns:AT),xs=[.ref p]/\oG X.K H p Qb1/\Q (.int ns.sum) H):=by
 intro pins s σ H xs us Q I r h;obtain⟨p,ns,rfl,g,q⟩:=h;obtain⟨u,rfl,d⟩:=vals1 r;cases d;obtain⟨its,f,pl,hz⟩:=I.list g;have hi:=intsAre_of f;obtain⟨xs,a⟩:=hi.allInts.items;have b:=hi.numsOf;have c:=pl.isList;rw[a]at c;refine sum_intListG (I.ok.hd j) c λh' tk t' i=>⟨ _,H,I.kept i,?_,q⟩;refine⟨t',?_⟩;have e:its=(intItems xs).toList:=by rw[← a]
 rw[e,nums_intItems]at b;rw[preSum_eq,List.take_of_length_le WA,b]
def ZS:bootBuiltins "sum" = some (.builtin "sum"):=by decide +kernel
def aiF(g:Gx X)(hm:X.mg "sum" = none)(h:QiT)(i:Gl X "sum")(hs:Qad:=by exact bC rfl):cY X CL b (.Call (.Name "sum" pp) [e] [] pos) δ (.sh (.int l.sum)) δ1:=λH Z σ ts vs Q S k=>
 cK (nU (ZR g.calm) i hm ZS Qay (he:=hs)) (h H Z σ ts vs _ S λv H1 Z1 c k1 j r=>by
  obtain⟨a,us,rfl,f,d⟩:=r.g6;have:=yj d;subst this;exact⟨a,l,rfl,f,k _ H1 Z1 c k1 (j.push QbE)⟩)
def UH:typeLookup (.type "list_reverseiterator") "__len__" = pure none:=by kernel_rfl
def adX:typeLookup (.type "list_reverseiterator") "__length_hint__" = pure (some (.builtin "list_reverseiterator.__length_hint__")):=by kernel_rfl
def adY{l:Addr}{i:Int}{Q:Bool->Shared->Prop}(e:s.heap.IsRevIter it l i)(h:Q false s):wpAny Qaa A (Builtin.List.listLengthHint QbD) Q E s:=by
 unfold Builtin.List.listLengthHint;refine fF (wpAny_specialOf e.typeIs UH ?_);refine fF (wpAny_specialOf e.typeIs adX ?_);generalize a:("list_reverseiterator.__length_hint__":String)=d
 wp_delta
 rw[show splitId d=some ("list_reverseiterator","__length_hint__") from by subst a;decide +kernel];subst a;refine fF (wpAny_isInstance (T:="list_reverseiterator") (b:=true) e.typeIs (by rw[isSubtype_type];kernel_rfl) ?_);refine wpAny_ite_split (λc=>absurd c Wp) (λ_=>?_);refine wpAny_ite_split (λ_=>?_) (λc=>absurd Wl c);refine wpAny_ite_split (λc=>absurd c Wl) (λ_=>?_);exact oa h
variable{items:CO}
theorem UI{l:Addr}(E:QeP)(n:Qiu)(D:QjU)(C:l≠it)(hlen:Qkf)(S:Addr)(res:Value)(c₀:Nat)
  (y:s.heap.get? S=some {cls:=.type "list",data:=.seq #[] c₀}) (d:S≠it) (k:S≠l)
  (G:∀h' tk m g,(∀b o,b≠S->b≠it->s.heap.get? b=some o->h'.get? b=some o)->h'.get? S=some {cls:=.type "list",dict:=none,data:=.seq m g,slots:=#[]} →
   ItemsOf (λi v=>items[items.size-1-i]? = some v) m items.size->R (.ok (.ret res)) {s with heap:=h',toks:=tk}) :
  wpAny Qaa A.in1 (Builtin.List.listExtendWith (.ref S) QbD res)
   (λfin s'=>match fin with | .done f=>R (.ok f) s' | .again g=>g.quiet=true/\codeAny (model prog w) A g R s') (λe s'=>R (.error e) s') s:=by
 have W:=(Walks.listRev (prog:=prog) (w:=w) (A:=A.in1) E it l C items).toS;have u:S∉[it,l]:=λh=>by
  obtain e|h:=eu.1 h
  .exact d e
  .exact k (n4.1 h)
 have e0:(items.size:Int)-1=(items.size:Int)-1-((0:Nat):Int):=by lia
 have key:∀(h:Heap) (c₁ tk:Nat),(∀b o,b≠S->s.heap.get? b=some o->h.get? b=some o) →
   h.get? S=some {cls:=.type "list",data:=.seq #[] c₁}->codeAny Qaa A (.builtin "list.extend.loop" ⟨[.ref S,.ref it,res],[]⟩) R {s with heap:=h,toks:=tk}:=by
  intro h c₁ tk r c;have hit:h.IsRevIter it l ((items.size:Int)-1-((0:Nat):Int)):=e0▸n.at λo q=>r it o (qs d) q;have p:h.IsList l items:=D.at λo q=>r l o (qs k) q;refine codeAny_extend_loopS W hlen S u res items.size 0 _ #[] c₁ rfl (nZ _) ⟨nZ _,hit,p⟩ c (ItemsOf.nil _) λs' m g hm x J=>?_;rw[Moved.eq_with hm];refine G s'.heap s'.toks m g (λb o j t e=>hm.heap b o (λz=>?_) (r b o j e)) x J;obtain I|z:=eu.1 z
  .exact j I
  .exact t (n4.1 z)
 unfold Builtin.List.listExtendWith;refine fF (wpAny_typeOf (T:="list_reverseiterator") n.typeIs ?_);have h1:Builtin.List.listSameRef (.ref S) QbD=false:=by simp[Builtin.List.listSameRef,d]
 have h2:(Value.type "list_reverseiterator" == Value.type "list")=false:=by decide
 have H:(Value.type "list_reverseiterator" == Value.type "tuple")=false:=by decide
 simp only[h1,h2,H,Bool.or_false,tw,ti];refine fF (wpAny_pyIter_revIter n ?_);refine fF (w8 (adY n ?_));refine wpAny_ite_split (λ_=>?_) (λ_=>oa ⟨plainId_quiet F.plain_extend_loop _,key _ c₀ _ (λb o _ e=>e) y⟩);refine fF (wpAny_rule ?_);refine fF ?_;show wpAny _ _ (updateSeq S (·.push .none) >>= λ_=>updateSeq S (·.pop)) _ _ _;refine fF (wpAny_updateSeq y rfl ?_);have B:=MM (Obj.mapSeq (·.push Value.none)) y rfl;refine wpAny_updateSeq (hz:=by seq_fits) B rfl ?_;have a:=MM (Obj.mapSeq (·.pop)) B rfl;refine oa ⟨plainId_quiet F.plain_extend_loop _,key _ _ _ (λb o j e=>?_) a⟩;exact(JH _ _ (qs j)).trans ((JH _ _ (qs j)).trans e)
def JW{l:Addr}(u:QeP)(p:Qiu)(r:QjU)(n:l≠it)(hlen:Qkf)(S:Addr)
  (m:s.heap.get? S=some {cls:=.type "list",data:=.seq #[]}) (d:S≠it) (c:S≠l)
  (x:∀h' tk g a,(∀b o,b≠S->b≠it->s.heap.get? b=some o->h'.get? b=some o)->h'.get? S=some {cls:=.type "list",dict:=none,data:=.seq g a,slots:=#[]} →
   ItemsOf (λi v=>items[items.size-1-i]? = some v) g items.size->R (.ok (.ret .none)) {s with heap:=h',toks:=tk}) :
  wpAny Qaa A.in1 (Builtin.«list.__init__» ⟨[.ref S,.ref it],[]⟩)
   (λfin s'=>match fin with | .done f=>R (.ok f) s' | .again a=>a.quiet=true/\codeAny (model prog w) A a R s') (λe s'=>R (.error e) s') s:=by
 refine fF ?_;unfold Builtin.List.listItems;refine fF (wpAny_seqItems m rfl (oa ?_));refine fF (wpAny_updateSeq m rfl ?_);have y:=MM (Obj.mapSeq (λ_=>(#[]:CO))) m rfl;have XS:∀b o,b≠S->s.heap.get? b=some o->(s.heap.update S (Obj.mapSeq (λ_=>(#[]:CO)))).get? b=some o:=
  λb o h e=>(JH _ _ (qs h)).trans e
 refine fF (wpAny_letGo ?_);refine UI u (p.at λo q=>XS it o (qs d) q) (r.at λo q=>XS l o (qs c) q) n hlen S .none _ y d c λh' tk g a t k z=>?_;exact x h' tk g a (λb o h j e=>t b o h j (XS b o h e)) k z
def JX{Q:BS}{l:Addr}(r:QeP)(h:Qiu)(j:QjU)(m:l≠it)(hlen:Qkf)
  (hQ:∀h' tk d g,(∀b o,b≠it->s.heap.get? b=some o->h'.get? b=some o) →
   h'.get? s.heap.objs.size=some {cls:=.type "list",dict:=none,data:=.seq d g,slots:=#[]}->ItemsOf (λi v=>items[items.size-1-i]? = some v) d items.size->Q Qeq {s with heap:=h',toks:=tk}) :
  wpAny Qaa A (call QeL [.ref it]) Q E s:=by
 refine callType_codes (Q₁:=λobj a=>obj=.ref s.heap.objs.size/\a={s with heap:=s.heap.push _}) F.called_list (F.typeCall_list_1 _) F.entry_list_init
  (code_list_new _ ⟨rfl,rfl⟩) λobj a c=>?_
 obtain⟨rfl,rfl⟩:=c;have k:(s.heap.push _).get? s.heap.objs.size=some {cls:=.type "list",data:=.seq #[]}:=pk _ rfl;have hit:it<s.heap.objs.size:=by obtain⟨o,e,_⟩:=h;exact nz e
 have n:l<s.heap.objs.size:=by obtain⟨o,e,_⟩:=j;exact nz e
 refine⟨⟨_,k,rfl⟩,F.args_list_init_2 _ _,JW (A:=A.in1) r (h.at λo q=>ot _ q) (j.at λo q=>ot _ q) m hlen _ k (Nat.ne_of_gt hit) (Nat.ne_of_gt n) λh' tk d g p f u=>?_⟩;exact⟨rfl,hQ h' tk d g (λb o t e=>p b o Qf9 t (ot _ e)) f u⟩
theorem ZT{acc:CO}(h:ItemsOf (λi v=>items[items.size-1-i]? = some v) acc items.size):acc.toList=items.toList.reverse:=by
 obtain⟨h1,h2⟩:=h;apply FF;intro j;by_cases a:j<items.size
 .rw[List.getElem?_reverse (‹_›)];simp_all
 simp_all
theorem Vals.rev:∀{xs:BY} {us:B2},Vals xs us->Vals xs.reverse us.reverse
 | [],_,.nil=>.nil
 | _::_,_,.cons r a=>by
  rw[rh,rh];exact Vals.append (Vals.rev a) (.cons r .nil)
def tLR(K:Frag)(ta:TA):TE:=λσ H Q=>ta σ H λvs H1=>∃a xs,vs=[.ref a]/\oG K H1 a xs/\∀l,H1 l=none->Q (.ref l) (upd H1 l (.lst xs.reverse))
def UJ{x:Expr}{ta:TA}{p q:Pos}(C:QaA)(i:Qe8)(G:QeH)(g:Qh5)(d:QhC)(D:PA X [x] ta)(hs:AC X x [])
  (t:starEach [.Call Qhr [x] [] pq] X.env=(false,eval (.Call Qhr [x] [] pq) X.env)::starEach [] X.env):PE X (.Call (.Name "list" p) [.Call Qhr [x] [] pq] [] pos) (tLR X.K ta):=by
 intro pins s σ H Q I h;refine x4 (qp I i G bS ?_ Wp Wp);refine EG ?_ t rfl;rw[t];show wpAny _ _ (spliced ((false,eval (.Call Qhr [x] [] pq) X.env)::backTo pos QcX)) _ _ s;refine Calls.spliced_cons ?_;refine Call_ (qp I g d boot_reversed (EG (fX (D pq pins s σ H _ I h) λus s1 zz=>?_) hs rfl));obtain⟨vs,H1,a,y,z⟩:=zz;obtain⟨l,xs,e,A,q⟩:=z;subst e;cases y with
 | cons r v=>
  cases v;cases r;obtain⟨its,m,p,hz⟩:=a.list A;have f:=m.length;refine PySem.call_reversed_list p.isList ?_;refine Calls.spliced_nil ?_;have E:l<s1.heap.objs.size:=by obtain⟨o,e,_⟩:=p.isList;exact nz e
  have st:PySem.Heap.IsRevIter (s1.heap.push Qgr) s1.heap.objs.size l ((its.toArray.size:Int)-1):=⟨_,pk _ rfl,rfl,rfl⟩;refine JX (s:={s1 with heap:=s1.heap.push Qgr}) (a.ok.hd C) st (p.isList.at λo q=>ot _ q) (oI E) (by rw[ue,← f];exact hz) λh' tk c n B k J=>?_;have hsz:(s1.heap.push Qgr).objs.size=s1.heap.objs.size+1:=Heap.size_push ..;have j:h'.get? (s1.heap.objs.size+1)=some {cls:=.type "list",dict:=none,data:=.seq c n,slots:=#[]}:=hsz▸k;have F:c.toList=its.reverse:=by simpa using ZT J
  show EP X pins σ Q (.ref (s1.heap.push Qgr).objs.size) _;rw[hsz];refine⟨.ref (s1.heap.objs.size+1),_,a.laid (t':=tk) (λb u e=>B b u Qf9 (ot _ e)) (tI _) (show gQ X.prog X.w _ _ _ (.lst xs.reverse) from⟨by rw[x7];exact hz,its.reverse,n,Vals.rev m,?_⟩),rfl,q _ (a.fC.fresh (tI _))⟩;have e2:c=its.reverse.toArray:=by rw[← F]
  rw[← e2];exact j
variable{ds:BB}
theorem aG.rev{ds:BB}(r:QfU):aG K CL Z ds.reverse us.reverse:=by
 have go:∀{ds:BB} {us:BY} {es:BB} {ws:BY},aG K CL Z ds us->aG K CL Z es ws->aG K CL Z (ds.reverse++es) (us.reverse++ws):=by
  intro ds us es ws r
  induction ds generalizing us es ws with
  | nil=>cases r;simp_all
  | cons d ds c=>
   cases r with
   | cons b a=>
    intro q;rw[rh,rh,nr,nr];exact c a (.cons b q)
 simpa using go r .nil
def GQ(g:Gx X)(s:QeH)(a:QhC)(h:Qcl)(hi:QbX)(f:Qe8)(d:Qh5)(hs:Qad:=by exact bC rfl)
  (q:starEach [.Call QjC [e] [] pr] X.env=(false,eval (.Call QjC [e] [] pr) X.env)::starEach [] X.env:=by exact bC rfl):cY X CL b (.Call (.Name "list" pp) [.Call QjC [e] [] pr] [] pos) δ (.lst (ds.reverse.map T.sh)) δ1:=λH Z σ ts vs Q S k=>
 cK (UJ g.calm f s d a Qay hs q) (h H Z σ ts vs _ S λv H1 Z1 m k1 j r=>by
  obtain⟨_,_,rfl,n,i⟩:=r.g6;refine⟨_,_,rfl,n,λl o=>?_⟩;obtain⟨c,p⟩:=(bH.pF (aG.rev (aG.tF j.tp hi i)) j).kN (g0:=[]) (by simp[i.length]) o;exact k _ _ _ m Qcu p)
theorem jU{f:α->β}{l:QT}{d:β}(h:(l.map f)[j]? = some d):∃x,d=f x/\l[j]? = some x/\x∈l/\j<l.length/\l.drop j=x::l.drop QA/\l.take QA=l.take j++[x]:=by
 rw[o2]at h;cases a:l[j]? with
 | none=>rw[a]at h;cases h
 | some x=>
  rw[a]at h;cases h;have b:=(pd.1 a).1;have e:=(pd.1 a).2;exact⟨x,rfl,rfl,qz a,b,by rw[O3 b,e],by rw[x3,a];rfl⟩
noncomputable def D.ub:L3.D->L3.D
 | .tup (a::_)=>a
 | d=>d
noncomputable def D.at2:L3.D->L3.D
 | .tup (_::a::_)=>a
 | d=>d
def ZU(f:α->L3.D)(z:α)(l:QT):GP Qdu=(List.range l.length).map λ(i:Nat)=>L3.D.tup [.int i,f (l.getD i z)]:=by
 unfold GP;rw[dm];apply tH;intro i hi;have hi:=rb.1 hi;have:(l.map f).getD i .non=f (l.getD i z):=by
  rw[ox,ox,o2,pv hi];rfl
 rw[this]
def Rh{f:α->L3.D}{l:QT}(z:α)(hm:Qj4)(h:cY X CL b e δ (.sh (.lst Qdu)) δ1)(a:Gl X "enumerate")(hs:Qad:=by exact bC rfl) :
  yY X CL b QhD Qlf δ ((List.range l.length).map λ(i:Nat)=>L3.D.tup [.int i,f (l.getD i z)]) δ1:=by
 have:=aiE (elts:=elts) (kk:=kk) (pt:=pt) (pr:=pr) (pc:=pc) hm h a hs
 rwa [ZU f z l]at this
theorem Eo:∀(l r:AT),PyData.eqvAll (D.v7 (l.map L3.D.int)) (D.v7 (r.map L3.D.int))=decide (l=r)
 | [],[]=>rfl
 | [],_::_=>rfl
 | _::_,[]=>rfl
 | x::l,y::r=>by
  rw[og,og,D.v7,D.v7,PyData.eqvAll,Eo l r,D.toPy,D.toPy,PyData.eqv];by_cases e:x=y
  .subst e;simp
  simp_all
def ad0(l r:AT):MS (.lst Qb2) (.lst (r.map .int))=decide (l=r):=by
 unfold MS;rw[D.toPy,D.toPy,PyData.eqv,Eo]
variable{ds:BB}
def asJ(K:Frag):R2:=λx y H Q=>∃l k xs,x=.ref l/\y=.int k/\oG K H l xs /\ -(2 ^ 63)<=k/\k<2 ^ 63/\xs.length*k.toNat<=sizeLine ∧
 ∀p,H p=none->Q Qdz (upd H p (.lst (List.replicate k.toNat xs).flatten))
theorem aiG:AJ X (binaryOp .Mult) (asJ X.K):=by
 intro pins s σ H x y v u Q I j i h;obtain⟨l,k,xs,rfl,rfl,p,h1,h2,hz,q⟩:=h;cases j;obtain⟨t,rfl⟩:=i;obtain⟨its,r,pl,_⟩:=I.list p;have B:=r.length;obtain⟨⟨C,dd,w,sl⟩,e,o,n,hd⟩:=pl.isList;cases o;cases hd;have hlen:its.toArray.size*k.toNat<=sizeLine:=by simp_all
 have c:¬ its.toArray.size*k.toNat > (2 ^ 63-1) / 8:=by
  have:(sizeLine:Nat)<=(2 ^ 63-1) / 8:=by decide
  lia
 have b:¬ (!Builtin.List.listFitsIndex k)=true:=by
  rw[fitsIndex_both h1 h2];grind
 have z:¬ Builtin.List.listTooLong (its.toArray.size*k.toNat)=true:=by
  rw[Gv hlen];grind
 have d:List.foldl (λg f=>g++f) #[] (List.replicate (if its.toArray.isEmpty=true then 0 else k.toNat) its.toArray)=(List.replicate k.toNat its).flatten.toArray:=by
  have f0:=λm=>by
   have:=foldl_rep its m [];rw[wA]at this;exact this
  rw[f0];cases its with
  | nil=>simp
  | cons a A=>rw[bF WA]
 refine wpAny_binaryOp_repeat_ref (T:="list") (U:="int") Wp ⟨_,e,rfl⟩ (λs'=>typeIs_int s' k t) noFill_list_mul F.fills_int_mul F.slot_int_rmul repeat_list F.slot_int_index.lookup
  (x2 F.slot_int_rmul (typeIs_int s k t) F.entry_int_rmul (F.args_int_rmul_2 _ _) (lm_int_rmul_list_any k t l its.toArray n dd sl)
   ⟨e,rfl,⟨_,e,rfl⟩,x2 F.slot_list_mul ⟨_,e,rfl⟩ F.entry_list_mul (F.args_list_mul_2 _ _) (lm_list_mul_any l its.toArray n dd sl k t b c z) ⟨e,?_⟩⟩)
 rw[d];exact⟨.ref _,_,I.YP (r.rep k.toNat) (by rw[len_rep,Nat.mul_comm];exact hz),rfl,q _ I.fresh⟩
theorem aG.rep{K:Frag}{Z:Hp}{ds:BB}{vs:BY}(r:QeK):∀k:Nat,aG K CL Z (List.replicate k ds).flatten (List.replicate k vs).flatten
 | 0=>.nil
 | k+1=>aG.app r (aG.rep r k)
theorem aiI(h1:Qi2)(h2:Qfn)(i1:QbX)(k1:-(2 ^ 63)<=k)(k2:k<2 ^ 63)(hz:ds.length*k.toNat<=sizeLine) :
  cY X CL b (.BinOp e1 .Mult e2 pos) δ (.lst ((List.replicate k.toNat ds).flatten.map T.sh)) δ2:=λH Z σ ts vs Q S kk=>
 cK (QN aiG dN dN) (h1 H Z σ ts vs _ S λv1 H1 Z1 i m q l=>h2 H1 Z1 σ ts vs _ q λv2 H2 Z2 h f g j=>by
  have d:=l.mono f;obtain⟨_,_,rfl,e,a⟩:=d.g6;cases j with
  | int=>
   refine⟨_,_,_,rfl,rfl,e,k1,k2,a.length▸hz,λp n=>?_⟩;have rc:=aG.rep (aG.tF g.tp i1 a) k.toNat;obtain⟨c,o⟩:=(bH.pF rc g).kN (g0:=[]) (by rw[dm,rc.length]) n;exact kk _ _ _ (i.trans h) (m.trans Qcv) o)
theorem aG.al7{K:Frag}{Z:Hp}:∀l:At,aG K CL Z (l.map .str) Qf1
 | []=>.nil
 | x::l=>.cons Qbj (aG.al7 l)
def GT(X:Cx)(x:Str)(l:At):Prop:=∃a,X.mg x=some Qaj/\∀H:Hp,AG X.K H a Qf1
def Rj{l:At}(hm:GT X x l)(c:Q3)(hd:AD x:=by decide):cY X CL b Qan δ (.sh (.tup (l.map .str))) δ:=λH Z σ ts vs Q S kk=>by
 obtain⟨a,hm,hs⟩:=hm;exact cK (Ft (v:=.ref a) c hm rfl hd) (kk _ H Z Qy Qy (S.push (.tup (hs Z) (aG.al7 l))))
noncomputable def asK{l:At}{od:Da}{its:CO}{sl:Cn}(h1:X.mg x=some Qaj)(h2:QkS)(c:its.size<=sizeLine)(b:Vals Qf1 its.toList):GT X x l:=
 ⟨a,h1,λH=>.inr ⟨_,its,n,h2,rfl,rfl,c,b⟩⟩
def c0{k:Nat}{A:Type}{arg:Qai}{Pre:QP}{res:Q4}(a:A)(F:Qfs)(j:Q3)(o:arg a=[])(h:Pre a)(l:QdP)(i:QbI:=by rfl)
  (g:AD x:=by decide):cY X CL b (.Call QaE [] [] pos) δ (res a) δ:=by
 obtain⟨f,fd,ps,r,m,kk,bb⟩:=F.ex;intro H Z σ ts vs Q S k;refine cK (adg r F.room j m kk bb .nil vG g) ?_;refine⟨H,a,.refl _,λ_ _ q _=>q,by rw[o];exact .nil,i,h,S.MD,λv H' W' fp c ww e nw tp rt nd own=>?_⟩;obtain⟨Z',d,p⟩:=S.back c S.zh ww e nw tp rt nd own (.inr l);exact k v H' Z' d c p
noncomputable def ZV:Key->D
 | .inl i=>.int i
 | .inr x=>.str x
noncomputable def Md(kvs:CI)(k:Key):Option D:=(kvs.find? λa=>decide (a.1=k)).map (·.2)
noncomputable def Ls(kvs:CI)(k:Key)(d:D):CI:=
 if Qfk=true then kvs.map QkO else kvs++[(k,d)]
variable{d:D}{kvs:CI}
theorem c7.length{kvs:CI}(h:c7 K CL Z kvs gs):kvs.length=gs.length:=
 c7.ind (P:=λkvs gs=>kvs.length=gs.length) rfl Qg6 h
theorem c7.keys{kvs:CI}(h:c7 K CL Z kvs gs):kvs.map (·.1)=gs.map (·.1):=
 c7.ind (P:=λkvs gs=>kvs.map _=gs.map _) rfl (λ{x _ _ _ _} _ _ i=>congrArg _ i) h
theorem c7.val{k:Key}:∀{kvs:CI} {gs:Cl},c7 K CL Z kvs gs->(Md kvs k=none/\vW gs k=none)\/∃d v,Md kvs k=some d/\vW gs k=some v/\bW K CL Z d v
 | _,_,.nil=>.inl ⟨rfl,rfl⟩
 | _,_,.cons (x:=x) (d:=d) (v:=v) h r=>by
  by_cases e:x=k
  .exact .inr ⟨d,v,by simp[Md,e],tD e,h⟩
  .obtain⟨h1,h2⟩|⟨d',v',h1,h2,a⟩:=c7.val r
   .exact .inl ⟨by simpa [Md,e] using h1,by rw[qu e];exact h2⟩
   .exact .inr ⟨d',v',by simpa [Md,e] using h1,by rw[qu e];exact h2,a⟩
theorem c7.any{k:Key}:∀{kvs:CI} {gs:Cl},c7 K CL Z kvs gs->Qfk=(gs.any λa=>decide (a.1=k))
 | _,_,.nil=>rfl
 | _,_,.cons _ r=>by rw[vx,vx,c7.any r]
theorem c7.rf{k:Key}(q:Qde):∀{kvs:CI} {gs:Cl},c7 K CL Z kvs gs->c7 K CL Z (kvs.map QkO) (gs.map QkN)
 | _,_,.nil=>.nil
 | _,_,.cons (x:=x) h r=>by
  rw[og,og];by_cases e:x=k
  .rw[cq e,cq e];exact .cons q (c7.rf q r)
  .rw[bF e,bF e];exact .cons h (c7.rf q r)
theorem c7.snoc{k:Key}(q:Qde):∀{kvs:CI} {gs:Cl},c7 K CL Z kvs gs->c7 K CL Z (kvs++[(k,d)]) (gs++[(k,v)])
 | _,_,.nil=>.cons q .nil
 | _,_,.cons h r=>.cons h (c7.snoc q r)
theorem c7.put{k:Key}(q:Qde)(r:c7 K CL Z kvs gs):c7 K CL Z (Ls kvs k d) (putK gs k v):=by
 unfold Ls putK;rw[r.any];split
 .exact r.rf q
 .exact r.snoc q
theorem bW.key{k:Key}(r:bW K CL Z (ZV k) v):v=kV k:=by
 cases k with
 | inl i=>exact r.sc rfl
 | inr x=>exact r.sc rfl
theorem aiJ(k:Key):bW K CL Z (ZV k) (kV k):=by
 cases k with
 | inl i=>exact .int i
 | inr x=>exact .str x
theorem Rk{Z:Hp}:∀ks:EO,aG K CL Z (ks.map ZV) (ks.map kV)
 | []=>.nil
 | k::ks=>.cons (aiJ k) (Rk ks)
theorem bH.an9{p:Addr}(S:Qag)(d:H p=none):aM H QhL/\bH K CL b QhL Z δ σ (.tE []::ts) (.ref p::vs):=by
 obtain⟨fp,gp,e,r,nd,k⟩:=S.rep;have f:=S.zh.free d;have sh:aM H QhL:=aM.upd d;have keep:∀a∈fp++gp,a≠p:=λa c=>by
  have:∃o,H a=some o:=by
   obtain h|h:=f9.1 c
   .exact e.there a h
   .exact r.there a h
  obtain⟨o,q⟩:=this;exact bf q d
 refine⟨sh,⟨⟨fp,_,e.mono Qy QiP,.cons (.tE bD .nil) (r.mono Qy λa c=>az (keep a (by simp[c]))),?_,λa c=>?_⟩,S.bh.trans sh,S.zz,S.zh.trans sh,S.new,λa o q i=>?_,S.tab⟩⟩
 .refine(List.perm_middle).nodup_iff.2 (si.2 ⟨λh=>keep p h rfl,nd⟩)
 .obtain h|h:=eu.1 ((List.perm_middle).mem_iff.1 c)
  .subst h;exact⟨f,S.bh.free d⟩
  .exact k a h
 .by_cases c:a=p
  .subst c;rw[bD]at q;cases q;cases i
  .rw[az c]at q;exact S.tp a o q i
theorem bH.aoa(k:Key)(S:bH K CL b H Z δ σ (.sh d::ts) QaP)(hi:δ[i]? = some (some (.tE kvs))) :
  ∃a gs,σ[i]? = some (some Qaj)/\H a=some (.dK gs)/\gs.length=kvs.length/\bH K CL b (upd H a (.dK (putK gs k v))) Z (δ.set i (some (.tE (Ls kvs k d)))) σ ts vs:=by
 obtain⟨fp,gp,e,r,nd,kk⟩:=S.rep;obtain⟨v0,f1,f2,l,hv,m,rt,put,_⟩:=e.get hi;subst m;cases rt with
 | @tE a gs _ q rs=>
  cases r with
  | @cons _ _ _ _ s j g o=>
   replace g:=g.MB;obtain⟨rfl,g⟩:=g;have ne:∀c∈(f1++l)++j,c≠a:=λc f e=>by
    subst e;have p:((f1++([c]++l))++([]++j)).Perm (c::((f1++l)++j)):=by simp
    exact(si.1 (p.nodup_iff.1 nd)).1 f
   refine⟨a,gs,hv,q,rs.length.symm,?_⟩;have n:bU K CL (upd H a (.dK (putK gs k v))) Z _ _ [a]:=.tE bD (rs.put g);have e2:=put Qy (λc f=>az (ne c (by
    obtain h|h:=f9.1 f
    .simp[h]
    .simp[h]))) n
   rw[iC hv]at e2;exact S.Uz rfl kk WA e2 (o.mono Qy λc f=>az (ne c (by simp[f]))) nd λc f=>f
def GR(B:QaA):qq X QeL (λxs H Q=>∃p kvs,xs=[.ref p]/\H p=some Qb5/\∀l,H l=none->Q (.ref l) (upd H l (.lst ((kvs.map (·.1)).map kV)))):=by
 intro pins s σ H xs us Q I r h;obtain⟨p,kvs,rfl,o,q⟩:=h;obtain⟨u,rfl,g⟩:=vals1 r;cases g;obtain⟨z,hd,ws,rel,dd⟩:=alU I.fC o;obtain⟨ep,D⟩:=dd.dictAt;refine PySem.W.kdl_call (PySem.W.kdl_dict (knd:=iz X.prog X.w) (kvs:=ws) (ep:=ep) hd) (I.ok.hd B) D (by rw[← rel.length];exact z) λh' tk a C A e d=>?_;have v:a.toList.length=ws.length:=by rw[Array.length_toList];exact d.1
 have hv:Vals ((kvs.map (·.1)).map kV) a.toList:=by
  rw[rel.keys];have gen:∀(l:List (Key×Value)) (m:B2),m.length=l.length->(∀(j:Nat) (x:Value),m[j]? = some x->∃k y,l[j]? = some (k,y)/\(iz X.prog X.w).is k x=true)->Vals ((l.map (·.1)).map kV) m:=by
   intro l
   induction l with
   | nil=>intro m hm _;cases m with
    | nil=>exact .nil
    | cons _ _=>simp at hm
   | cons p l n=>
    intro m hm c;cases m with
    | nil=>simp at hm
    | cons x m=>
     obtain⟨k,y,e1,e2⟩:=c 0 x rfl;simp at e1;subst e1;refine .cons ?_ (n m (by simpa using hm) λj f b=>by simpa using c QA f (by simpa using b));obtain⟨i,t,h1,h2⟩|⟨i,t,h1,h2⟩:=gf e2
     .subst h1 h2;exact⟨t,rfl⟩
     .subst h1 h2;exact⟨t,rfl⟩
  exact gen ws a.toList v λj x b=>d.2 j x (by rw[← OP];exact b)
 refine⟨.ref s.heap.objs.size,_,I.laid (t':=tk) A (Nat.le_refl _) (show gQ X.prog X.w _ h' _ (.lst ((kvs.map (·.1)).map kV)) from⟨by simpa using z,a.toList,C,hv,by simpa using e⟩),rfl,q _ (I.fC.fresh (Nat.le_refl _))⟩
section
variable{d:L3.D}{D:gi}{ps:Pos}{kvs:List (Key×L3.D)}{k:Key}
def aiK:cY X CL b (.Dict [] [] pos) δ (.tE []) δ:=λH Z σ ts vs Q S kk=>cK adz λp a=>by
 obtain⟨c,d⟩:=S.an9 a;exact kk _ _ Z Qy c d
theorem aob(k:Key)(s:QdQ)(n:QaI)(h:Qg9)(h2:dU X CL b e2 δ1 (ZV k) δ1)(h1:δ1[i]? = some (some (.tE kvs)))(m:kvs.length<=1000000)(kk:dW X CL b fU (δ1.set i (some (.tE (Ls kvs k d)))) D)
  (hs:swapsWith e (some (.Subscript QaE e2 ps)) pos.line X.env=pure false:=by rfl) :
  dW X CL b (.Assign [.Subscript QaE e2 ps] e pos::fU) δ D:=cH λH Z σ ts vs E S M=>
 rV (aia We QdF dN dN hs) (h H Z σ ts vs _ S λv H1 Z1 j k1 f=>by
  obtain⟨v0,e0,_⟩:=f.look h1;refine⟨v0,e0,h2 H1 Z1 σ _ _ _ f λv2 H2 Z2 g k2 r l=>?_⟩;obtain⟨a,gs,c,p,o,q⟩:=r.aoa k h1;rw[e0]at c;cases c;exact⟨a,_,rfl,l.key▸LS.k p (by rw[o];exact vT m Wp),M.nx _ σ _ Z2 (j.trans g) q kk⟩)
def ad2(g:Gx X)(hm:QeH)(h:dU X CL b e δ (.tE kvs) δ1)(j:Qe8)(hs:Qad:=by exact bC rfl):cY X CL b QiI δ (.lst (((kvs.map (·.1)).map ZV).map T.sh)) δ1:=λH Z σ ts vs Q S k=>
 cK (k7 (GR g.calm) j hm bS Qay (he:=hs)) (h H Z σ ts vs _ S λv H1 Z1 d k1 o r=>by
  cases r with
  | @tE a gs _ m f=>
   refine⟨a,gs,rfl,m,λl i=>?_⟩;rw[← f.keys];obtain⟨c,n⟩:=(bH.pF (Rk _) o).kN (g0:=[]) WA i;exact k _ _ _ d Qcu n)
end
variable{w:V}{fs2:B1}
theorem dO.OH{b:BN}(rt:bU K CL H Z t v b):∀{UK:B1} {gs:CA} {fp:BN},dO K CL H Z QjO gs fp->∃a,dO K CL H Z (UK++(f,t)::fs2) gs a/\a.Perm (fp++b)
 | [],_,_,r=>by
  cases r with
  | @cons _ _ v' _ _ f1 gp h r=>
   replace h:=h.MB;obtain⟨rfl,h⟩:=h;cases h;exact⟨ _,.cons rt r,ro⟩
 | (y,u)::UK,_,_,r=>by
  cases r with
  | @cons _ _ v' _ _ f1 gp h r=>
   obtain⟨a,c,p⟩:=dO.OH rt r;refine⟨ _,.cons h c,?_⟩;rw[nr];exact p.append_left f1
theorem bH.OH{UK:B1}(S:bH K CL b H Z δ σ (.ins c QjO::t::ts) (w::v::vs)):bH K CL b H Z δ σ (.ins c (UK++(f,t)::fs2)::ts) (w::vs):=by
 obtain⟨fp,gp,e,r,nd,k⟩:=S.rep;cases r with
 | @cons _ _ _ _ g1 g2 o n=>
  cases n with
  | @cons _ _ _ _ g3 g m l=>
   obtain⟨a,dx,gs,h,rfl,rfl,s,j⟩:=o.Gw;obtain⟨i,d,p⟩:=dO.OH m j;have pm:(fp++((a::i)++g)).Perm (fp++((a::h)++(g3++g))):=by
    refine yd fp ?_;rw[← nr];refine List.Perm.append_right g ?_;simp_all
   exact⟨⟨fp,_,e,.cons (.ins s d) l,pm.nodup_iff.2 nd,λc q=>k c (pm.mem_iff.1 q)⟩,S.bh,S.zz,S.zh,S.new,S.tp,S.tab⟩
def P2(X:Cx)(CL:BC)(b:Bx)(es:Cc)(δ:BA)(dv:V->BB)(t:T)(δ':BA):Prop:=
 ∀(H Z:Hp) (σ:L2.St) (ts:Bi) (vs:BY) (Q:EQ),bH X.K CL b H Z δ σ ts vs →
  (∀us H' Z' v,aM Z Z'->aM H H'->bH X.K CL b H' Z' δ' σ (t::ts) QaP->aG X.K CL H' (dv v) us->Q us H')->Up X es σ H Q
theorem T.GU{f:Str}{v:V}{fs2:B1}(h2:T.fY fs2=true):∀{UK:B1},T.fY UK=true->T.fY QjO=true
 | [],_=>‹_›
 | (x,t)::UK,h=>by
  rw[T.fY,oD]at h;rw[uj,T.fY,h.1,T.GU h2 h.2];rfl
variable{ds:BB}{d:D}{dv:V->BB}
def ad4(h:QaG)(r:Xx X CL b es δ1 ds δ2)(hs:notStar e=true:=by rfl):P2 X CL b Qab δ (λv=>.val v::ds) t δ2:=λH Z σ ts vs Q S k=>
 JS (bZ dN JF (bC hs)) (h H Z σ ts vs _ S λv H1 Z1 c k1 g=>r H1 Z1 σ _ _ _ g λus H2 Z2 a k2 f d=>k _ H2 Z2 v QbO Qao f (.cons Qdq d))
def Rl(h:QeA)(r:P2 X CL b es δ1 dv t δ2)(hs:notStar e=true:=by rfl):P2 X CL b Qab δ (λv=>d::dv v) t δ2:=λH Z σ ts vs Q S k=>
 JS (bZ dN JF (bC hs)) (h H Z σ ts vs _ S λv H1 Z1 c k1 j g=>r H1 Z1 σ ts vs _ j λus H2 Z2 v2 a k2 i f=>k _ H2 Z2 v2 QbO Qao i (.cons (g.mono k2) f))
variable{A:Type}{k:Nat}{arg:Qai}{Pre:QP}
theorem mkP{res:A->B1}(a:V->A){UK:B1}(F:Qjo)(z:Q3)(h:P2 X CL b Qab δ dv t δ1)(G:∀v,arg (a v)=dv v)(u:∀v,Pre (a v))(g:∀v,res (a v)=UK++(f,.sh Qdq)::fs2)(B:T.fY UK=true)(D:T.fY fs2=true)(w:∀v,(arg (a v)).length+1=n:=by exactλ_=>rfl)
  (p:AD x:=by decide) (he:Qaf:=by exact bC rfl) (hpl:Qas:=by rfl) :
  cY X CL b QbC δ (.ins x (UK++(f,t)::fs2)) δ1:=λH Z σ ts vs Q S kk=>by
 obtain⟨I,fd,ps,M,E,hm,C⟩:=F.ex;exact cK (Mx M E F.room z hm C .nil vG JF p he hpl) (h H Z σ ts vs _ S λus H1 Z1 v l k1 d r y dx s c ne=>by
  rw[n2];refine⟨H1,H1,a v,y,dx,us,rfl,s,c,ne,rfl,.refl _,λ_ _ q _=>q,WD,w v,u v,d.MD,λH' W' fp i ww o nw tp rt nd own=>⟨rfl,?_⟩⟩;obtain⟨Z',m,j⟩:=d.back i d.zh ww o nw tp rt nd own (.inr (by rw[g];exact T.GU D B));rw[g]at j;exact kk _ H' Z' (l.trans m) (k1.trans i) j.OH)
theorem M6(bs:List Bool):(List.range bs.length).any (λi=>bs.getD i true)=bs.any id:=by
 induction bs with
 | nil=>rfl
 | cons x bs a=>
  rw[o1,List.range_succ_eq_map,vx,List.any_map];have:((λi=>(x::bs).getD i true)∘Nat.succ)=λi=>bs.getD i true:=rfl;rw[this,a];rfl
def ad5{bs:List Bool}{its:B2}(r:Vals (bs.map V.bl) its){v:Value}(h:its.toArray[i]? = some v):v=.bool (bs.getD i true):=by
 have h':=by simpa using h
 have d:=r.length;have hi:=d▸(pd.1 h').1;obtain⟨u,c,b⟩:=r.get (pv hi);rw[h']at c;cases c;have a:=by simpa using hi
 have e:bs.getD i true=bs[i]:=by simp[a]
 rw[e];rw[List.getElem_map]at b;exact b
def ZW(k:QaA):qq X (.builtin "any") (λxs H Q=>∃(p:Addr) (bs:List Bool),xs=[.ref p]/\oG X.K H p (bs.map V.bl)/\Q (.bl (bs.any id)) H):=by
 intro pins s σ H xs us Q I r h;obtain⟨p,bs,rfl,g,q⟩:=h;obtain⟨u,rfl,d⟩:=vals1 r;cases d;obtain⟨its,c,pl,hz⟩:=I.list g;have a:=pl.isList;have f:p<s.heap.objs.size:=by obtain⟨o,e,_⟩:=id a;exact nz e
 have hlen:its.toArray.size=bs.length:=by rw[ue,← c.length,dm]
 refine call_any_walk (wpAny_pyIter_list a ⟨_,_,_,_,_,_,λi=>bs.getD i true,rfl,Walks.list (A:=X.A.in1) (I.ok.hd k) _ p (oI f) _,⟨⟨_,pk _ rfl,rfl,rfl⟩,a.at λo e=>ot _ e⟩,λi v s Q E l hQ=>?_,λh' tk j=>?_⟩)
 .rw[ad5 c l];exact IP hQ
 .rw[hlen,M6];refine⟨.bl _,H,I.kept (λb o e=>j b o (λz=>?_) (ot _ e)),rfl,q⟩;have:=n4.1 z;subst this;exact absurd (nz e) (z4 _)
def ZX:bootBuiltins "any" = some (.builtin "any"):=by decide +kernel
theorem Rm{K:Frag}{CL:BC}{H:Hp}:∀{l:List Bool} {us:BY},aG K CL H (l.map D.bl) us->us=l.map V.bl
 | [],_,r=>by
  have a:=r;cases a;rfl
 | y::l,_,r=>by
  have a:=r;cases a with
  | cons c b=>rw[c.sc rfl,Rm b];rfl
variable{l:List Bool}
def aoc(g:Gx X)(hm:X.mg "any" = none)(h:dU X CL b e δ (.lst (l.map .bl)) δ1)(i:Gl X "any")(hs:Qad:=by exact bC rfl):cY X CL b (.Call (.Name "any" pp) [e] [] pos) δ (.sh (.bl (l.any id))) δ1:=λH Z σ ts vs Q S k=>
 cK (nU (ZW g.calm) i hm ZX Qay (he:=hs)) (h H Z σ ts vs _ S λv H1 Z1 c k1 j r=>by
  obtain⟨a,us,rfl,f,d⟩:=r.g6;have:=Rm d;subst this;exact⟨a,l,rfl,f,k _ H1 Z1 c k1 (j.push Qcf)⟩)
namespace Rv
def ZY:PySem.Slot "reversed" "__init__" "object.__init__":=
 .of (owner:="object") (n:="__init__") (by rw[typeLookup_type,builtinLookup_eq_fast];kernel_rfl) Wl Wl Wl
  (by first|exact .inl Wl|exact .inr Wl) (by rw[isSubtype_type];kernel_rfl)
noncomputable def called:TypeCalled "reversed" "reversed.__new__" "object.__init__":=
 ⟨Wl,Wl,⟨_,_,PySem.F.mro_reversed⟩,PySem.F.made_reversed,Wl,PySem.F.sub_reversed_self,ZY⟩
noncomputable def obj(t:Addr)(i:Int):Obj:={cls:=.type "reversed",data:=.fields #[.ref t,rawInt i]}
end Rv
def ad6(l q:Addr)(xs ys:CO)(n m:Nat)(f:Da)(sq:Cn)(j:Qkx)(c:xs.size<=sizeLine)(b:xs.size+ys.size<=sizeLine+1) :
  PySem.Meets (Builtin.«list.extend» ⟨[.ref l,.ref q],[]⟩) (λ_ R s=>s.heap.get? l=some {cls:=.type "list",dict:=none,data:=.seq xs n,slots:=#[]}/\s.heap.get? q=some {cls:=.type "tuple",dict:=f,data:=.seq ys m,slots:=sq} ∧
   R (.ok (.ret Value.none)) {s with heap:=s.heap.update l (Obj.mapSeq λx=>x++ys),toks:=s.toks}):=
 PySem.Meets.of_wp λprog w A R s h=>by
  obtain⟨i,g,d,tk,os⟩:=s;obtain⟨a,e,h⟩:=h;have f1:=AutoSeq1.idx_int;have o:=AutoSeq1.sub_list_list;have f4:=AutoSeq1.sub_tuple_list;have k:=AutoSeq1.sub_list_tuple;have hz:(xs++ys).size<=sizeLine+1:=by
   rw[Array.size_append];exact b
  wp_walk using QkU,wpAny_loadPart' a,wpAny_loadPart' e
  exact⟨_,rfl,h⟩
def al8(K:Frag):V->BY->Hp->VK->Prop:=λx vs H Q=>∃l q xs zs,x=.ref l/\vs=[.ref q]/\H l=some QaO/\AG K H q zs/\xs.length+zs.length<=sizeLine/\Q .non (upd H l (.lst (xs++zs)))
theorem aiM:Ki X "list.extend" (al8 X.K):=by
 intro pins s σ H x vs v us Q I d f h;obtain⟨l,q,xs,zs,rfl,rfl,b,m,hz,k⟩:=h;cases d;obtain⟨u,rfl,g⟩:=f.one;cases g;obtain⟨z,its,n,r,y,e⟩:=I.LU b;obtain⟨c,a,⟨⟨A,d2,o,s2⟩,e2,p,i,hd2⟩,w⟩:=I.tuple m;cases p;cases hd2;have j:=a.length;have hsz:its.toArray.size+c.toArray.size<=sizeLine:=by grind
 have t:¬ (!its.toArray.isEmpty&&Builtin.List.listTooLong (its.toArray.size+c.toArray.size))=true:=by
  rw[Gv hsz,Bool.and_false];decide
 refine x2 F.slot_list_extend ⟨_,e,rfl⟩ F.entry_list_extend (F.args_list_extend_2 _ _) (ad6 l q _ _ n i d2 s2 t WE We) ⟨e,e2,?_⟩;refine⟨.non,_,I.L1 b e WA (r.append a) ?_,rfl,k⟩;simp_all
section
abbrev _root_.EU:=Array Keyed
variable{a₀ xs:EU}{ι:Db}
structure Tag(a₀ xs:EU)(ι:Db)(n:Nat):Prop where
 pl:∀k,k<a₀.size->xs[k]? = a₀[ι k]?
 lo:∀k,k<n->ι k<n
 hi:∀k,n<=k->ι k=k
def wc(xs:EU)(ι:Db)(n:Nat):Prop:=∀i j,i<j->j<n->PyProof.Rows.K xs i<PyProof.Rows.K xs j\/(PyProof.Rows.K xs i=PyProof.Rows.K xs j/\ι i<ι j)
def JZ(xs:EU)(ι:Db)(n:Nat):Prop:=∀i j,i<j->j<n->PyProof.Rows.K xs j<PyProof.Rows.K xs i\/(PyProof.Rows.K xs j=PyProof.Rows.K xs i/\ι j<ι i)
theorem Tag.grow(h:Qh0):Tag a₀ xs ι (n+1):=⟨h.pl,λk a=>by
  by_cases e:k<n
  .have:=h.lo k e;lia
  .have:=h.hi k We;lia,λk a=>h.hi k We⟩
theorem Tag.axa(h:Qh0){m:Nat}(hm:n<=m):Tag a₀ xs ι m:=⟨h.pl,λk a=>by
  by_cases e:k<n
  .have:=h.lo k e;lia
  .have:=h.hi k We;lia,λk a=>h.hi k We⟩
noncomputable def turned(ι:Db)(i j:Nat):Nat->Nat:=λk=>if i<=k/\k<j then ι (i+j-1-k) else ι k
theorem Tag.turn(h:Qh0)(c:j<=n)(b:n<=a₀.size)(hs:xs.size=a₀.size):Tag a₀ (mirror xs i j ((j-i) / 2)) (turned ι i j) n:=by
 refine⟨λk a=>?_,λk a=>?_,λk a=>?_⟩
 .rw[getElem?_mirror_all We];unfold turned;split
  .exact h.pl _ We
  .exact h.pl _ a
 .unfold turned;split
  .exact h.lo _ We
  .exact h.lo _ a
 .unfold turned;rw[bF We];exact h.hi k a
noncomputable def ZZ(ι:Db)(k l:Nat):Nat->Nat:=λp=>if p=l then ι k else if l<p/\p<=k then ι (p-1) else ι p
theorem Tag.sink(h:Qh0){l:Nat}(d:l<=n)(c:n<a₀.size)(hs:xs.size=a₀.size):Tag a₀ (bubble xs n (n-l)) (ZZ ι n l) (n+1):=by
 have b:=h.grow;refine⟨λk a=>?_,λk a=>?_,λk a=>?_⟩
 .rw[getElem?_bubble We _ We,show n-(n-l)=l by lia];unfold ZZ;split
  .exact h.pl _ We
  .split
   .exact h.pl _ We
   .exact h.pl _ a
 .unfold ZZ;split
  .exact b.lo _ We
  .split
   .exact b.lo _ We
   .exact b.lo _ a
 .unfold ZZ;rw[bF We,bF We];exact b.hi k a
theorem wc.le(h:wc xs ι n)(b:i<=j)(a:j<n):PyProof.Rows.K xs i<=PyProof.Rows.K xs j:=by
 by_cases e:i=j
 .subst e;grind
 .obtain z|z:=h i j We a<;>lia
end
section
variable{w:World}{A:Qal}{a₀:EU}
theorem Ro{st:SortSt}{ι:Db}{a b:Nat}{Q:AscSt->SortSt->Prop}(h0:QdZ)(y:b<=a₀.size)(C:1<=a)(p:a<=b)(r:Qdg)
  (m:Tag a₀ (arrOf st) ι a) (hs:wc QaN ι a)
  (h:∀n,a<=n->n<=b->Tag a₀ (arrOf st) ι n->wc QaN ι n->(n=b\/PyProof.Rows.K QaN n<PyProof.Rows.K QaN QcB)->Q (none,n) st) :
  wpS Qaa A E s (ascLoop a b) Q st:=by
 unfold ascLoop;refine Jk (I:=λx c z=>z=st/\c=(none,x)/\Tag a₀ (arrOf st) ι x/\wc QaN ι x) ?one ?all ⟨rfl,rfl,m,hs⟩
 case all=>
  rintro c z ⟨rfl,rfl,t,o⟩;grind
 case one=>
  rintro x c z g l ⟨rfl,rfl,t,o⟩;dsimp only;refine oP (wpS_ltK r h0 We We ?_);by_cases d:PyProof.Rows.K Qah x<PyProof.Rows.K Qah (x-1)
  .simp only[d,decide_true,uc];exact q0 (h x g We t o (.inr d))
  .simp only[d,decide_false,tw,ti];refine q0 ⟨rfl,rfl,t.grow,λi j k B=>?_⟩;by_cases f:j<x
   .exact o i j k f
   .have e:j=x:=by lia
    subst e;have q:=o.le (i:=i) (j:=j-1) We We;have v:=t.lo i k;have u:=t.hi j (iP _);lia
theorem Rp{st:SortSt}{ι:Db}{b:Nat}{Q:Qjf}(h0:QdZ)(f:b<=a₀.size)(h1:1<=n)(c:n<=b)(d:Qdg)
  (e:Tag a₀ (arrOf st) ι n) (hs:JZ QaN ι n)
  (h:∀m z κ,SBase a₀ z->1<=m->m<=b->Tag a₀ (arrOf z) κ m->wc Qah κ m->Q (some m) z) :
  wpS Qaa A E s (tail3 n b) Q st:=by
 have hz:n<=(arrOf st).size:=by rw[d.size];lia
 have a:SBase a₀ (setArr st (mirror _ 0 n ((n-0) / 2))):=d.setArr Qho;refine oP (wpS_reverse ?_);refine oP (Ro h0 f h1 c a (e.turn (iP _) We d.size) ?_ λm m1 m2 t o _=>q0 (h m _ _ a We m2 t o));intro i j k g;rw[K_mirror hz,K_mirror hz,cq We,cq We];unfold turned;rw[cq We,cq We];exact hs _ _ We We
structure EL(xs:EU)(ι:Db)(p x:Nat):Prop where
 f:JZ xs ι p
 l:∀i j,i<p->p<=j->j<x->PyProof.Rows.K xs j<PyProof.Rows.K xs i
 e:∀i j,p<=i->i<j->j<x->PyProof.Rows.K xs i=PyProof.Rows.K xs j/\ι i<ι j
theorem EL.one{xs:EU}{ι:Db}{p:Nat}(h:EL xs ι p (p+1)):JZ xs ι (p+1):=λi j b a=>by
 by_cases e:j<p
 .exact h.f i j b e
 .exact .inl (h.l i j We We a)
theorem EL.turn{xs:EU}{ι:Db}{p x:Nat}(h:EL xs ι p x)(a:x<=xs.size):JZ (mirror xs p x ((x-p) / 2)) (turned ι p x) x:=by
 intro i j c d;rw[K_mirror a,K_mirror a];unfold turned;by_cases hi:p<=i
 .rw[cq We,cq We,cq We,cq We];have q:=h.e (p+x-1-j) (p+x-1-i) We We We;simp_all
 .rw[bF (show ¬ (p<=i/\i<x) by lia),bF (show ¬ (p<=i/\i<x) by lia)];by_cases b:p<=j
  .rw[cq We];exact .inl (h.l _ _ We We We)
  .rw[bF We,bF We];exact h.f i j c We
theorem JZ.le{xs:EU}{ι:Db}(h:JZ xs ι n)(b:i<=j)(a:j<n):PyProof.Rows.K xs j<=PyProof.Rows.K xs i:=by
 by_cases e:i=j
 .subst e;grind
 .obtain z|z:=h i j We a<;>lia
theorem JZ.half{xs:EU}{ι:Db}{x:Nat}(h:JZ xs ι x)(a:0<x)(b:PyProof.Rows.K xs x<PyProof.Rows.K xs (x-1)):EL xs ι x (x+1):=
 ⟨h,λi j hi h1 h2=>by
  have e:j=x:=by lia
  subst e;have:=h.le (i:=i) (j:=j-1) We We;lia,λi j h1 h2 c=>by lia⟩
theorem Z6{st:SortSt}{ι:Db}{b:Nat}{Q:DescSt->SortSt->Prop}(h0:QdZ)(G:b<=a₀.size)(g:n+1<=b)(C:Qdg)
  (B:Tag a₀ (arrOf st) ι (n+1)) (hs:EL QaN ι n (n+1))
  (h:∀m a z κ,SBase a₀ z->n+1<=m->m<=b->a+1<=m->Tag a₀ (arrOf z) κ m->EL Qah κ (m-(a+1)) m->Q (none,m,a) z) :
  wpS Qaa A E s (descLoop (n+1) b) Q st:=by
 unfold descLoop;refine Jk (I:=λx c z=>∃a κ,c=(none,x,a)/\SBase a₀ z/\a+1<=x/\Tag a₀ (arrOf z) κ x/\EL Qah κ (x-(a+1)) x) ?one ?all ⟨0,ι,rfl,C,We,B,hs⟩
 case all=>
  rintro c z ⟨a,κ,rfl,b2,q,t,o⟩;have e:max (n+1) b=b:=by lia
  rw[e]at q t o ⊢;exact h b a z κ b2 g (iP _) q t o
 case one=>
  rintro x c z r v ⟨a,κ,rfl,b2,q,t,o⟩;dsimp only;have hz:x<=(arrOf z).size:=by rw[b2.size];lia
  refine oP (wpS_ltK b2 h0 We We ?_);by_cases d:PyProof.Rows.K Qah x<PyProof.Rows.K Qah (x-1)
  .simp only[d,decide_true,uc];by_cases u:a > 0
   .rw[cq u];have hm:∀k,PyProof.Rows.K (mirror Qah (x-(a+1)) x ((x-(x-(a+1))) / 2)) k=PyProof.Rows.K Qah k:=K_mirror_equal hz λk k1 k2=>by
     by_cases e:k=x-1
     .rw[e]
     .exact(o.e k (x-1) k1 We We).1
    refine oP (wpS_reverse (q0 ⟨0,turned κ (x-(a+1)) x,rfl,b2.setArr Qho,We,(t.turn (iP _) We b2.size).grow,?_⟩));have hf:=o.turn hz;refine hf.half We ?_;rw[hm,hm];exact d
   .rw[bF u];have e0:a=0:=by lia
    subst e0;obtain⟨y,rfl⟩:∃y,x=y+1:=⟨x-1,We⟩;have hf:JZ Qah κ (y+1):=EL.one o;exact q0 ⟨0,κ,rfl,b2,We,t.grow,hf.half We d⟩
  .simp only[d,decide_false,tw,ti];refine oP (wpS_ltK b2 h0 We We ?_);by_cases p:PyProof.Rows.K Qah (x-1)<PyProof.Rows.K Qah x
   .simp only[p,decide_true,uc];exact q0 (h x a z κ b2 r We q t o)
   .simp only[p,decide_false,tw,ti];have he:PyProof.Rows.K Qah x=PyProof.Rows.K Qah (x-1):=Int.le_antisymm (Int.not_lt.1 p) (Int.not_lt.1 d);refine q0 ⟨a+1,κ,rfl,b2,We,t.grow,?_⟩;rw[show x+1-(a+1+1)=x-(a+1) by lia];refine⟨o.f,λi j hi h1 h2=>?_,λi j h1 h2 H=>?_⟩
    .by_cases e:j=x
     .rw[e,he];exact o.l i (x-1) hi We We
     .exact o.l i j hi h1 We
    .by_cases e:j=x
     .subst e;have F:=t.lo i h2;have D:=t.hi j (iP _);refine⟨?_,We⟩;rw[he];by_cases e2:i=j-1
      .rw[e2]
      .exact(o.e i (j-1) h1 We We).1
     .exact o.e i j h1 h2 We
theorem Lv{st:SortSt}{ι:Db}{a:Nat}{Q:Qjf}(h0:QdZ)(c:a<=a₀.size)(b:n+1<=a)(g:Qdg)
  (e:Tag a₀ (arrOf st) ι (n+1)) (hs:EL QaN ι n (n+1))
  (h:∀m z κ,SBase a₀ z->1<=m->m<=a->Tag a₀ (arrOf z) κ m->wc Qah κ m->Q (some m) z) :
  wpS Qaa A E s (descPart n a) Q st:=by
 refine oP (wpS_lift (wpAny_rule ⟨rfl,?_⟩));refine oP (Z6 h0 c b g e hs λm d z κ b2 m1 m2 q t o=>?_);dsimp;have hz:m<=(arrOf z).size:=by rw[b2.size];lia
 by_cases f:d > 0
 .rw[cq f];exact oP (wpS_reverse (Rp h0 c We m2 (b2.setArr Qho) (t.turn (iP _) We b2.size) (o.turn hz) h))
 .have e0:d=0:=by lia
  subst e0;obtain⟨y,rfl⟩:∃y,m=y+1:=⟨m-1,We⟩;exact Rp h0 c We m2 b2 t (EL.one o) h
theorem ad7{st:SortSt}{c:Nat}{Q:Qjf}(h0:QdZ)(f:c<=a₀.size)(h1:1<=c)(a:Qdg)(v:Tag a₀ (arrOf st) id 0)
  (h:∀m z κ,SBase a₀ z->1<=m->m<=c->Tag a₀ (arrOf z) κ m->wc Qah κ m->Q (some m) z) :
  wpS Qaa A E s (countRun' 0 c) Q st:=by
 rw[countRun0_eq];refine oP (Ro (ι:=id) h0 f (iP 1) h1 a (v.axa We) (λi j B r=>by lia) λn n1 p t o e=>?_);dsimp only;by_cases b:n=c
 .rw[if_pos (by simpa using b)];exact q0 (h n st id a n1 p t o)
 .rw[if_neg (by simpa using b)];have l:=e.resolve_left b;have hz:n<=(arrOf st).size:=by rw[a.size];lia
  by_cases d:n > 1
  .rw[cq d];refine oP (wpS_ltK a h0 We We ?_);by_cases q:PyProof.Rows.K QaN 0<PyProof.Rows.K QaN QcB
   .simp only[q,decide_true,uc];exact q0 (h n st id a n1 p t o)
   .simp only[q,decide_false,tw,ti];have g:∀k,0<=k->k<n->PyProof.Rows.K QaN k=PyProof.Rows.K QaN QcB:=λk _ x=>by
     have a1:=o.le (i:=0) (j:=k) We x;have a2:=o.le (i:=k) (j:=n-1) We We;lia
    have hm:=K_mirror_equal (i:=0) hz g;refine oP (wpS_reverse (Lv (ι:=turned id 0 n) h0 f We (a.setArr Qho) (t.turn (iP _) We a.size).grow ?_ h));have y:EL QaN id 0 n:=⟨λi j _ r=>by lia,λi j hi=>by lia,λi j i1 i2 u=>⟨by rw[g i We We,g j We u],i2⟩⟩;refine(y.turn hz).half We ?_;rw[hm,hm];exact l
  .rw[bF d];have e1:n=1:=by lia
   subst e1;exact Lv h0 f We a t.grow ((show JZ QaN id 1 fromλi j B r=>by lia).half We l) h
theorem aod{l r x:Nat}(h1:l<=r)(h2:r<=k)(a:r-l<=k-x)(c:¬ l ≥ r):l<=(l+r) / 2/\(l+r) / 2<=k/\(l+r) / 2-l<=k-(x+1)/\(l+r) / 2+1<=r/\r-((l+r) / 2+1)<=k-(x+1)/\(l+r) / 2<k:=by
 have c:=Nat.lt_of_not_le c;have d:l<=(l+r) / 2:=by clear h1 h2 a;lia
 have b:(l+r) / 2<r:=by clear h1 h2 a;lia
 exact⟨d,oy (p7 b) h2,Nat.le_pred_of_lt (pE (Nat.sub_lt_sub_right d b) a),b,Nat.le_pred_of_lt (pE (Nat.sub_lt_sub_left c (Nat.lt_succ_of_le d)) a),pE b h2⟩
theorem ad8{st:SortSt}{ι:Db}{ok:Nat}{Q:Bool->SortSt->Prop}(h0:QdZ)(J:n<=a₀.size)(fC:ok<=n)(C:1<=ok)(H:Qdg)(B:Tag a₀ (arrOf st) ι ok)(hs:wc QaN ι ok)
  (h:∀z κ,SBase a₀ z->Tag a₀ (arrOf z) κ n->wc Qah κ n->Q true z):wpS Qaa A E s (binarySort' 0 n ok) Q st:=by
 rw[binarySort'_eq];simp only[Nat.zero_add];refine oP (wpS_mono (Jk (I:=λk c z=>c=(none,())/\SBase a₀ z/\∃κ,Tag a₀ (arrOf z) κ k/\wc Qah κ k)
  (Q:=λc z=>c=(none,())/\SBase a₀ z/\∃κ,Tag a₀ (arrOf z) κ n/\wc Qah κ n) ?one ?all ?new) ?post)
 case post=>
  rintro c z ⟨rfl,b2,κ,t,o⟩;exact q0 (h z κ b2 t o)
 case new=>
  rw[show max ok 1=ok by lia];exact⟨rfl,H,ι,B,hs⟩
 case all=>
  rintro c z ⟨F,b2,κ,t,o⟩;rw[show max (max ok 1) n=n by lia]at t o;exact⟨F,b2,κ,t,o⟩
 case one=>
  rintro k c z G D ⟨rfl,b2,κ,t,o⟩;have p:k<a₀.size:=by lia
  refine oP (wpS_mono (Jk (I:=λx c y=>y=z/\∃l r,c=(none,l,r)/\l<=r/\r<=k/\r-l<=k-x/\(∀i,i<l->PyProof.Rows.K Qah i<=PyProof.Rows.K Qah k)/\(∀i,r<=i->i<k->PyProof.Rows.K Qah k<PyProof.Rows.K Qah i))
   (Q:=λc y=>y=z/\∃l r,c=(none,l,r)/\l<=k/\(∀i,i<l->PyProof.Rows.K Qah i<=PyProof.Rows.K Qah k)/\(∀i,l<=i->i<k->PyProof.Rows.K Qah k<PyProof.Rows.K Qah i)) ?two ?fin ?beg) ?aft)
  case beg=>exact⟨rfl,0,k,rfl,We,We,We,λi hi=>by lia,λi g1 g2=>by lia⟩
  case fin=>
   rintro c y ⟨rfl,l,r,rfl,g1,g2,g3,f,d⟩;have e:l=r:=by lia
   subst e;exact⟨rfl,l,l,rfl,g2,f,d⟩
  case two=>
   rintro x c y _ v ⟨rfl,l,r,rfl,g1,g2,g3,f,d⟩;dsimp only;by_cases b:l ≥ r
   .rw[cq b];have e:l=r:=by lia
    subst e;exact q0 ⟨rfl,l,l,rfl,g2,f,d⟩
   .rw[bF b];have M:=aod g1 g2 g3 b;refine oP (wpS_ltK b2 h0 p (Nat.lt_trans M.2.2.2.2.2 p) ?_);by_cases m:PyProof.Rows.K (arrOf y) k<PyProof.Rows.K (arrOf y) ((l+r) / 2)
    .simp only[m,decide_true,uc];exact q0 ⟨rfl,l,(l+r) / 2,rfl,M.1,M.2.1,M.2.2.1,f,λi i1 i2=>Int.lt_of_lt_of_le m (o.le i1 i2)⟩
    .simp only[m,decide_false,tw,ti];exact q0 ⟨rfl,(l+r) / 2+1,r,rfl,M.2.2.2.1,g2,M.2.2.2.2.1,λi i1=>Int.le_trans (o.le (i:=i) (j:=(l+r) / 2) (Nat.lt_succ_iff.1 i1) M.2.2.2.2.2) (Int.not_lt.1 m),d⟩
  case aft=>
   rintro c y ⟨rfl,l,r,rfl,g2,f,d⟩;show wpS _ _ _ _ (do moveDown' k l;pure (ForInStep.yield (none,()))) _ _;rw[moveDown'_eq];have g:k<(arrOf y).size:=by rw[b2.size];exact p
   refine oP (wpS_modify (q0 ⟨rfl,b2.setArr (bubble_perm _ _ _),ZZ κ k l,t.sink g2 p b2.size,?_⟩));intro i j N L;show PyProof.Rows.K QgV i<PyProof.Rows.K QgV j\/(PyProof.Rows.K QgV i=PyProof.Rows.K QgV j/\_);rw[K_bubble g We,K_bubble g We,show k-(k-l)=l by lia];unfold ZZ;have tk:=t.hi k (iP _);by_cases u:i=l
   .rw[cq u,cq u,bF (show ¬ j=l by lia),bF (show ¬ j=l by lia),cq We,cq We];exact .inl (d _ We We)
   .rw[bF u,bF u];by_cases q:j=l
    .rw[cq q,cq q,bF We,bF We];have:=f i We;have:=t.lo i We;lia
    .rw[bF q,bF q];by_cases hi:l<i/\i<=k
     .rw[cq hi,cq hi,cq We,cq We];exact o _ _ We We
     .rw[bF hi,bF hi];by_cases a:l<j/\j<=k
      .rw[cq a,cq a];exact o _ _ We We
      .rw[bF a,bF a];exact o _ _ We We
def TM(a₀:EU)(st:SortSt):Prop:=failedOf st=none/\pendingOf st=#[(0,a₀.size,0)]/\∃κ,Tag a₀ (arrOf st) κ a₀.size/\wc QaN κ a₀.size/\(arrOf st).size=a₀.size
noncomputable def al9{st:SortSt}{κ:Db}(a:Qdg)(t:Tag a₀ (arrOf st) κ a₀.size)(o:wc QaN κ a₀.size):TM a₀ (setPending st ((pendingOf st).push (0,a₀.size,0))):=
 ⟨a.failed,by rw[a.pend];rfl,κ,t,o,a.size⟩
theorem Z8{st:SortSt}{Q:Unit->SortSt->Prop}(h0:QdZ)(e:Qdg)(v:Tag a₀ (arrOf st) id 0)(h2:2<=a₀.size)(C:a₀.size<64)
  (h:∀z κ,failedOf z=none->Tag a₀ (arrOf z) κ a₀.size->wc Qah κ a₀.size->(arrOf z).size=a₀.size->Q () z):wpS Qaa A E s sortRuns' Q st:=by
 rw[sortRuns'_eq];refine oP (wpS_get ?_);dsimp only;have a:minRun' a₀.size a₀.size 0=a₀.size:=by
  obtain⟨f,hf⟩:∃f,a₀.size=f+1:=⟨a₀.size-1,We⟩;have q:minRun' (f+1) a₀.size 0=a₀.size:=by
   rw[minRun'_succ,cq C];rfl
  rwa [← hf]at q
 rw[e.size,a];refine oP (wpS_mono (Jk (I:=λx c z=>(x=0/\c=(none,0)/\SBase a₀ z/\Tag a₀ (arrOf z) id 0)\/(1<=x/\c=(none,a₀.size)/\TM a₀ z))
  (Q:=λc z=>c=(none,a₀.size)/\TM a₀ z) ?one ?all (.inl ⟨rfl,rfl,e,v⟩)) ?aft)
 case all=>
  rintro c z (⟨u,_⟩|⟨_,B,hD⟩)
  .lia
  .exact⟨B,hD⟩
 case one=>
  rintro x c z _ u (⟨rfl,rfl,b2,t0⟩|⟨r,rfl,hD⟩)
  .dsimp only;rw[bF We];rw[Nat.sub_zero,Nat.min_self,Nat.zero_add];refine oP (ad7 h0 (iP _) We b2 t0 λm k κ b3 m1 m2 t o=>?_);dsimp only;by_cases d:m<a₀.size
   .rw[cq d];refine oP (wpS_lift (wpAny_rule ⟨rfl,?_⟩));refine oP (ad8 h0 (iP _) m2 m1 b3 t o λj i g n p=>?_);simp only[Bool.not_true,tw,ti];refine oP (wpS_get ?_);have b:(pendingOf j).back? = none:=by rw[g.pend];rfl
    rw[b];dsimp only;exact oP (wpS_modify (q0 (.inr ⟨We,by first|rfl|rw[Nat.zero_add],al9 g n p⟩)))
   .rw[bF d];have hm:m=a₀.size:=by lia
    subst hm;refine oP (wpS_get ?_);have b:(pendingOf k).back? = none:=by rw[b3.pend];rfl
    rw[b];dsimp only;exact oP (wpS_modify (q0 (.inr ⟨We,by first|rfl|rw[Nat.zero_add],al9 b3 t o⟩)))
  .dsimp only;rw[cq (iP _)];exact q0 ⟨rfl,hD⟩
 case aft=>
  rintro c z ⟨rfl,hD⟩;dsimp only;refine oP (wpS_mono (Jk (I:=λ_ c y=>y=z/\c=(none,())) (Q:=λc y=>y=z/\c=(none,())) ?_ (λ_ _ q=>q) ⟨rfl,rfl⟩) ?_)
  .rintro x c y _ _ ⟨rfl,rfl⟩;refine oP (wpS_get ?_);rw[cq (by rw[hD.2.1];exact iP 1)];exact q0 ⟨rfl,rfl⟩
  .rintro c y ⟨rfl,rfl⟩;obtain⟨κ,t,o,l⟩:=hD.2.2;exact q0 (h _ κ hD.1 t o l)
end
def M7{a c:AT}(p:a.Perm c)(s:a.Pairwise (· ≥ ·)):a=(sortI c).reverse:=by
 have h:=A6 ((List.reverse_perm a).trans p) (List.pairwise_reverse.2 (s.imp λh=>h));rw[← h,List.reverse_reverse]
def tSR(K:Frag)(t:TA):TE:=λσ H Q=>t σ H λvs H1=>∃p ns,vs=[.ref p]/\oG K H1 p (ns.map .int)/\ns.length<64/\∀l,H1 l=none->Q (.ref l) (upd H1 l (.lst ((sortI ns).reverse.map .int)))
theorem UM{t:TA}{p p1:Pos}{kj:Nat}(m:Gl X "sorted")(hm:QhR)(n:PA X [e] t)(hs:Qad) :
  PE X (.Call (.Name "sorted" p) [e] [⟨some "reverse",.Constant QfK kj p1,p2⟩] pos) (tSR X.K t):=by
 intro pins s σ H Q I h;have l:PK X [⟨some "reverse",.Constant QfK kj p1,p2⟩] _:=Xo alK adi;refine x4 (qp I m hm uw ?_);refine callWith_kw (fX Qjk λus s1 zz=>?_) (by rw[hs];rfl) (by rw[hs];rfl) rfl rfl;obtain⟨vs,H1,x,g,i⟩:=zz;refine fX (l pos pins s1 σ H1 (λzs H2=>zs=[.bl true]/\H2=H1) x ⟨rfl,rfl⟩) λws s2 zz=>?_;obtain⟨zs,H2,a,c,e1,e2⟩:=zz;subst e1;subst e2;obtain⟨u,rfl,f⟩:=c.one;cases f;obtain⟨q,ns,rfl,k,y,kk⟩:=i;obtain⟨v,rfl,d⟩:=g.one;cases d;obtain⟨its,b,pl,hz⟩:=a.list k;have hlen:=b.length;rw[dm]at hlen;refine sorted_ints_rev pl.isList (intsAre_of b) We λout j a1 a2 a3=>?_;obtain⟨o,he⟩:=sortedAll_at s2.heap its out;have r:=M7 a2 a3;subst r;refine⟨.ref (s2.heap.objs.size+1),_,a.laid (t':=s2.toks) (λ_ _=>sortedAll_old) (tI _) (show gQ X.prog X.w _ _ _ QdB from⟨?_,out.toList,o,uv a1,?_⟩),rfl,kk _ (a.fC.fresh (tI _))⟩
 .rw[dm,x7,qi];simp_all
 .simpa using he
variable{p1:Pos}{kj:Nat}
def UN{l:AT}(hm:QhR)(h:QiT)(j:l.length<64)(m:Gl X "sorted")(hs:Qad:=by exact bC rfl) :
  cY X CL b (.Call Qj5 [e] [⟨some "reverse",.Constant QfK kj p1,p2⟩] pos) δ (.lst (((sortI l).reverse.map .int).map T.sh)) δ1:=λH Z σ ts vs Q S k=>
 cK (UM m hm Qay hs) (h H Z σ ts vs _ S λv H1 Z1 d k1 o r=>by
  obtain⟨a,us,rfl,g,f⟩:=r.g6;have:=yj f;subst this;refine⟨a,l,rfl,g,j,λp i=>?_⟩;obtain⟨c,n⟩:=(bH.pF (ints_rep _) o).kN (g0:=[]) WA i;exact k _ _ _ d Qcu n)
def X1(hi:X.N[i]? = some x)(h:X.env.scope.names.lookup x=some .local)(hf:X.fn x=true)(hd:AD x:=by decide)(a:AE x:=by decide):Ln X i x:=⟨⟨hi,.inl h,hd,a⟩,.inl h,.inl hf⟩
def mkC(hi:X.N[i]? = some x)(h:X.env.scope.names.lookup x=some .cell)(hf:X.fn x=true)(hd:AD x:=by decide)(a:AE x:=by decide):Ln X i x:=⟨⟨hi,.inr (.inl h),hd,a⟩,.inr h,.inl hf⟩
def XT{w:World}{f:Addr}{sp:Sp}(G:eV P w K mg base mJ k f fd ps sp)(m:mg x=some Q0)(q:QhN)(b:Binds K fd ps []) :
  ∃f fd ps,eV P w K mg base mJ k f fd ps sp/\mg x=some Q0/\keepIn K Q0=true/\Binds K fd ps []:=⟨_,_,_,G,m,q,b⟩
variable{px:Pos}{p:L3.D->Bool}{g:L3.D->T}{ds:BB}
def LM(sc:QdO):ur X scope [y] Nc ix:=⟨sc.kind,sc.CD,sc.nd,sc.names,(λx a=>by rw[n4]at a;subst a;exact sc.own),sc.frees,sc.hd,sc.xm⟩
noncomputable def RO(sc:QdO)(h:QlA)(h1:AD y)(h2:AE y):CM X CL scope Nc [y].length (.Name y px) part1 ifs elt δc ds p g:=λC s0 b f0 a=>
 ⟨adP sc.nd (UG (by rw[sc.hd];rfl) sc.own h1 h2),λd hd=>⟨[d],rfl,rfl,(h C s0 b f0 a d hd).1,(h C s0 b f0 a d hd).2⟩⟩
def rJ(sc:QdO)(a:QaA)(h:QlE)(c:(δc=GB δ1 ix/\∀d∈ds,(g d).clean=true)\/δc=CG δ1 ix)(inner:QlA)(hlen:QbM)
  (hs:Qcc:=by intro _;rfl) (h1:AD y:=by decide) (h2:AE y:=by decide):cY X CL b QkC δ (.lst ((ds.filter p).map g)) δ1:=
 GO (LM sc) a (al2 h) c (RO sc inner h1 h2) hlen hs
def UO{D:gi}{gg:L3.D->T}(g:Gx X)(n:QbJ)(sc:QdO)(h:QlE)(c:(δc=GB δ1 ix/\∀d∈ds,(gg d).clean=true)\/δc=CG δ1 ix)(inner:Block X CL scope Nc ifs elt δc ds p gg)
  (hlen:QbM) (k:dW X CL b fU (δ1.set i (some (.lst ((ds.filter p).map gg)))) D) (a:Qbm)
  (e:swapsWith Qip Qfg pos.line X.env=pure true\/swapsWith Qip Qfg pos.line X.env=pure false) (hs:Qcc:=by intro _;rfl)
  (h1:AD y:=by decide) (h2:AE y:=by decide):dW X CL b (.Assign [.Name x pos'] Qip pos::fU) δ D:=
 an6 g n (LM sc) (al2 h) c (RO sc inner h1 h2) hlen k a e hs
variable{d:L3.D}
def aW(n:QbJ)(h:δ[i]? = some Qbq:=by rfl):dU X CL b Qan δ d δ:=aQ (v_ n.1 h)
structure bN(X:Cx):Prop where
 g:Gx X
 u:X.A.units+64<cLine
abbrev cu:NameKind:=.globalImplicit
abbrev dH:NameKind:=.local
def kg{P:At}{sc:Scope}(h1:sc.kind=.function:=by rfl)(h2:sc.isCoroutine=false:=by rfl)(e:sc.isGenerator=false:=by rfl)(d:N.Nodup:=by decide +kernel)(c:N.take P.length=P:=by rfl)(b:∀x∈P,sc.names.lookup x=some .local\/sc.names.lookup x=some .cell:=by decide +kernel)(a:∀y∈sc.names,y.2 ≠ .free:=by decide +kernel):dw N P sc:=⟨h1,h2,e,d,c,b,a⟩
variable{tb:D1}
def rX(c:Qj6)(j:Nat)(a:tb[j]? = some (x,.local):=by rfl)(hi:X.N[i]? = some x:=by rfl)(hf:X.fn x=true:=by rfl)(hd:AD x:=by decide)(b:AE x:=by decide):Ln X i x:=X1 hi (cE c j a) hf hd b
def A7(c:Qj6)(j:Nat)(a:tb[j]? = some (x,.cell):=by rfl)(hi:X.N[i]? = some x:=by rfl)(hf:X.fn x=true:=by rfl)(hd:AD x:=by decide)(b:AE x:=by decide):Ln X i x:=mkC hi (cE c j a) hf hd b
def rK(c:Qj6)(j:Nat)(a:tb[j]? = some (x,.globalImplicit):=by rfl):Gl X x:=cE c j a
def dD{m:Nat}{arg:Qai}{Pre:QP}{res:Q4}(F:∃f fd ps,eV X.prog X.w X.K X.mg X.base mJ k f fd ps Qjj/\X.mg x=some Q0/\keepIn X.K Q0=true/\Binds X.K fd ps [])(r:eN m X.A)(h:k<=m:=by decide):Fc X CL x k n arg Pre res:=⟨F,r.mono h⟩
variable{δ':BA}{σ':L2.St}{y:Addr}
theorem bH.asM(S:Qag)(hi:δ[i]? = some QfJ):σ[i]? = some (some QdA)/\bH K CL b H Z (δ.set i Qar) σ ts vs:=by
 obtain⟨fp,gp,e,r,nd,k⟩:=S.rep;obtain⟨v0,f1,f2,c,hv,a,rt,put,_⟩:=e.get hi;subst a;replace rt:=rt.Uo;obtain⟨rfl,rt⟩:=rt;have e2:=put Qy Qc9 rt;rw[iC hv]at e2;exact⟨hv,⟨⟨_,gp,e2,r,nd,k⟩,S.bh,S.zz,S.zh,S.new,S.tp,S.tab⟩⟩
noncomputable def zV(H:Hp)(gp:BN):Hp:=λc=>if c∈gp then none else H c
def lD{c:Addr}(h:c∉gp):zV H gp c=H c:=bF h
def uy{c:Addr}(h:c∈gp):zV H gp c=none:=cq h
def qj{c:Addr}(h:zV H gp c=some o):c∉gp/\H c=some o:=by
 by_cases a:c∈gp
 .rw[uy a]at h;cases h
 .rw[lD a]at h;exact⟨a,h⟩
theorem bH.cut(S:bH K CL b H Z δ σ (tl++ts) (us++vs))(l:tl.length=us.length):∃gp,bA K CL H Z tl us gp/\gp.Nodup/\bH K CL b (zV H gp) Z δ σ ts vs:=by
 obtain⟨fp,g,e,r,nd,k⟩:=S.rep;obtain⟨g1,g2,rfl,j,i⟩:=bA.split l r;have f:(fp++(g1++g2)).Perm (g1++(fp++g2)):=by
  rw[← nr,← nr];exact ro.append_right g2
 have d:=oT.1 (f.nodup_iff.1 nd);have ne:∀c∈fp++g2,c∉g1:=λc a h=>d.2.2 c h c a rfl;have own:∀c∈g1,Z c=none/\b.B c=none:=λc a=>k c (j9 _ (nv _ a));refine⟨g1,j,d.1,⟨⟨fp,g2,e.mono Qy (λc a=>lD (ne c (nv _ a))),i.mono Qy (λc a=>lD (ne c (j9 _ a))),d.2.1,λc a=>k c (f.mem_iff.2 (j9 _ a))⟩,λc o q=>?_,S.zz,λc o q=>?_,S.new,λc o q im=>S.tp c o (qj q).2 im,S.tab⟩⟩
 .rw[lD (λh=>by rw[(own c h).2]at q;cases q)];exact S.bh c o q
 .rw[lD (λh=>by rw[(own c h).1]at q;cases q)];exact S.zh c o q
theorem bH.Ts{W':Hp}(S:Qag)(k:QbW)(ww:aM Z W')(l:aM W' H')(new:∀a o,W' a=some o->Z a=none->H a=none)
  (tp:∀a o,H' a=some o->kM o=true->W' a=some o) (r:bA K CL H' W' tl us fp) (nd:fp.Nodup) (own:∀a∈fp,W' a=none/\H a=none):bH K CL b H' W' δ σ (tl++ts) (us++vs):=by
 obtain⟨f0,g0,e0,g,f,k0⟩:=S.rep;have old:∀a∈f0++g0,∃o,H a=some o:=λa d=>(f9.1 d).elim (e0.there a) (g.there a);have keep:∀a∈f0++g0,H' a=H a:=λa d=>by
  obtain⟨o,e⟩:=old a d;rw[e];exact k a o e
 have j:(f0++(fp++g0)).Perm (fp++(f0++g0)):=by
  rw[← nr,← nr];exact ro.append_right g0
 have wn:∀a∈f0++g0,W' a=none:=λa d=>by
  cases q:W' a with
  | none=>rfl
  | some o=>
   obtain⟨u,e⟩:=old a d;rw[new a o q (k0 a d).1]at e;cases e
 refine⟨⟨f0,fp++g0,e0.mono ww (λa d=>keep a (nv _ d)),bA.app r (g.mono ww λa d=>keep a (j9 _ d)),?_,λa d=>?_⟩,S.bh.trans k,S.zz.trans ww,l,λa o q z=>?_,tp,S.tab⟩
 .refine j.nodup_iff.2 (oT.2 ⟨nd,f,λa d c m e=>?_⟩);subst e;obtain⟨o,q⟩:=old a m;rw[(own a d).2]at q;cases q
 .obtain h|h:=f9.1 (j.mem_iff.1 d)
  .exact⟨(own a h).1,Us S.bh (own a h).2⟩
  .exact⟨wn a h,(k0 a h).2⟩
 .cases i:Z a with
  | none=>exact Us S.bh (new a o q i)
  | some u=>
   exact S.new a u i z
def Z9:Bi->Bi->Prop
 | [],[]=>True
 | .sh d::l,.sh e::m=>d=e/\Z9 l m
 | .pin x _::l,.pin z _::m=>x=z/\Z9 l m
 | _,_=>False
def Keeps(δ:BA)(ol:Bi):Prop:=∀(j:Nat) (y:Addr) (t:T),ol[j]? = some (T.pin y t)->δ[j]? = some (some (T.pin y t))
theorem Keeps.tail{o:Qcd}{d:T}{ol:Bi}(k:Keeps (o::δ) (d::ol)):Keeps δ ol:=λj y t h=>k QA y t h
theorem fH.outs{W W':Hp}(ww:aM W W'):∀{al ol:Bi} {vs:BY} {g0:BN} {δ:BA} {σ:L2.St} {fp:BN},Z9 al ol->bA K CL H W al vs g0->fH K CL H' W' δ σ fp->Keeps δ ol->∃g,bA K CL H' W' ol vs g/\g.Sublist fp:=by
 intro al
 induction al with
 | nil=>
  intro ol vs g0 δ σ fp b f _ _;cases f;cases ol with
  | nil=>exact⟨[],.nil,List.nil_sublist _⟩
  | cons _ _=>cases b
 | cons a al c=>
  intro ol vs g0 δ σ fp b f re k;cases f with
  | cons r rs=>
  cases ol with
  | nil=>cases a<;>cases b
  | cons o ol=>
  cases a with
  | sh d=>
   cases o with
   | sh e=>
    obtain⟨h1,h2⟩:=b;subst h1;replace r:=r.MB;obtain⟨rfl,r⟩:=r;cases re with
    | nil=>
     obtain⟨g,q,s⟩:=c h2 rs (.nil (H:=H') (Z:=W')) (λj y t h=>by have:=k QA y t h;simp at this);exact⟨[]++g,.cons (.sh (r.mono ww)) q,s⟩
    | skip re=>
     obtain⟨g,q,s⟩:=c h2 rs re k.tail;exact⟨[]++g,.cons (.sh (r.mono ww)) q,s⟩
    | cons rt re=>
     obtain⟨g,q,s⟩:=c h2 rs re k.tail;exact⟨[]++g,.cons (.sh (r.mono ww)) q,s.trans (FA _ _)⟩
   | _=>cases b
  | pin x t0=>
   cases o with
   | pin z t=>
    obtain⟨h1,h2⟩:=b;subst h1;have h0:=k 0 x t rfl;replace r:=r.Uo;obtain⟨rfl,r⟩:=r;cases re with
    | nil=>simp at h0
    | skip re=>simp at h0
    | cons rt re=>
     simp at h0;subst h0;obtain⟨g,q,s⟩:=c h2 rs re k.tail;replace rt:=rt.Uo;obtain⟨rfl,rt⟩:=rt;exact⟨_,.cons (.pin rt) q,vu (tj _) s⟩
   | _=>cases b
  | _=>cases o<;>cases b
noncomputable def UQ(N:At)(al:Bi):BA:=al.map some++List.replicate (N.length-al.length) none
theorem Ep:∀{al:Bi} {vs:BY} {gp:BN} (n:Nat),bA K CL H Z al vs gp->fH K CL H Z (al.map some++List.replicate n none) (vs.map some++List.replicate n none) gp
 | _,_,_,n,.nil=>kO (ds:=[]) (vs:=[]) n .nil
 | _,_,_,n,.cons r t=>.cons r (Ep n t)
def sx(K:Frag)(CL:BC)(n:Nat)(arg:Qam)(Pre:QP)(res:Q4)(out:Qam):Sp:=λvs H Q _=>
 ∃(W:Hp) (a:A) (gp:BN),aM W (zV H gp)/\(∀c o,H c=some o->kM o=true->W c=some o)/\bA K CL H W Qb4 vs gp/\gp.Nodup/\(arg a).length=n/\Pre a/\oK CL W ∧
  ∀v H' W' fp,aM (zV H gp) H'->aM W W'->aM W' H'->(∀c o,W' c=some o->W c=none->zV H gp c=none)->(∀c o,H' c=some o->kM o=true->W' c=some o) →
   bA K CL H' W' (res a::out a) QaP fp->fp.Nodup->(∀c∈fp,W' c=none/\zV H gp c=none)->Q v H'
def M8{w:World}{f:Addr}{arg:Qam}{Pre:QP}{res:Q4}{out:Qam}(F:QcZ)(S:QbV)(B:∀a,Pre a->Z9 Qb4 QcJ)
  (L:∀(gy:Value) (l:Qal) (outer:DA) (s:Qb) (H:Hp) (E:XK) (b:Bx) (a:A),eN k (l.deeper Qci)->Pre a →
   dW (rC mJ P w K mg base N qual Qaz f gy l outer s H E).Mu CL b Qbl (UQ N Qb4) {nx:=λδ=>res a=.sh .non/\Keeps δ QcJ,rt:=λt δ=>t=res a/\Keeps δ QcJ}) :
  eV P w K mg base mJ Qau f fd ps QiK:=by
 refine F.ok S (λvs H Q E h=>?_) (λgy l outer s H vs Q E J h=>?_)
 .obtain⟨W,a,gp,_,_,r,_,C,_⟩:=h;rw[← r.length];exact C
 .obtain⟨W,a,gp,u,tp,r,nd,C,m,tb,kk⟩:=h;have wn:∀c∈gp,W c=none:=λc i=>by
   cases q:W c with
   | none=>rfl
   | some o=>exact absurd i (qj (u c o q)).1
  refine⟨_,Uq,L gy l outer s H E ⟨zV H gp,W⟩ a J m H W _ [] [] _ ⟨⟨gp,[],?_,.nil,by rw[n2];exact nd,λc i=>?_⟩,λc o q=>(qj q).2,.refl _,λc o q=>(qj (u c o q)).2,λc o q z=>?_,tp,tb⟩ ⟨λδ' σ' H' Z' s' d e=>?_,λt v H' Z' δ' σ' s' d e=>?_,λ_ _ _ _ _ _ e=>e.elim,λ_ _ _ _ _ _ e=>e.elim⟩⟩
  .unfold UQ L2.start;rw[← r.length];exact Ep _ r
  .rw[n2]at i;exact⟨wn c i,uy i⟩
  .have G:W c=some o:=q;have p:W c=none:=z;rw[G]at p;cases p
  .obtain⟨e1,e2⟩:=e;obtain⟨fp,M,re,y,n,own⟩:=d.rep;obtain⟨g,q,j⟩:=fH.outs d.zz (B a m) r re e2;have I:=(oT.1 n).1;exact kk .non H' Z' ([]++g) d.bh d.zz d.zh d.new d.tp (.cons (by rw[e1];exact .sh .non) q) (I.sublist j) λc i=>own c (nv _ (j.subset i))
  .obtain⟨e1,e2⟩:=e;subst e1;obtain⟨fp,M,re,y,n,own⟩:=d.rep;obtain⟨g,q,j⟩:=fH.outs d.zz (B a m) r re e2;cases y with
   | @cons _ _ _ _ f1 f2 D O=>
    have sub:(g++f1).Sublist (fp++(f1++f2)):=vu j (T1 _ _);have pm:(f1++g).Perm (g++f1):=ro;exact kk v H' Z' (f1++g) d.bh d.zz d.zh d.new d.tp (.cons D q) (pm.nodup_iff.2 (n.sublist sub)) λc i=>own c (sub.subset (pm.mem_iff.1 i))
def Rc(σ:L2.St):CU->BN->Prop
 | [],[]=>True
 | i::is,y::ys=>σ[i]? = some (some QdA)/\Rc σ is ys
 | _,_=>False
def vH:Bi->BN->Bi->Prop
 | [],[],[]=>True
 | .sh _::ol,ys,ns=>vH ol ys ns
 | .pin y t::ol,z::ys,n::ns=>y=z/\(n=t\/n=.pin y t)/\vH ol ys ns
 | _,_,_=>False
noncomputable def UR:BA->CU->Bi->BA
 | δ,i::is,n::ns=>UR (δ.set i (some n)) is ns
 | δ,_,_=>δ
theorem bH.YU:∀{ol:Bi} {us:BY} {is:CU} {ys:BN} {ns:Bi} {δ:BA},bH K CL b H Z δ σ (ol++ts) (us++vs)->ol.length=us.length->Rc σ is ys->vH ol ys ns->(∀i∈is,i<δ.length)->bH K CL b H Z (UR δ is ns) σ ts vs:=by
 intro ol
 induction ol with
 | nil=>
  intro us is ys ns δ S e c a hi;cases us with
  | cons _ _=>cases e
  | nil=>
   cases ys with
   | cons _ _=>cases a
   | nil=>
    cases is with
    | cons _ _=>cases c
    | nil=>
     rw[UR.eq_def];exact S
 | cons o ol k=>
  intro us is ys ns δ S e c a hi;cases us with
  | nil=>cases e
  | cons u us=>
  cases o with
  | sh d=>exact k S.pop (Nat.succ.inj e) c a hi
  | pin y t=>
   cases ys with
   | nil=>cases a
   | cons z ys=>
   cases ns with
   | nil=>cases a
   | cons n ns=>
   cases is with
   | nil=>cases c
   | cons i is=>
   obtain⟨h1,m,a⟩:=a;subst h1;obtain⟨g,c⟩:=c;have l:u=.ref y:=by
    obtain⟨_,_,_,r,_,_⟩:=S.rep;cases r with
    | cons r _=>cases r;rfl
   subst l;have f:=hi i eU;have h:=S.set f;rw[iC g]at h;have q:bH K CL b H Z (δ.set i (some n)) σ (ol++ts) (us++vs):=by
    obtain rfl|rfl:=m
    .have:=(h.asM (Fs f)).2
     rwa [List.set_set]at this
    .exact h
   exact k (δ:=δ.set i (some n)) q (Nat.succ.inj e) c a λj p=>by rw[ui];exact hi j (jk _ p)
  | _=>cases a
section
variable{D:gi}{is:CU}{fx:BN->Prop}{al:BN->Bi}
def kQ(X:Cx)(CL:BC)(b:Bx)(e:Expr)(δ:BA)(t:T)(δ':BA):Prop:=
 ∀(H Z:Hp) (σ:L2.St) (ts:Bi) (vs:BY) (Q:VK),bH X.K CL b H Z δ σ ts vs->(∀v H' Z',aM Z Z'->bH X.K CL b H' Z' δ' σ (t::ts) QaP->Q v H')->zP X e σ H Q
theorem cY.m(h:QaG):kQ X CL b e δ t δ1:=λH Z σ ts vs Q S k=>h H Z σ ts vs Q S λv H' Z' z _ a=>k v H' Z' z a
def aiO(h:QbB)(k:D.rt t δ1):Ut X CL b QjA δ D:=λH Z σ ts vs E S M=>rV (ac1 dN) (h H Z σ ts vs _ S λv H1 Z1 a c=>M.rt t v H1 Z1 δ1 σ a c k)
def aec(h:QbB)(k:D.nx δ1)(hs:QgA:=by rfl):Ut X CL b (.Expr e pos) δ D:=λH Z σ ts vs E S M=>rV (x8 dN hs) (h H Z σ ts vs _ S λv H1 Z1 a c=>M.nx δ1 σ H1 Z1 a c.pop k)
def aiP(i:Nat)(h:QbB)(k:D.nx (δ1.set i Qar))(d:Qbm:=by decide)(f:Qa9:=by assumption)(hi:X.N[i]? = some x:=by rfl)(c:Qc3:=by first|exact .inl rfl|exact .inr rfl)
  (hs:Qeg:=by rfl) (hf:AM X x:=by first|exact .inl rfl|exact .inr rfl|assumption):Ut X CL b Qi0 δ D:=λH Z σ ts vs E S M=>
 rV (ac3 f hi c dN hs hf) (h H Z σ ts vs _ S λv H1 Z1 a g=>M.nx _ _ H1 Z1 a (g.set d) k)
def uk(X:Cx)(CL:BC)(b:Bx)(es:Cc)(δ:BA)(is:CU)(fx:BN->Prop)(al:BN->Bi)(δ':BA):Prop:=
 ∀(H Z:Hp) (σ:L2.St) (ts:Bi) (vs:BY) (Q:EQ),bH X.K CL b H Z δ σ ts vs →
  (∀ys us H' Z',ys.length=is.length->Rc σ is ys->fx ys->us.length=(al ys).length->aM Z Z'->aM H H'->bH X.K CL b H' Z' δ' σ ((al ys).reverse++ts) QdL->Q us H')->Up X es σ H Q
def uz:uk X CL b [] δ [] (λ_=>True) (λ_=>[]) δ:=λH Z σ ts vs Q S k=>JS dS (k [] [] H Z rfl trivial trivial rfl Qy Qy S)
def rL(h1:Qg9)(h2:uk X CL b es δ1 is fx al δ2)(hs:Qaf:=by exact bC rfl):uk X CL b Qab δ is fx (λys=>.sh d::al ys) δ2:=λH Z σ ts vs Q S k=>
 JS (bZ dN JF hs) (h1 H Z σ ts vs _ S λv H1 Z1 c k1 j=>h2 H1 Z1 σ _ _ _ j λys us H2 Z2 f h hf g a k2 i=>k ys (v::us) H2 Z2 f h hf (by simp[g]) QbO Qao (by
  rw[rh,rh,nr,nr];exact i))
noncomputable def T.isRef:T->Bool
 | .lst _=>true
 | .ins _ _=>true
 | .tE _=>true
 | .dct _=>true
 | _=>false
theorem bH.aof(S:Qck)(h:t.isRef=true):∃y,v=.ref y/\bH K CL b H Z δ σ (.pin y t::ts) (.ref y::vs):=by
 obtain⟨fp,gp,e,r,nd,k⟩:=S.rep;cases r with
 | cons r rs=>
  cases r with
  | sh r=>cases h
  | tup r _=>cases h
  | pin r=>cases h
  | Ei r _ _=>cases h
  | lst r q=>exact⟨_,rfl,⟨⟨fp,_,e,.cons (.pin (.lst r q)) rs,nd,k⟩,S.bh,S.zz,S.zh,S.new,S.tp,S.tab⟩⟩
  | ins r q=>exact⟨_,rfl,⟨⟨fp,_,e,.cons (.pin (.ins r q)) rs,nd,k⟩,S.bh,S.zz,S.zh,S.new,S.tp,S.tab⟩⟩
  | tE r q=>exact⟨_,rfl,⟨⟨fp,_,e,.cons (.pin (.tE r q)) rs,nd,k⟩,S.bh,S.zz,S.zh,S.new,S.tp,S.tab⟩⟩
  | dct r q=>exact⟨_,rfl,⟨⟨fp,_,e,.cons (.pin (.dct r q)) rs,nd,k⟩,S.bh,S.zz,S.zh,S.new,S.tp,S.tab⟩⟩
def A8(n:QaI)(h:δ[i]? = some QfJ)(h2:uk X CL b es (δ.set i none) is fx al δ2)(hs:starEach (.Name x pos::es) X.env=(false,eval Qan X.env)::starEach es X.env:=by exact bC rfl) :
  uk X CL b (.Name x pos::es) δ (i::is) (λys=>ys.headD 0=y/\fx ys.tail) (λys=>.pin y t::al ys.tail) δ2:=λH Z σ ts vs Q S k=>by
 obtain⟨v,e,a⟩:=S.move h;have hv:v=.ref y:=by
  obtain⟨_,_,_,r,_,_⟩:=a.rep;cases r with
  | cons r _=>cases r;rfl
 subst hv;exact JS (bZ QdF JF hs) ⟨_,e,h2 H Z σ _ _ _ a λys us H2 Z2 d g hf f c k2 j=>k (y::ys) (.ref y::us) H2 Z2 (by simp[d]) ⟨e,g⟩ ⟨rfl,hf⟩ (by simp[f]) c k2 (by
  show bH _ _ _ _ _ _ _ ((T.pin y t::al ys).reverse++ts) _;rw[rh,rh,nr,nr];exact j)⟩
def aee{f:Addr}{arg:Qam}{Pre:QP}{res:Q4}{out:Qam}(a:BN->A)(ns:Bi)(F:Qii)(M:Qbv)(hm:QfO)(O:QfC)(U:Qcq)
  (h:uk X CL b Qab δ is fx al δ1) (V:∀ys,ys.length=is.length->fx ys->arg (a ys)=al ys/\(arg (a ys)).length=n/\Pre (a ys)/\res (a ys)=t/\vH (out (a ys)) ys ns) (J1:∀i∈is,i<δ1.length) (R:Q3)
  (J:AD x:=by decide) (he:Qaf:=by exact bC rfl) (hpl:Qas:=by rfl) :
  kQ X CL b QbC δ t (UR δ1 is ns):=λH Z σ ts vs Q S kk=>
 cK (Mw F M R hm O U .nil vG JF J he hpl) (h H Z σ ts vs _ S λys us H1 Z1 m EK hf o G k1 u=>by
  rw[n2];obtain⟨q,p,N,j,l⟩:=V ys m hf;obtain⟨g,r,nd,s⟩:=u.cut (by simp[o]);obtain⟨g',y,pm⟩:=r.rev;have W:zV H1 g=zV H1 g':=funext λc=>by
   by_cases d:c∈g
   .rw[uy d,uy (pm.mem_iff.2 d)]
   .rw[lD d,lD (λz=>d (pm.mem_iff.1 z))]
  rw[W]at s;rw[← q]at y;refine⟨Z1,a ys,g',s.zh,u.tp,y,pm.nodup_iff.2 nd,p,N,u.Ur,λv H' W' fp P ww I nw tp rt Y own=>?_⟩;cases rt with
  | @cons _ _ _ _ f1 f2 L B=>
   have C:(f2++(f1++[])).Perm (f1++f2):=by rw[n2];exact ro
   have E:=s.Ts P ww I nw tp (bA.app B (.cons L .nil)) (C.nodup_iff.2 Y) λc d=>own c (C.mem_iff.1 d);rw[nr,nr]at E;have D:=E.YU B.length EK l J1;rw[j]at D;exact kk v H' W' (G.trans ww) D)
structure TX(X:Cx)(CL:BC)(x:Str)(k n:Nat){A:Type}(arg:Qam)(Pre:QP)(res:Q4)(out:Qam):Prop where
 ex:∃f fd ps,eV X.prog X.w X.K X.mg X.base mJ k f fd ps Qij/\X.mg x=some Q0/\keepIn X.K Q0=true/\Binds X.K fd ps []
 room:eN k X.A
def cM1{arg:Qam}{Pre:QP}{res:Q4}{out:Qam}(a:Addr->A)(c:T)(F:Qi4)(p:Q3)(h:uk X CL b Qab δ [i] fx al δ1)(g:∀y,fx [y]->Pre (a y))(v:∀y,fx [y]->res (a y)=t)(u:∀y,fx [y]->vH Qgb [y] [c])
  (s:∀y,fx [y]->arg (a y)=al [y]:=by intros;rfl) (hlen:∀y,(arg (a y)).length=n:=by intros;rfl) (w:Qbm:=by exact k6 rfl)
  (d:AD x:=by decide) (he:Qaf:=by exact bC rfl) (hpl:Qas:=by rfl) :
  kQ X CL b QbC δ t (δ1.set i (some c)):=by
 obtain⟨⟨f,fd,ps,G,m,q,bd⟩,r⟩:=F;exact aee (λys=>a (ys.headD 0)) [c] G r m q bd h (λys l hf=>match ys,l,hf with | [y],_,hf=>⟨s y hf,hlen y,g y hf,v y hf,u y hf⟩) (λj o=>by cases n4.1 o;exact w) p d he hpl
def g9(g:Gx X)(n:QbJ)(h:QbB)(k:QiR)(a:Qbm:=by exact k6 rfl)(hs:Qeg:=by rfl) :
  dW X CL b QiV δ D:=cH (aiP i h k a g.nd n.hi n.loc hs n.hf)
def wg(h:QbB)(k:D.rt t δ1):dW X CL b (.Return (some e) pos::fU) δ D:=cH (aiO h k)
def Ng(h:QbB)(k:dW X CL b fU δ1 D)(hs:QgA:=by rfl):dW X CL b (.Expr e pos::fU) δ D:=cH (aec h k hs)
end
noncomputable def A9{α:Type}(g:α->Int)(x:α):List α->List α
 | []=>[x]
 | y::l=>if g x<=g y then x::y::l else y::A9 g x l
def e9{α:Type}(g:α->Int):List α->List α
 | []=>[]
 | x::l=>A9 g x (e9 g l)
variable{g:α->Int}
theorem CN(x:α):∀l,(A9 g x l).Perm (x::l)
 | []=>.refl _
 | y::l=>by
  rw[A9];split
  .exact .refl _
  .exact((CN x l).cons y).trans (.swap x y l)
theorem jI:∀l:List α,(e9 g l).Perm l
 | []=>.refl _
 | x::l=>(CN x _).trans ((jI l).cons x)
def mR{l:QT}{x:α}:x∈e9 g l↔x∈l:=(jI l).mem_iff
def yk(l:QT):(e9 g l).length=l.length:=(jI l).length_eq
theorem Rq(f:β->α)(x:β):∀l,A9 g (f x) Qdu=(A9 (λy=>g (f y)) x l).map f
 | []=>rfl
 | y::l=>by
  rw[og,A9,A9];split
  .rfl
  .rw[og,Rq f x l]
theorem qk(f:β->α):∀l:List β,e9 g Qdu=(e9 (λy=>g (f y)) l).map f
 | []=>rfl
 | x::l=>by rw[og,e9,e9,qk f l,Rq]
def UT(g:Qfc)(i j:Nat):Prop:=g i<g j\/(g i=g j/\i<j)
theorem UT.trans{g:Qfc}(a:UT g i j)(b:UT g j k):UT g i k:=by
 unfold UT at *;lia
theorem UT.X2{g:Qfc}(a:UT g i i):False:=by unfold UT at a;lia
theorem Rr{g:Qfc}{x:Nat}:∀{l:CU},l.Pairwise (UT g)->(∀y∈l,x<y)->(A9 g x l).Pairwise (UT g)
 | [],_,_=>wz _ _
 | y::l,h,a=>by
  obtain⟨h1,h2⟩:=o8.1 h;rw[A9];split
  .refine o8.2 ⟨λz hz=>?_,h⟩;have a1:UT g x y:=by have:=a y eU;unfold UT;lia
   obtain rfl|hz:=eu.1 hz
   .exact a1
   .exact a1.trans (h1 z hz)
  .refine o8.2 ⟨λz hz=>?_,Rr h2 λz hz=>a z QcF⟩;obtain rfl|hz:=eu.1 ((CN x l).mem_iff.1 hz)
   .left;lia
   grind
theorem CP{g:Qfc}:∀{l:CU},l.Pairwise (· < ·)->(e9 g l).Pairwise (UT g)
 | [],_=>.nil
 | x::l,h=>by
  obtain⟨h1,h2⟩:=o8.1 h;exact Rr (CP h2) λy a=>h1 y (mR.1 a)
theorem Nh{g:Qfc}:∀{S A:CU},S.Pairwise (UT g)->A.Pairwise (UT g)->(∀a∈A,a∈S)->A.length<=S.length/\(A.length=S.length->A=S)
 | [],A,_,_,h=>by
  cases A with
  | nil=>exact⟨iP _,λ_=>rfl⟩
  | cons a A=>exact absurd (h a eU) WA
 | s::S,[],_,_,_=>⟨nZ _,λe=>by simp at e⟩
 | s::S,a::A,d,c,h=>by
  obtain⟨s1,s2⟩:=o8.1 d;obtain⟨a1,a2⟩:=o8.1 c;by_cases e:a=s
  .subst e;have q:=Nh s2 a2 λz hz=>(eu.1 (h z QcF)).resolve_left λe=>by subst e;exact(a1 _ hz).X2
   simp_all
  .have b:=(eu.1 (h a eU)).resolve_left e;have q:=Nh s2 c λz hz=>by
    obtain rfl|hz:=eu.1 hz
    .exact b
    .refine(eu.1 (h z QcF)).resolve_left λe2=>?_;subst e2;exact((s1 a b).trans (a1 _ hz)).X2
   grind
theorem aef{l r:QT}{κ:Db}(h:r.length=l.length)(pl:∀k,k<l.length->r[k]? = l[κ k]?)(lo:∀k,k<l.length->κ k<l.length)
  (st:∀i j x y,i<j->r[i]? = some x->r[j]? = some y->g x<g y\/(g x=g y/\κ i<κ j)):r=e9 g l:=by
 cases l with
 | nil=>cases r with
  | nil=>rfl
  | cons a r=>simp at h
 | cons d e=>
  generalize t:d::e=l at *
  let f:Nat->α:=λi=>(l[i]?).getD d
  have hf:∀i,i<l.length->l[i]? = some (f i):=λi hi=>by
   show _=some ((l[i]?).getD d);simp_all
  have p:l=(List.range l.length).map f:=FF λi=>by
   rw[o2];by_cases hi:i<l.length
   .rw[hf i hi,uh hi];rfl
   simp_all
  have o:r=((List.range l.length).map κ).map f:=FF λi=>by
   rw[o2,o2];by_cases hi:i<l.length
   .rw[pl i hi,hf _ (lo i hi),uh hi];rfl
   .rw[List.getElem?_eq_none We,List.getElem?_eq_none (by simpa using hi)];rfl
  have c:=λk b=>(pl k b).trans (hf _ (lo k b));have q:(List.range l.length).map κ=e9 (λi=>g (f i)) (List.range l.length):=by
   refine(Nh (CP (OT)) (List.pairwise_map.2 ?_) λa n=>?_).2 ?_
   .refine O0 (R:=(· < ·)) (λ{i j} hi m s=>?_) OT;exact st i j _ _ s (c i (rb.1 hi)) (c j (rb.1 m))
   .obtain⟨k,b,rfl⟩:=n3.1 n;exact mR.2 (rb.2 (lo k (rb.1 b)))
   .rw[dm,yk]
  rw[o,q,← qk,← p]
theorem UU{c f:Value}(l:B2)(h:TriplesOk l)(e:codeAmong pos (l++[rawInt pos'.line,rawInt pos'.col,c])=some f):codeAmong pos l=some f\/f=c:=by
 fun_induction TriplesOk l with
 | case1=>
  simp[codeAmong,rawInt]at e;simp_all
 | case2 a t b u x rest g=>
  simp only[uj,codeAmong]at e ⊢;split at e
  .rename_i d;rw[cq d];exact .inl e
  .rename_i d;rw[bF d];exact g h e
 | case3 l h1 h2=>exact h.elim
def LL(f:Addr)(q:Str)(ps:Arguments)(body:Expr)(sc:Scope)(cl:List QeQ)(c:Addr):Heap->Prop:=λh=>
 ∃pm a,h.get? f=some (kla_obj "<lambda>" q ps body sc cl pm c a)
structure Ia(X:Cx)(CL:BC)(x q:Str):Prop where
 code:∃c,X.env.code=.ref c/\CodeHd X.base c (CL x)
 blt:∃bm o,X.mg "__builtins__" = some (.ref bm)/\bm≠builtinsNs/\bm≠mainGlobals/\X.base.get? bm=some o/\o.cls=.type "module" /\ o.dict=some builtinsNs/\o.data=.plain
 qual:X.env.qual++"<lambda>" = q
 tab:Li x=true/\CL x≠0/\MC x=q
variable{q:Str}{params:Arguments}{body:Expr}
def aoh{Q:BS}(L:Ia X CL x q)(I:Qbe)(B:H (CL x)=some (.tabs q))(QI:∀y∈scope.names,y.2=.free->∃c,X.env.cells.lookup y.1=some c)
  (R:defaultsOf params X.env=([],[]))
  (k:∀f c H' s',L2.Inv X pins σ H' s'->aM H H'->H' f=some Qiz->H' c=some Qce->(∀b o,H' b=some o->kM o=true->H b=some o)->Q Q0 s') :
  wpAny Qr X.A (eval (.Lambda params body scope pos) X.env) Q X.xe s:=by
 obtain⟨c,V,hd⟩:=L.code;obtain⟨bm,ob,b1,b2,b3,b4,b5,b6,b7⟩:=L.blt;obtain⟨ps,N,tr,cs⟩:=I.fC _ _ B;have T:∀{b:Addr} {o:Obj},X.base.get? b=some o->b≠CL x:=λ{b o} e z=>by
  have:=(I.bs _ _ e).2;rw[z,B]at this;cases this
 have U:s.heap.Ns mainGlobals X.mg:=by
  obtain⟨o,es,ep,e,r⟩:=I.mod.glob;exact⟨o,es,ep,I.bk _ _ e,r⟩
 have J:mainGlobals≠CL x:=by
  obtain⟨o,_,_,e,_⟩:=I.mod.glob;exact T e
 have Y:s.heap.BuiltinsAt X.mg (CL x):=⟨bm,ob,b1,b2,b3,T b4,I.bk _ _ b4,b5,b6,b7⟩;refine PySem.W.kla_eval R ?_;rw[L.qual];cases hf:codeAmong pos ps.toList with
 | none=>
  refine PySem.W.kla_makeFunction (nA QI) I.ok.glob U V (hd.keeps I.bk) N tr hf J Y λg j h' tk E C nB P p=>?_;obtain⟨c₂,oc,vs,t,e2,G,K,hv⟩:=P;cases e2;have i:H g=none:=I.fC.fresh C;have m:∀{b:Addr},H b=none->b≠CL x:=λ{b} e z=>by rw[z,B]at e;cases e
  have ne':∀{b:Addr} {o:Obj},s.heap.get? b=some o->b≠g:=λ{b o} e=>oI (pE (nz e) C);have cP:CL x≠g:=ne' N;have un:Un X.fs [] H (upd H g Qce) s.heap h':=by
   refine⟨λb o e n _ _=>E b o (m n) e,λb o e n _ _=>⟨o.slots,E b o (m n) e⟩,λb o e n _=>by rw[az (ne' e)];exact n,λb o e _=>?_,λb xs e=>by rw[az (bf e i)];exact e,λb o u e=>by rw[az (bf e i)];exact e,λb ps e=>⟨#[],by rw[az (bf e i),e];simp⟩⟩;by_cases z:b=CL x
   .exact⟨_,z▸p⟩
   .exact⟨o,E b o z e⟩
  have fC:xY X.prog X.w (upd H g Qce) h':=λb u e=>by
   by_cases z:b=g
   .subst z;rw[bD]at e;cases e;exact⟨oc,vs,t,G,K,hv⟩
   .rw[az z]at e;by_cases h:b=CL x
    .subst h;rw[B]at e;cases e;refine⟨_,p,?_,λpos' O Z=>?_⟩
     .rw[Array.toList_append];exact TriplesOk_snoc _ _ _ _ tr
     .rw[Array.toList_append]at Z;obtain F|F:=UU _ tr Z
      .obtain⟨c3,e3,e4⟩:=cs pos' O F;exact⟨c3,e3,by rw[az (bf e4 i)];exact e4⟩
      .exact⟨g,F,bD⟩
    .refine(I.fC b u e).AH (λd v M r=>E d v ?_ r) (λd r=>by rw[az (bf r i)];exact r) (λd xs r=>by rw[az (bf r i)];exact r) λd z r=>by rw[az (bf r i)];exact r
     rintro rfl;obtain w|w:=M
     .exact h w.symm
     .rw[B]at w;cases w
  have I1:=I.un (t':=tk) un fC;have f1:(upd H g Qce) h'.objs.size=none:=fC.fresh (iP _);have S:=I1.laid (t':=tk) (a:=h'.objs.size) (o:=.ext QkZ) (h':=h'.push Qkp)
   (λb u e=>ot _ e) (iP _) ⟨⟨_,_,pk _ rfl⟩,⟨_,pk _ rfl⟩,λh1 h2 ⟨pm,ct,e⟩ kk=>⟨pm,ct,kk _ e⟩⟩
  refine k _ g _ _ S (λb o e=>?_) bD ?_ λb o e im=>?_
  .have l:=bf e i;have h:b≠h'.objs.size:=λz=>by
    rw[← z,az l,e]at f1;cases f1
   rw[az h,az l];exact e
  .rw[az (oI nB),bD]
  .by_cases h:b=h'.objs.size
   .subst h;rw[bD]at e;cases e;cases im
   .rw[az h]at e;by_cases l:b=g
    .subst l;rw[bD]at e;cases e;cases im
    .rw[az l]at e;exact e
 | some O=>
  obtain⟨g,rfl,D⟩:=cs pos O hf;refine PySem.W.kla_makeFunctionHit (nA QI) I.ok.glob U V (hd.keeps I.bk) N tr hf Y λj h' tk hk hsz=>?_;have S:=I.laid (t':=tk) (a:=h'.objs.size) (o:=.ext QkZ) (h':=h'.push Qkp)
   (λb u e=>ot _ (hk _ _ e)) hsz ⟨⟨_,_,pk _ rfl⟩,⟨_,pk _ rfl⟩,λh1 h2 ⟨pm,ct,e⟩ kk=>⟨pm,ct,kk _ e⟩⟩
  have f1:H h'.objs.size=none:=I.fC.fresh hsz;refine k _ g _ _ S (λb o e=>by rw[az (bf e f1)];exact e) bD (by rw[az (bf D f1)];exact D) λb o e im=>?_;by_cases h:b=h'.objs.size
  .subst h;rw[bD]at e;cases e;cases im
  .rw[az h]at e;exact e
def Er(X:Cx)(A:Qal)(q:Str)(scope:Scope)(Nc:At)(f c:Addr)(s:Qb)(H:Hp):Cx where
 prog:=X.prog
 w:=X.w
 K:=X.K
 mg:=X.mg
 base:=X.base
 A:=A.deeper (envX q scope s.heap.objs.size f (.ref c) QbK)
 N:=Nc
 gZ:=s
 q9:=H
 env:=envX q scope s.heap.objs.size f (.ref c) QbK
 outer:=X.stack
 stack:=envX q scope s.heap.objs.size f (.ref c) QbK::X.stack
 ex:=[]
 fn:=λ_=>false
 calm:=true
 pn:=[]
 xe:=λ_ _=>False
variable{A:Qal}{f c:Addr}
def aad(sc:QeF)(I:Qbe)(hA:A.frames=some X.stack)(hh:QeP){h':Heap}{tk:Nat}{u:Value}(r:QbT)
  (Z:h'.Ns s.heap.objs.size (λy=>([(x,u)]:D2).reverse.lookup y)) (C:∀b o,s.heap.get? b=some o->h'.get? b=some o) :
  L2.Inv Qfp [] (zR σ ix Qat) H {s with heap:=h',toks:=tk}:=by
 have frees:∀y∈scope.names,y.2=.free->∃c,X.env.cells.lookup y.1=some c:=λy G e=>I.ok.has y.1 (sc.frees y G e).2;have sub:∀{y:Str} {c:Addr},(fq X.env scope.names []).lookup y=some c->X.env.cells.lookup y=some c:=λ{y c} e=>uq frees (λ_ _ z=>by cases z) e;have hlen:(zR σ ix Qat).length=Nc.length:=by
  have all:∀l:CU,(∀i∈l,∃y,X.N[i]? = some y/\scope.names.lookup y=some .free)->(l.filterMap (X.N[·]?)).length=l.length:=by
   intro l
   induction l with
   | nil=>intro _;rfl
   | cons i r E=>
    intro h;obtain⟨y,e,_⟩:=h i eU;rw[rl,e];show _+1=_+1;rw[E λj t=>h j (jk _ t)]
  unfold zR;rw[sc.hd,o1,o1,dm,all ix sc.xm]
 have nil:∀b:Addr,b∉(Er X A q scope Nc f c s H).ex:=λb z=>absurd (show b∈([]:BN) from z) WA;refine⟨⟨I.ok.mod,sc.kind,rfl,rfl,iP _,λy z c h1 h2=>I.ok.inj y z c (sub h1) (sub h2),λy G=>?_,λy c hf _=>(by cases (show false=true from hf)),λ_=>hh,Around.frames_deeper hA,.inr ⟨rfl,rfl⟩,λb L=>absurd L (nil b),I.bs,oy I.ok.tf I.sz,λb o _=>nil b,λb L=>absurd L (nil b),I.stack,I.Fp⟩,
  rfl,I.bare,Un.kept C,⟨_,Z,λi y w h1 h2 h3=>?_⟩,λy c e=>?_,I.fC.fresh (iP _),λy c e=>I.nS y c (sub e),λp W=>absurd (show p∈([]:BM) from W) WA,I.fC.kept C,hlen⟩
 .have F:scope.names.lookup y=some .cell\/scope.names.lookup y=some .free:=G;obtain z|z:=F
  .exact absurd rfl (sc.CD _ (w4 z))
  .exact qy z
 .unfold zR at h2;cases i with
  | zero=>
   have d:some Qat=some (some w):=h2;cases d;have e:y=x:=by
    have g:Nc[0]? = some y:=h1;rw[sc.hd]at g;exact(o7 g).symm
   subst e;refine⟨u,r,.inl ⟨sc.own,?_⟩⟩;simp
  | succ i=>
   rw[List.getElem?_cons_succ,o2]at h2;cases D:ix[i]? with
   | none=>rw[D]at h2;cases h2
   | some j=>
    rw[D]at h2;have d:(σ[j]?).getD none=some w:=o7 h2;have t:σ[j]? = some (some w):=by
     cases q:σ[j]? with
     | none=>rw[q]at d;cases d
     | some o=>rw[q]at d;exact congrArg some d
    obtain⟨m,n,k⟩:=sc.xm j (qz D);have M:Nc[i+1]? = some m:=by
     have all:∀(l:CU) (i:Nat),(∀j∈l,∃y,X.N[j]? = some y/\scope.names.lookup y=some .free)->l[i]? = some j->(l.filterMap (X.N[·]?))[i]? = some m:=by
      intro l
      induction l with
      | nil=>intro i _ h;simp at h
      | cons a r E=>
       intro i h hi;obtain⟨ya,O,_⟩:=h a eU;rw[rl,O];cases i with
       | zero=>
        simp at hi;subst hi;rw[n]at O;cases O;rfl
       | succ i=>exact E i (λj t=>h j (List.mem_cons_of_mem _ t)) (by simpa using hi)
     rw[sc.hd,List.getElem?_cons_succ];exact all ix i sc.xm D
    have ey:m=y:=by
     have g:Nc[i+1]? = some y:=h1;rw[M]at g;exact o7 g
    subst ey;have S:=(sc.frees (m,.free) (w4 k) rfl).2;have P:yA X.env.scope m:=S.elim (λz=>.inr QcH) (λz=>.inr (.inr z));obtain⟨m0,Y,K⟩:=I.loc;obtain⟨U,V,lk⟩:=K j m w n t P;refine⟨U,V,?_⟩;obtain⟨kk,_⟩|⟨_,c',hc,T⟩:=lk
    .obtain z|z:=S
     .rw[kk]at z;cases z
     .rw[kk]at z;cases z
    .obtain⟨R,B⟩:=qy (env:=X.env) (cs:=[]) k;have:R=c':=by
      have:=sub B;rw[hc]at this;exact(o7 this).symm
     subst this;obtain⟨o,J,hd⟩:=T;exact .inr ⟨.inr k,R,B,o,C _ _ J,hd⟩
 .obtain⟨v,o,J,hd⟩:=I.cell y c (sub e);exact⟨v,o,C _ _ J,hd⟩
def aeh{u:Value}{Q:VK}(sc:QeF)(I:Qbe)(G:A.frames=some X.stack)(E:QeP)(k:A.depth<recursionLimit)
  (hf:H f=some Qiz) (F:H c=some Qce) (r:QbT)
  (M:∀cl pm cd ct u,bindArgs QkE ⟨[u],[]⟩=pure [(x,u)]) (j:scope.isCoroutine=false) (l:scope.isGenerator=false)
  (h:zP Qfp body (zR σ ix Qat) H Q):wpAny Qr A QhZ Qa1 Qa0 s:=by
 obtain⟨⟨pm,L,C⟩,_⟩:=I.fC _ _ hf;obtain⟨oc,vs,t,e1,e2,K⟩:=I.fC _ _ F;refine wpAny_call (PySem.W.kla_callFunE k C rfl j l rfl ⟨c,oc,vs,t,rfl,e1,e2,K⟩ ?_);rw[M];refine oa (wpAny_newFunctionEnv sc.CD (λy p=>?_) (λa i g=>?_) sc.kind)
 .rw[n4.1 p];exact sc.own
 .have m:∀b o,s.heap.get? b=some o->a.get? b=some o:=λb o e=>(g.2 b Qf9).trans (ot _ e);refine⟨I.nolimit.keeps m,?_⟩;have J:=aad (q:=q) (f:=f) (c:=c) (tk:=s.toks+([(x,u)]).length) sc I G E r i m;refine PySem.W.kla_codeExpr (o3 (h [] _ J) (λw s' D=>?_) λe s' z=>False.elim z);obtain⟨v',H',d,n,B⟩:=D;exact I.after ⟨v',H',d.os,d.bare,d.base,d.fC,n,B⟩
theorem aae(I:Qbe)(fp:Qf3)(new:gQ X.prog X.w Qbs s.heap a o):L2.Inv X pins σ (upd H a o) s:=by
 have d:=fp.1;refine I.step (ch:=[a]) (λb g=>?_) (λb o _ _ _ e _=>e) (λb o _ _ _ e _=>⟨ _,e⟩) (λb o f _ n=>by rw[az λz=>f (by simp[z])];exact n)
  (λb o _ e=>⟨o,e⟩) (λb xs e=>az (bf e d)▸e) (λb o u e=>az (bf e d)▸e) (λb ps e=>⟨#[],by rw[az (bf e d),e];simp⟩) (λm hm=>hm) (λb u e=>?_) I.bare
 .have e:=by simpa using g
  subst e;exact⟨fp.2.2.2.1,fp.2.1,fp.2.2.2.2.1,fp.2.2.2.2.2⟩
 .by_cases z:b=a
  .subst z;rw[bD]at e;grind
  .rw[az z]at e;exact(I.fC b u e).AH (λ_ _ _ q=>q) (λc q=>az (bf q d)▸q) (λc xs q=>az (bf q d)▸q) λc z q=>az (bf q d)▸q
def zk(kz:AT)(xs:BY):BY:=(e9 Prod.fst (kz.zip xs)).map Prod.snd
section
variable{Fq:α->β->Prop}{g1:α->Int}{g2:β->Int}
theorem Ru(d:∀p q,Fq p q->g1 p=g2 q){x:α}{y:β}(c:Fq x y){b:QT}{a:List β}(h:Paired Fq b a):Paired Fq (A9 g1 x b) (A9 g2 y a):=by
 induction h with
 | nil=>exact .cons c .nil
 | @cons p q b a r t i=>
  rw[A9,A9,d x y c,d p q r];split
  .exact .cons c (.cons r t)
  .exact .cons r i
theorem Ba(c:∀p q,Fq p q->g1 p=g2 q){b:QT}{a:List β}(h:Paired Fq b a):Paired Fq (e9 g1 b) (e9 g2 a):=by
 induction h with
 | nil=>exact .nil
 | cons r _ i=>exact Ru c r i
end
theorem GV:∀{ks us:B2} {kz:AT} {xs:BY},IntsAre ks kz->Vals xs us->Paired (λ(p:Int×V) (q:Value×Value)=>p.1=numOf q.1/\RelV p.2 q.2) (kz.zip xs) (ks.zip us)
 | _,_,_,_,.nil,_=>.nil
 | _,_,_,_,.cons n t h,.nil=>.nil
 | _,_,_,_,.cons n t h,.cons r a=>.cons ⟨rfl,r⟩ (GV h a)
theorem aei{ps:List (Int×V)}{a:List (Value×Value)}(h:Paired (λ(p:Int×V) (q:Value×Value)=>p.1=numOf q.1/\RelV p.2 q.2) ps a):Vals (ps.map Prod.snd) (a.map Prod.snd):=by
 induction h with
 | nil=>exact .nil
 | cons r _ i=>exact .cons r.2 i
theorem Rw{keys:CO}{us:B2}{xs:BY}{kz:AT}(a:IntsAre keys.toList kz)(r:QcA){arr:EU}{κ:Db}
  (t:Tag Qew arr κ (keys.zip us.toArray).size) (o:wc arr κ (keys.zip us.toArray).size) (hz:arr.size=(keys.zip us.toArray).size):Vals Qe9 (arr.map (·.2)).toList:=by
 have g:=ksk_zip keys us;have d:(keys.toList.zip us).length=(keys.zip us.toArray).size:=by simp
 have e:arr.toList=e9 (λp=>numOf p.1) (keys.toList.zip us):=by
  refine aef (κ:=κ) WD (λk a=>?_) (λk a=>?_) λi j x y l c b=>?_
  .rw[d]at a;rw[OP,t.pl k a,← g,OP]
  .rw[d]at a ⊢;exact t.lo k a
  .rw[OP]at c b;have f:=(Array.getElem?_eq_some_iff.1 b).1;have q:=o i j l (hz▸f);unfold PyProof.Rows.K at q;rw[c,b]at q;exact q
 rw[Array.toList_map,e];exact aei (Ba (λp q h=>h.1) (GV a r))
section
variable{kS l:Addr}{us:B2}{xs:BY}{kz:AT}{J:Hp->Prop}{e1:Nat}{P:PySem.Fin->Shared->Prop}
def FH(I:Qbe)(fp:pH X pins H it)(g:Obj->Obj):L2.Inv X pins σ H {s with heap:=s.heap.update it g}:=by
 have s1:=Heap.SameBut.update s.heap it g;exact I.turned (λb o n q=>(s1.2 b n).trans q) fp.1 fp.2.1 fp.2.2.2.1 fp.2.2.2.2.1 fp.2.2.2.2.2
theorem XU{st:SortSt}{keys:CO}{e:Nat}(I:Qbe)(j:pH X pins H kS)(k:Qf3)(d:kS≠a)(ok:s.heap.get? kS=some (seqObj "list" keys e))(g:s.heap.get? a=some (seqObj "list" #[] e1))
  (i:keys.size<64) (hsz:(arrOf st).size<64) (m:failedOf st=none)
  (h:∀s' c,L2.Inv X pins σ H s'->s'.heap.get? a=some (seqObj "list" ((arrOf st).map (·.2)) c)->P Qhs s') :
  wpAny Qr A (ksk_tail a false e1 (.ref kS) st) P E s:=by
 have s1:=Heap.SameBut.update s.heap kS (Obj.mapSeq λ_=>(#[]:CO));have o:=FH I j (Obj.mapSeq λ_=>(#[]:CO));have b:(s.heap.update kS (Obj.mapSeq λ_=>(#[]:CO))).get? a=some (seqObj "list" #[] e1):=(s1.2 a d.symm).trans g;have n:=FH o k (Obj.mapSeq λ_=>(arrOf st).map (·.2));obtain⟨f,l⟩:∃f,((s.heap.update kS (Obj.mapSeq λ_=>(#[]:CO))).update a (Obj.mapSeq λ_=>(arrOf st).map (·.2))).get? a=some (seqObj "list" ((arrOf st).map (·.2)) f):=
  ⟨_,get?_update_seq b λ_=>(arrOf st).map (·.2)⟩
 unfold ksk_tail
 try dsimp only
 refine fF (listUpdate_at ok rfl ?_ (by rw[p3];lia) (nZ _));refine fF (wpAny_letGo ?_);refine fF (seqEpoch_at b rfl ?_);refine fF (listUpdate_at b rfl ?_ (nZ _) (by simp only[tw,ti,Array.size_map];rw[p3];lia));rw[m];simp only[bne_self_eq_false,tw,ti];exact oa (h _ f n l)
theorem aol{keys:CO}{e:Nat}(I:Qbe)(m:pH X pins H kS)(p:Qf3)(f:kS≠a)(ok:s.heap.get? kS=some (seqObj "list" keys e))(l:s.heap.get? a=some (seqObj "list" #[] e1))
  (g:IntsAre keys.toList kz) (hlen:kz.length=us.length) (v:us.length<64) (r:QcA)
  (h:∀s' out c,L2.Inv X pins σ H s'->s'.heap.get? a=some QjD->Vals Qe9 out.toList->P Qhs s') :
  wpAny Qr A (ksk_end a false us.toArray e1 (.ref kS) keys) P E s:=by
 have hsz:keys.size=us.length:=by
  have h1:=g.length;rw[Array.length_toList]at h1;lia
 have d:(keys.zip us.toArray).size=us.length:=by rw[Array.size_zip,hsz,ue,Nat.min_self]
 have t0:∀n,Tag Qew Qew id n:=λn=>⟨λ_ _=>rfl,λ_ q=>q,λ_ _=>rfl⟩;unfold ksk_end
 try dsimp only
 simp only[tw,ti];by_cases h2:us.toArray.size<2
 .rw[cq h2,cq h2];refine fF (oa ?_);rw[StateT.run_pure];refine fF (oa ?_)
  try dsimp only
  rw[ue]at h2;refine XU (st:=SortSt.mk' general' Qew #[] 7 none) I m p f ok l We (by show(keys.zip us.toArray).size<64;lia) rfl λs' c k o'=>h s' _ c k o' ?_;exact Rw g r (arr:=keys.zip us.toArray) (κ:=id) (t0 _) (λi j y x=>by lia) rfl
 .rw[bF h2,bF h2];rw[ue]at h2;rw[ksk_kind g (by rw[hsz];lia)];refine fF (oa ?_);refine fF (o3 (Z8 (a₀:=keys.zip us.toArray) (st:=SortSt.mk' oneType' Qew #[] 7 none)
   (Q:=λ_ b=>failedOf b=none/\∃κ,Tag Qew (arrOf b) κ (keys.zip us.toArray).size/\wc (arrOf b) κ (keys.zip us.toArray).size/\(arrOf b).size=(keys.zip us.toArray).size)
   (ksk_intKeys g) ⟨Array.Perm.refl _,rfl,rfl,rfl⟩ (t0 _) (by rw[d];lia) (by rw[d];exact v) λz κ a1 a2 a3 a4=>⟨a1,κ,a2,a3,a4⟩) ?_ λ_ _ e=>e)
  rintro⟨⟨⟩,b⟩ s' ⟨rfl,hf,κ,t,o,hz⟩
  try dsimp only
  have u:(arrOf b).size=(keys.zip us.toArray).size:=hz;exact XU I m p f ok l We We hf λs' c k o'=>h s' _ c k o' (Rw g r t o hz)
def LA{b:Addr}(fp:pH X pins H b)(h:H' b=none):pH X pins H' b:=⟨h,fp.2⟩
theorem aiQ(I:Qbe)(C:pH X pins H kS)(L:Qf3)(t:kS≠a)(ok:s.heap.get? kS=some (seqObj "list" #[] 0))(U:s.heap.get? a=some (seqObj "list" #[] e1))(Z:J H)
  (hlen:kz.length=us.length) (UL:us.length<64) (r:QcA)
  (turn:∀(i:Nat) (x:V) (k:Int),xs[i]? = some x->kz[i]? = some k->∀(R:BM) (s':Qb) (u:Value) (H':Hp),L2.Inv X R σ H' s'->J H'->RelV x u →
   wpAny Qr A QhZ (EP X R σ λv O=>v=.int k/\J O) Qa0 s')
  (h:∀s' H' out c,L2.Inv X pins σ H' s'->J H'->H' a=none->s'.heap.get? a=some QjD->Vals Qe9 out.toList->P Qhs s') :
  wpAny Qr A (ksk_rest a Q0 false us.toArray e1 (.ref kS)) P E s:=by
 unfold ksk_rest;refine fF (wpAny_rule ?_)
 first
  | rw[List.forIn_toArray]
  | (rw[← Array.forIn_toList];simp only[List.toList_toArray])
  | rw[← Array.forIn_toList]
 refine fF (ksk_fold (λi s'=>∃H' g e,L2.Inv X pins σ H' s'/\J H'/\H' kS=none/\H' a=none/\s'.heap.get? kS=some (seqObj "list" g e)/\s'.heap.get? a=some (seqObj "list" #[] e1)/\IntsAre g.toList (kz.take i)) us 0 s
  ⟨H,#[],0,I,Z,C.1,L.1,ok,U,by simpa using IntsAre.nil⟩ ?step ?done)
 case step=>
  rintro j u s' S ⟨H',g,e,N,G,F,na,d,l,n⟩;simp only[Nat.zero_add]at n ⊢;have hj:j<us.length:=(pd.1 S).1;obtain⟨k,q⟩:∃k,kz[j]? = some k:=⟨_,pv We⟩;obtain⟨x,p⟩:∃x,xs[j]? = some x:=⟨_,pv (by rw[r.length];exact hj)⟩;have T:RelV x u:=by
   obtain⟨u',e1,e2⟩:=r.get p;rw[S]at e1;cases e1;exact e2
  have hz:g.size<=us.length:=by
   have h1:=n.length;rw[Array.length_toList,sk]at h1;lia
  have Ip:=N.pinned (fp:=[kS,a]) (λb m=>by
   obtain rfl|m:=eu.1 m
   .exact LA C F
   .rw[n4.1 m];exact LA L na) (λb m=>by
   obtain rfl|m:=eu.1 m
   .exact⟨_,d,λv z=>by cases z⟩
   .rw[n4.1 m];exact⟨_,l,λv z=>by cases z⟩)
  refine fF (wpAny_attempt (o3 (turn j x k p q _ _ u H' Ip G T) (λv o he=>?_) λ_ _ hF=>hF.elim));obtain⟨w,H2,y,D,rfl,Y⟩:=he;obtain⟨t2,rfl⟩:=D
  try dsimp only
  have B:=y.pin (kS,seqObj "list" g e) (j9 _ (j9 _ (mQ WA d)));have pa:=y.pin (a,seqObj "list" #[] e1) (j9 _ (j9 _ (mQ WA l)));have I3:=FH y.vS (LA C B.2.1) (Obj.mapSeq (·.push Qe7));have s1:=Heap.SameBut.update o.heap kS (Obj.mapSeq (·.push Qe7));obtain⟨M,ZJ⟩:∃M,(o.heap.update kS (Obj.mapSeq (·.push Qe7))).get? kS=some (seqObj "list" (g.push Qe7) M):=⟨_,get?_update_seq B.1 (·.push Qe7)⟩;have ek:kz.take QA=kz.take j++[k]:=by rw[x3,q];simp
  have ea:(g.push (Value.int k t2)).toList=g.toList++[Value.int k t2]:=by simp
  refine fF (listUpdate_at B.1 rfl ?_ (by rw[p3];lia) (oy (Nat.le_of_eq (Array.size_push ..)) (by rw[p3];lia)));exact oa ⟨rfl,H2,g.push Qe7,M,I3,Y,B.2.1,pa.2.1,ZJ,(s1.2 a t.symm).trans pa.1,by rw[ea,ek];exact ksk_snoc n⟩
 case done=>
  rintro s' ⟨H',g,e,N,G,F,na,d,l,n⟩;have K:IntsAre g.toList kz:=by
   have e3:kz.take (0+us.length)=kz:=List.take_of_length_le We;rw[e3]at n;exact n
  try dsimp only
  refine fF (listItems_at d rfl ?_);exact aol N (LA C F) (LA L na) t d l K hlen UL r λs2 out c y W v2=>h s2 H' out c y G na W v2
theorem aiR(I:Qbe)(p:Qf3)(g:s.heap.get? a=some (seqObj "list" us.toArray n))(q:J H)
  (hlen:kz.length=us.length) (y:us.length<64) (r:QcA)
  (turn:∀(i:Nat) (x:V) (k:Int),xs[i]? = some x->kz[i]? = some k->∀(m:BM) (s':Qb) (u:Value) (H':Hp),L2.Inv X m σ H' s'->J H'->RelV x u →
   wpAny Qr A QhZ (EP X m σ λv l=>v=.int k/\J l) Qa0 s')
  (h:∀s' H' out c,L2.Inv X pins σ H' s'->J H'->H' a=none->s'.heap.get? a=some QjD->Vals Qe9 out.toList->P Qhs s') :
  wpAny Qr A (ksk_tree a Q0 false) P E s:=by
 have t:=nz g;obtain⟨e1,d⟩:∃e1,(s.heap.update a _).get? a=some (seqObj "list" #[] e1):=⟨_,get?_update_seq g λ_=>#[]⟩;have B:=FH I p (Obj.mapSeq λ_=>(#[]:CO));have j:((s.heap.update a (Obj.mapSeq λ_=>(#[]:CO))).push (seqObj "tuple" us.toArray 0)).objs.size=s.heap.objs.size+1:=by simp
 have z:L2.Inv X pins σ H {s with heap:=((s.heap.update a _).push (seqObj "tuple" us.toArray 0)).push (seqObj "list" #[] 0)}:=
  B.kept (t':=s.toks) λb o e=>ot _ (ot _ e)
 unfold ksk_tree;refine fF (listItems_at g rfl ?_);refine fF (listUpdate_at g rfl ?_ (by rw[ue,p3];lia) (nZ _));refine fF (seqEpoch_at d rfl ?_);refine fF (wpAny_newTuple ?_ (by show us.length<=_;rw[p3];lia));refine fF (wpAny_newList ?_ (nZ _));refine w8 ?_;refine aiQ
  z (I.JM WA (I.fC.fresh WA)) p (by rw[j];exact Nat.ne_of_gt (Nat.lt_succ_of_lt t)) (pk _ rfl) (ot _ (ot _ d)) q hlen y r turn h
theorem aaf{Q:VK}(I:Qbe)(z:oG X.K H l xs)(hlen:kz.length=xs.length)(L:xs.length<64)(y:J H)
  (turn:∀(i:Nat) (x:V) (k:Int),xs[i]? = some x->kz[i]? = some k->∀(n:BM) (s':Qb) (u:Value) (H':Hp),L2.Inv X n σ H' s'->J H'->RelV x u →
   wpAny Qr X.A.in1.in1 QhZ (EP X n σ λv j=>v=.int k/\J j) Qa0 s')
  (h:∀D H',J H'->H' D=none->Q QaW (upd H' D (.lst Qe9))) :
  wpAny Qr X.A (call Qhx [.ref l] [(Str.ofString "key",.ref f)]) Qa1 E s:=by
 obtain⟨us,r,pl,hz⟩:=I.list z;have G:=r.length;have B:s.heap.IsList l us.toArray:=pl.isList;refine call_function_entry_kw kind_sorted plain_sorted entry_sorted (ksk_s1 _ _) ?_;unfold Builtin.«sorted»;refine fF (m:=checkCount "sorted" 1 1 _) (oa ?_);refine fF (collect_list B ?_ (by rw[p3];lia));refine fF (wpAny_newList ?_ (by rw[p3];lia));have hsz:((s.heap.push (seqObj "list" #[] 0)).update s.heap.objs.size (Obj.mapSeq (· ++ us.toArray))).objs.size=s.heap.objs.size+1:=by
  rw[Heap.size_update,size_push']
 have a:(((s.heap.push (seqObj "list" #[] 0)).update s.heap.objs.size (Obj.mapSeq (· ++ us.toArray))).push Qfo).get? Qbd=some Qfo:=by
  rw[← hsz];exact pk _ rfl
 have keep:∀b o,s.heap.get? b=some o->(((s.heap.push (seqObj "list" #[] 0)).update s.heap.objs.size (Obj.mapSeq (· ++ us.toArray))).push Qfo).get? b=some o:=λb o q=>by
  have d:b<s.heap.objs.size:=nz q;rw[Heap.get?_push_ne _ _ _ (by rw[hsz];exact oI (Nat.lt_succ_of_lt d)),Heap.get?_update_ne _ _ _ _ (oI d),Heap.get?_push_ne _ _ _ (oI d)];exact q
 show wpAny _ _ _ _ _ {s with heap:=((s.heap.push (seqObj "list" #[] 0)).update s.heap.objs.size (Obj.mapSeq (· ++ us.toArray))).push Qfo};rw[hsz];have C:L2.Inv X pins σ H {s with heap:=((s.heap.push (seqObj "list" #[] 0)).update s.heap.objs.size (Obj.mapSeq (· ++ us.toArray))).push Qfo}:=I.kept (t':=s.toks) keep;have p:∀{H':Hp},H' Qbd=none->pH X pins H' Qbd:=λ{H'} e=>I.JM (tI _) e;refine fF (w8 (wpAny_call_entry_kw slot_list_sort ⟨_,a,rfl⟩ entry_list_sort ?body (ksk_l1 _ _)))
 case body=>
  have g:=ksk_t1 f Qbd;show wpAny Qr X.A.in1.in1 (Builtin.«list.sort» ⟨[.ref Qbd],[(Str.ofString "key",.ref f)]⟩) _ _ _;rw[g];refine aiR C (p Qj0) a y We We r turn λs' H' out c F t na o' v'=>⟨_,rfl,?_⟩;refine oa ⟨_,rfl,.ref Qbd,_,aae F (p na) (o:=.lst Qe9) ⟨?_,out.toList,c,v',?_⟩,rfl,h _ H' t na⟩
  .have:(zk kz xs).length=xs.length:=by
    unfold zk;rw[dm,yk,List.length_zip,hlen,Nat.min_self]
   rw[this];exact hz
  .simpa using o'
end
variable{g:D->Int}
def aag{ds:BB}(h:QfU):Paired (λ(d:D) (p:Int×V)=>g d=p.1/\bW K CL Z d p.2) ds ((ds.map g).zip us):=
 aG.ind (P:=λds us=>Paired _ ds ((ds.map g).zip us)) .nil (λr _ i=>.cons ⟨rfl,r⟩ i) h
theorem aah{ds:BB}{ps:List (Int×V)}(h:Paired (λ(d:D) (p:Int×V)=>g d=p.1/\bW K CL Z d p.2) ds ps):aG K CL Z ds (ps.map Prod.snd):=by
 induction h with
 | nil=>exact .nil
 | cons r _ i=>exact .cons r.2 i
noncomputable def aai{ds:BB}(r:QfU):aG K CL Z (e9 g ds) (zk (ds.map g) us):=aah (Ba (λp q h=>h.1) (aag r))
def asV(X:Cx)(CL:BC)(q:Str)(scope:Scope)(Nc:At)(body:Expr)(δc:BA)(ds:BB)(g:D->Int):Prop:=
 ∀f c s0 b a d,d∈ds->dU (Er X X.A.in1.in1 q scope Nc f c s0 b) CL a body QfH (.int (g d)) QfH
variable{g:L3.D->Int}{y tx:Str}{lp:Pos}
theorem zW(L:Ia X CL tx q)(g0:Gx X)(dp:X.A.depth<recursionLimit)(hm:QhR)(hg:Gl X "sorted")(sc:QdO)(h:Qcl)(hi:QbX)(hl:ds.length<64)
  (inner:asV X CL q scope Nc body (GB δ1 ix) ds g) (P:defaultsOf params X.env=([],[]):=by rfl)
  (Rt:∀cl pm cd ct u,bindArgs QkE ⟨[u],[]⟩=pure [(y,u)]:=by intros;rfl) (G:scope.isCoroutine=false:=by rfl) (O:scope.isGenerator=false:=by rfl)
  (hs:Qad:=by exact bC rfl) :
  cY X CL b (.Call Qj5 [e] [⟨some "key",.Lambda params body scope lp,p2⟩] pos) δ (.lst ((e9 g ds).map T.sh)) δ1:=by
 intro H Z σ ts vs Q S k pins s I;have m:PA X [e] (Xm (zP X e) Zr):=bZ dN dS hs;have hk:PK X [⟨some "key",.Lambda params body scope lp,p2⟩] (Xm (zP X (.Lambda params body scope lp)) Zr):=Xo dN adi;refine x4 (qp I hg hm uw ?_);refine callWith_kw (fX (m pos pins s σ H (λE H1=>∃v Z1,E=[v]/\aM Z Z1/\aM H H1/\bH X.K CL b H1 Z1 δ1 σ ts vs/\bW X.K CL H1 QcC v) I (h H Z σ ts vs _ S λv H1 Z1 C k1 l r=>⟨v,Z1,rfl,C,k1,l,r⟩)) λus s1 zz=>?_) (by rw[hs];rfl) (by rw[hs];rfl) rfl rfl;obtain⟨Y,H1,I1,r1,v1,Z1,e1,C,k1,l,rep1⟩:=zz;subst e1;have N:H1 (CL tx)=some (.tabs q):=by
  have:=l.MD tx L.tab.1 L.tab.2.1;rw[L.tab.2.2]at this;exact this
 refine fX (hk pos pins s1 σ H1 (λzs H2=>∃f c,zs=[.ref f]/\aM H1 H2/\H2 f=some Qiz/\H2 c=some Qce) I1
  (λnT s' V=>aoh L V N (λy hy e=>V.ok.has y.1 (sc.frees y hy e).2) P λf c H2 s2 U k2 hf M _=>⟨.ref f,H2,U,rfl,f,c,rfl,k2,hf,M⟩)) λws s2 zz=>?_
 obtain⟨zs,H2,U,rz,f,c,e2,k2,hf,M⟩:=zz;subst e2;obtain⟨u,rfl,ru⟩:=rz.one;cases ru;obtain⟨v,rfl,rv⟩:=r1.one;obtain⟨p,aa,rfl,hq,F⟩:=rep1.g6;cases rv;show wpAny _ _ (call Qhx [.ref p] [(Str.ofString "key",.ref f)]) _ _ s2;have hlen:=F.length;refine aaf (J:=λj=>∃Z3,aM H2 j/\aM H2 Z3/\aM Z3 j/\∀a o,j a=some o->kM o=true->Z3 a=some o) (kz:=ds.map g) U (k2.seq hq) (by rw[dm,hlen]) We
  ⟨H2,.refl _,.refl _,.refl _,λ_ _ q _=>q⟩ (λi x kk hx w nT s' u j R zz rx=>?_) λD j zz hD=>?_
 .obtain⟨Z3,a1,a2,a3,a4⟩:=zz;obtain⟨d,hd,rd⟩:=F.Zz hx;have ek:kk=g d:=by
   rw[o2,hd]at w;exact(o7 w).symm
  subst ek;refine aeh sc R R.ok.frames (R.ok.hd g0.calm) dp (a1 _ _ hf) (a1 _ _ M) rx Rt G O ?_;have S0:bH X.K CL ⟨j,Z3⟩ j Z3 (some Qey::GB δ1 ix) (zR σ ix (some x)) [] []:=
   ⟨⟨[]++[],[],.cons (.sh (rd.mono Qie)) ((AW l ix j).mono Qie λa m=>by cases m),.nil,vy,λa m=>by cases m⟩,.refl _,.refl _,a3,λa o q z=>(by have n:Z3 a=none:=z;rw[show Z3 a=some o from q]at n;cases n),a4,l.MD.mono Qie⟩
  refine inner f c s' j ⟨j,Z3⟩ d (qz hd) j Z3 _ [] [] _ S0 λv H5 Z5 W k5 B r5=>⟨?_,Z5,a1.trans k5,a2.trans W,B.zh,B.tp⟩;cases r5;rfl
 .obtain⟨Z3,a1,a2,a3,a4⟩:=zz;obtain⟨Z',n,S4⟩:=l.back (t:=.sh Qec) (v:=.int 0) (fp:=[]) (k2.trans a1) l.zh Qie a3 (λa o q z=>z) a4 (.sh Qec) vy (λa m=>by cases m) QaK;obtain⟨c5,B⟩:=(bH.pF (aai (g:=g) ((aG.tF l.tp hi F).mono n)) S4.pop).kN (g0:=[]) (by simp[zk,yk,hlen]) hD;exact k _ _ _ (C.trans n) ((k1.trans (k2.trans a1)).trans c5) B
def UW(h1:Nc[i]? = some x)(h2:QgQ)(hd:AD x:=by decide)(kL:AE x:=by decide):Vn Qfp i x:=⟨h1,.inl h2,hd,kL⟩
def Ni(h1:Nc[i]? = some x)(h2:Qi3)(hd:AD x:=by decide)(kL:AE x:=by decide):Vn Qfp i x:=⟨h1,.inr (.inr h2),hd,kL⟩
def UX(h2:QiC):Gl Qfp x:=h2
theorem aom{B:Type}{arg:B->BB}{Pre:B->Prop}{res:B->T}(F:Qfs)(r:Qf7):Fc (Er X X.A.in1.in1 q scope Nc f c s H) CL x k n arg Pre res:=
 ⟨F.ex,⟨r.hd,by have:=r.dp;show X.A.depth+1+3*k+5<_;lia,by have:=r.un;show X.A.units+1+1+3+16*k+200<_;lia⟩⟩
def aiS{w:World}{sp:Sp}(F:QcZ)(S:QbV)(len:∀vs H Q E,sp vs H Q E->vs.length=ps.length)
  (b:∀(gy:Value) (A:Qal) (outer:DA) (s:Qb) (H:Hp) (vs:BY) (Q:VK) (E:XK),fd.code=gy->eN k (A.deeper Qci)->sp vs H Q E →
   ∃t,T9 (rC mJ P w K mg base N qual Qaz f gy A outer s H E).Mu Qbl t/\t {nx:=λ_ H'=>Q .non H',rt:=Q} (L2.start N vs) H):eV P w K mg base mJ Qau f fd ps sp:=by
 obtain⟨oc,od,kV,doc,pm,an,gy,ct,TN,rfl,lk,kL⟩:=F.ex;refine TB lk kL S len λA outer s H vs Q E a c=>?_;obtain⟨t,h,q⟩:=b gy A _ s H vs Q E rfl a c;exact⟨t,h.Mu,q⟩
theorem GX{w:World}{A:Type}{arg:Qai}{Pre:QP}{res:Q4}(F:QcZ)(S:QbV)
  (u:∀(gy:Value) (g:Qal) (outer:DA) (s:Qb) (H:Hp) (E:XK) (b:Bx) (a:A),fd.code=gy->eN k (g.deeper Qci)->Pre a →
   dW (rC mJ P w K mg base N qual Qaz f gy g outer s H E).Mu CL b Qbl QdR {nx:=λ_=>res a=.sh .non,rt:=λt _=>t=res a}) :
  eV P w K mg base mJ Qau f fd ps QgO:=by
 refine aiS F S (λvs H Q E h=>?_) (λgy g outer s H vs Q E kL n h=>?_)
 .obtain⟨W,a,_,_,r,i,_⟩:=h;rw[← r.length];exact i
 .obtain⟨W,a,j,tp,r,i,p,tb,kk⟩:=h;refine⟨_,Uq,u gy g _ s H E ⟨H,W⟩ a kL n p H W _ [] [] _ ⟨⟨[],[],?_,.nil,vy,λa d=>by cases d⟩,.refl _,.refl _,j,λa o q z=>?_,tp,tb⟩ ⟨λδ' σ' H' Z' s' c e=>?_,λt v H' Z' δ' σ' s' c e=>?_,λ_ _ _ _ _ _ e=>e.elim,λ_ _ _ _ _ _ e=>e.elim⟩⟩
  .unfold entry L2.start;rw[← r.length];exact kO _ r
  .grind
  .exact kk .non H' Z' [] c.bh c.zz c.zh c.new c.tp (by rw[e];exact .sh .non) vy λa d=>by cases d
  .have y:=e;subst y;obtain⟨fp,gp,_,m,nd,own⟩:=c.rep;cases m with
   | @cons _ _ _ _ f1 f2 l B=>
    have h1:=(oT.1 nd).2.1;exact kk v H' Z' f1 c.bh c.zz c.zh c.new c.tp l (oT.1 h1).1 λa d=>own a (j9 _ (nv _ d))
def GY(mg:Bn)(base:Heap):Prop:=∃bm o,mg "__builtins__" = some (.ref bm)/\bm≠builtinsNs/\bm≠mainGlobals/\base.get? bm=some o/\o.cls=.type "module" /\ o.dict=some builtinsNs/\o.data=.plain
def RL{CX:xf}{w:World}{gy:Value}{outer:DA}{E:XK}
  (bl:GY mg base) (a:K.In base) (g:fd.code=gy) (hf:fd.code=.ref c) (hd:codeHdIn K c (CL tx)=true) (h0:CL tx≠0) (d:MC tx=q:=by decide +kernel) (b:Li tx=true:=by decide +kernel) (e:qual++".<locals>." ++ "<lambda>" = q:=by decide +kernel) :
  Ia (rC CX P w K mg base N qual scope f gy A outer s H E).Mu CL tx q:=
 ⟨⟨c,g.symm.trans hf,Pm a hd⟩,bl,e,b,h0,d⟩
abbrev _root_.Co:=List (Addr×Str)
def spT(K:Frag)(ts:Co){A:Type}(n:Nat)(arg:Qai)(Pre:QP)(res:Q4):Sp:=λvs H Q _=>
 ∃(W:Hp) (a:A),aM W H/\(∀c o,H c=some o->kM o=true->W c=some o)/\aG K (λ_=>0) W Qb4 vs/\(arg a).length=n/\Pre a/\(∀p∈ts,W p.1=some Qcw) ∧
  ∀v H' W' fp,aM H H'->aM W W'->aM W' H'->(∀c o,W' c=some o->W c=none->H c=none)->(∀c o,H' c=some o->kM o=true->W' c=some o) →
   bU K (λ_=>0) H' W' Qcg v fp->fp.Nodup->(∀c∈fp,W' c=none/\H c=none)->Q v H'
def aiT{ts:Co}{arg:AT->BB}{pre:AT->Prop}{res:AT->T}(j:∀a,arg a=[.lst (a.map .int)])(h:∀a,res a=.sh Qbh)(h0:∀x,Li x=true->CL x≠0->(CL x,MC x)∈ts) :
  ∀(vs:BY) (H:Hp) (Q:VK) (E:XK),spT K ts 1 arg pre res vs H Q E->Q6 K CL 1 arg pre res vs H Q E:=by
 rintro vs H Q E ⟨W,a,h1,h2,c,o,n,m,k⟩;have b:∀{l:AT} {us:BY},aG K (λ_=>0) W Qb2 us->aG K CL W Qb2 us:=by
  intro l
  induction l with
  | nil=>intro us r;cases r;exact .nil
  | cons i l f=>
   intro us r;cases r with
   | cons r t=>cases r;exact .cons QaL (f t)
 refine⟨W,a,h1,h2,?_,o,n,λx g e=>m _ (h0 x g e),λv H' W' fp a1 a2 a3 a4 a5 r nd own=>k v H' W' fp a1 a2 a3 a4 a5 ?_ nd own⟩
 .rw[j]at c ⊢;cases c with
  | cons r t=>
   cases t;obtain⟨_,_,rfl,q,d⟩:=r.g6;exact .cons (.lst q (b d)) .nil
 .rw[h]at r ⊢;replace r:=r.MB;obtain⟨rfl,r⟩:=r;cases r;exact .sh Qcf
theorem aiU{ts:Co}{arg:AT->BB}{pre:AT->Prop}{res:AT->T}{ns:AT}(f:arg ns=[.lst (ns.map D.int)])(b:pre ns)(d:res ns=.sh Qbh)(g:oG K H a Qb1)(c:∀p∈ts,H p.1=some Qcw) :
  spT K ts 1 arg pre res [.ref a] H (λv H'=>v=.bl true/\∀p∈ts,H' p.1=some Qcw) λ_ _ _=>False:=
 ⟨H,ns,.refl _,λ_ _ q _=>q,f ▸ .cons (.lst g (Q9 ns)) .nil,WD,b,c,λv H' W' fp e _ _ _ _ r _ _=>by
  refine⟨?_,λp b=>e _ _ (c p b)⟩;rw[d]at r;replace r:=r.MB;obtain⟨rfl,r⟩:=r;exact r.sc rfl⟩
theorem tK:∀{ts:Co} {b:Addr} {q:Str},ts.lookup b=some q->(b,q)∈ts
 | [],_,_,e=>by cases e
 | (c,x)::r,b,q,e=>by
  rw[pf]at e;cases a:b==c with
  | true=>rw[a]at e;grind
  | false=>rw[a]at e;exact .tail _ (tK e)
def aaj{w:World}{mb:Bn}{O:Addr}{sp:Sp}{f:Qb}{vs:B2}{ns:AT}{ts:Co}
  (Z:K.In f.heap) (C:f.heap.Ns mainGlobals mg) (i:f.heap.Ns builtinsNs mb) (L:∀x:Str,x≠"__name__"->mb x=bootBuiltins x) (S:f.heap.NoLimit) (hg:f.gens=#[]) (Ry:GY mg f.heap)
  (D:f.heap.get? a=some {cls:=.type "list",data:=.seq vs.toArray}) (hi:IntsAre vs ns) (W:ns.length<=sizeLine) (hr:eN k callerA)
  (A:∀p∈ts,f.heap.get? p.1=some (tabObj #[])/\ts.lookup p.1=some p.2/\K.lookup p.1=none/\∃c,CodeHd f.heap c p.1)
  (F:∀base:Heap,K.In base->base.Ns mainGlobals mg->GY mg base->eV P w K mg base mJ k O fd [x] sp) (Rt:∀(s:Qb) (u:Value),BindsTo s fd ⟨[u],[]⟩ [(x,u)])
  (Ld:∀H:Hp,oG K H a Qb1->(∀p∈ts,H p.1=some Qcw)->sp [.ref a] H (λv H'=>v=.bl true/\∀p∈ts,H' p.1=some Qcw) λ_ _ _=>False) :
  codeAny Qdm callerA QlF Qkq f:=by
 have U:=Lg hi;have R:=hi.length;have Y:∀p∈ts,p.1≠a:=λp g z=>by
  have:=(A p g).1;rw[z,D]at this;cases this
 have core:∀H:Hp,(∀b,H b=none\/(∃o xs,b=a/\H b=some (.gM o QaO))\/∃p∈ts,b=p.1/\H b=some Qcw)->oG K H a Qb1->(∀p∈ts,H p.1=some Qcw)->xY P w H f.heap->(H a≠none->K.lookup a=none) →
   codeAny Qdm callerA QlF Qkq f:=by
  intro H M hS hH fC hK;have B:∀{b:Addr} {o:Obj},f.heap.get? b=some o->o≠{cls:=.type "list",data:=.seq vs.toArray}->o≠tabObj #[]->H b=none:=λ{b o} e d1 d2=>by
   obtain q|⟨_,_,z,_⟩|⟨p,g,z,_⟩:=M b
   .exact q
   .rw[z,D]at e;exact absurd (o7 e).symm d1
   .rw[z,(A p g).1]at e;exact absurd (o7 e).symm d2
  have T:∀{b:Addr} {o:Obj},f.heap.get? b=some o->H b=none->(JL f.heap H).get? b=some o:=λe n=>acS e n;have l:∀{b:Addr} {m:Bn},f.heap.Ns b m->(JL f.heap H).Ns b m:=λ{b m} ⟨o,es,ep,e,d,r⟩=>⟨o,es,ep,T e (B e (λz=>by rw[z]at d;cases d) λz=>by rw[z]at d;cases d),d,r⟩;have E:K.In (JL f.heap H):=λb o e=>T (Z b o e) (by
   obtain q|⟨_,_,z,q⟩|⟨p,g,z,_⟩:=M b
   .exact q
   .subst z;rw[hK (by rw[q];simp)]at e;cases e
   .rw[z,(A p g).2.2.1]at e;cases e)
  have hM:Mod K mg (JL f.heap H):=⟨E,l C,⟨mb,l i,L⟩,let ⟨mc,h1,h2⟩:=S;⟨mc,l h1,h2⟩⟩;have N:GY mg (JL f.heap H):=by
   obtain⟨bm,o,b1,b2,b3,X,b5,b6,G⟩:=Ry;exact⟨bm,o,b1,b2,b3,T X (B X (λz=>by rw[z]at G;cases G) λz=>by rw[z]at G;cases G),b5,b6,G⟩
  have e0:Uk P w K mg (JL f.heap H) callerA [] f H:=⟨rfl,hM,λb o e=>ahY e,Nat.le_of_eq (Zc _ _),trivial,λb i=>absurd (show b∈([]:BN) from i) WA,fC,.of_eq hg⟩;refine codeAny_mono ((F _ E (l C) N).run callerA [] f H ⟨[.ref a],[]⟩ [.ref a] [.ref a] _ _ hr e0 (Rt f Qaj) (.cons rfl .nil) (Ld H hS hH)) λr s' h=>?_;cases r with
  | error e=>exact h.elim
  | ok fl=>
   cases fl with
   | next=>exact False.elim h
   | brk=>exact False.elim h
   | cont=>exact False.elim h
   | ret u=>
    obtain⟨v,H',os,bare,un,I,r',q,qt⟩:=h;subst q;obtain rfl:u=Value.bool true:=r';have tabAt:∀p∈ts,∃ps:CO,s'.heap.get? p.1=some (tabObj ps):=λp g=>by
     obtain⟨ps,e,_⟩:=I _ _ (qt p g);exact⟨ps,e⟩
    have keep:∀b o,f.heap.get? b=some o->(∀p∈ts,b≠p.1)->s'.heap.get? b=some o:=λb o e y=>by
     obtain q|⟨ob,xs,z,q⟩|⟨p,g,z,_⟩:=M b
     .exact un.keep b o e q (by intro z;exact absurd (show b∈([]:BN) from z) WA) WA
     .have z2:=un.fO b ob _ q;obtain⟨e1,_⟩:=fC b _ q;obtain⟨e2,_⟩:=I b _ z2;rw[e]at e1;cases e1;exact e2
     .exact absurd z (y p g)
    refine⟨rfl,⟨λb o e=>?_,λb o e=>?_⟩,os,bare⟩
    .by_cases y:∀p∈ts,b≠p.1
     .exact .inl (keep b o e y)
     .obtain⟨p,g,rfl⟩:∃p∈ts,b=p.1:=Classical.byContradiction λq=>y λp g z=>q ⟨p,g,z⟩;obtain⟨h1,_,_,c,hc⟩:=A p g;obtain⟨ps,e2⟩:=tabAt p g;rw[h1]at e;cases e;exact .inr (.inl ⟨(hc.tab h1).isCodeTable,rfl,#[],ps,rfl,by rw[Array.empty_append];exact e2⟩)
    .by_cases y:∀p∈ts,b≠p.1
     .exact⟨o,keep b o e y⟩
     .obtain⟨p,g,rfl⟩:∃p∈ts,b=p.1:=Classical.byContradiction λq=>y λp g z=>q ⟨p,g,z⟩;obtain⟨ps,e2⟩:=tabAt p g;exact⟨_,e2⟩
 have tok:∀{H:Hp} {b:Addr} {q:Str},ts.lookup b=some q->gQ P w H f.heap b (.tabs q):=λ{H b q} e=>by
  obtain⟨h1,_⟩:=A (b,q) (tK e);exact⟨#[],h1,trivial,λpos cv z=>by simp[codeAmong]at z⟩
 cases J:K.lookup a with
 | some o=>
  have e:=Z a o J;rw[D]at e;cases e;refine core (λb=>(ts.lookup b).map HO.tabs) (λb=>?_) (.inr ⟨_,vs.toArray,_,J,rfl,rfl,rfl,by rw[List.size_toArray,R];exact W,by simpa using U⟩) (λp g=>?_) (λb u z=>?_) λz=>?_
  .cases q:List.lookup b ts with
   | none=>left;rfl
   | some t=>right;right;exact⟨(b,t),tK q,rfl,rfl⟩
  .show(ts.lookup p.1).map HO.tabs=_;rw[(A p g).2.1];rfl
  .have j:(ts.lookup b).map HO.tabs=some u:=z;cases q:List.lookup b ts with
   | none=>rw[q]at j;cases j
   | some t=>rw[q]at j;cases j;exact tok q
  .exfalso;apply z;show(ts.lookup a).map HO.tabs=none;cases q:ts.lookup a with
   | none=>rfl
   | some t=>exact absurd rfl (Y (a,t) (tK q))
 | none=>
  refine core (λb=>if b=a then some (.gM {cls:=.type "list",data:=.seq vs.toArray} (.lst Qb1)) else(ts.lookup b).map HO.tabs) (λb=>?_) (.inl (.inr ⟨{cls:=.type "list",data:=.seq vs.toArray},cq rfl⟩)) (λp g=>?_) (λb u z=>?_) λ_=>J
  .by_cases i:b=a
   .exact .inr (.inl ⟨_,_,i,cq i⟩)
   .cases q:List.lookup b ts with
    | none=>left;rw[bF i];rfl
    | some t=>right;right;exact⟨(b,t),tK q,rfl,by rw[bF i];rfl⟩
  .show(if p.1=a then _ else(ts.lookup p.1).map HO.tabs)=_;rw[bF (Y p g),(A p g).2.1];rfl
  .by_cases i:b=a
   .have j:=(cq i).symm.trans z;cases j;subst i;exact⟨D,by rw[dm];exact W,vs,_,U,D⟩
   .have j:(ts.lookup b).map HO.tabs=some u:=(bF i).symm.trans z;cases q:List.lookup b ts with
    | none=>rw[q]at j;cases j
    | some t=>rw[q]at j;cases j;exact tok q
def aej{l:PySem.W.OpenLaw}{q:Qak}{loose:At}{XP:Bn->Heap->Prop}{B:Qj1}{d:DefRec}{K:Params->Frag}{sp:World->Co->Sp}{T0:BN}
  (M:l.most=some n) (m:n<=sizeLine) (t:Qka) (L:eN k callerA)
  (R:∀(w:World) (h:Heap),B w h->(K w.params).In h) (S:∀(w:World) (h:Heap),B w h->∀P∈T0,h.get? P=some (tabObj #[]))
  (F:∀(w:World) (mg:Bn) (j:Addr) (h:Heap),(K w.params).In h->h.Ns mainGlobals mg->mg d.name=some (.ref j) →
   ∃(fd:Qax) (ts:Co),(∀p∈ts,p.1∈T0/\ts.lookup p.1=some p.2/\(K w.params).lookup p.1=none/\∃c,CodeHd h c p.1)/\(∀(s:Qb) (u:Value),BindsTo s fd ⟨[u],[]⟩ [(x,u)]) ∧
    ∀base:Heap,(K w.params).In base->base.Ns mainGlobals mg->GY mg base->eV l.prog w Qf5 mg base mJ k j fd [x] (sp w ts))
  (Ld:∀(w:World) (ts:Co) (H:Hp) (a:Addr) (ns:AT),ns.length<=n->oG Qf5 H a Qb1->(∀p∈ts,H p.1=some Qcw)->sp w ts [.ref a] H (λv H'=>v=.bl true/\∀p∈ts,H' p.1=some Qcw) λ_ _ _=>False) :
  PySem.W.WalkO q loose XP B l.row.toRowW d [] QiY:=by
 refine Att.QY M t λw gZ C mg mb j o pm cd doc a vs ns G Y ho hd kL r A hints hlen N=>?_;have E:=R w _ Y;obtain⟨fd,ts,i,O,X⟩:=F w mg j _ E G.T.g r;obtain⟨bm,I,b1,b2,b3,b4,Z,z⟩:=G.T.bmain;have y:bm≠mainGlobals:=λq=>by
  obtain⟨o,es,ep,e,hd,_⟩:=G.T.g;rw[q,e]at b3;cases b3;rw[hd]at z;cases z
 exact aaj E G.T.g G.T.b G.T.builtins G.T.nolimit N ⟨bm,I,b1,b2,y,b3,b4,Z,z⟩ A hints (oy hlen m) L (λp D=>⟨S w _ Y _ (i p D).1,(i p D).2⟩) X O λH U J=>Ld w ts H a ns hlen U J
noncomputable def axm(y:Int):Value->Bool
 | .int i _=>i==y
 | _=>false
theorem aek:Xt X "list.index" (λx xs H Q=>∃(p:Addr) (l:AT) (y:Int) (j:Nat),x=.ref p/\xs=[.int y]/\oG X.K H p Qb2/\l[j]? = some y/\(∀i,i<j->l[i]? ≠ some y)/\Q (.int (j:Int)) H):=by
 intro pins s σ H x xs v us Q I o rs h;obtain⟨p,l,y,j,rfl,rfl,C,d,b,q⟩:=h;cases o;obtain⟨u,rfl,A⟩:=rs.one;obtain⟨t,rfl⟩:=A;obtain⟨its,r,⟨⟨oc,od,B,TN⟩,n,e,f,hd,hs⟩,hz⟩:=I.list C;dsimp only at f hd hs;subst f hd hs;have hi:=intsAre_of r;have at':∀{i:Nat} (hi:i<its.toArray.size),∃k t,its.toArray[i]=.int k t/\l[i]? = some k:=λ{i} a=>by
  have D:i<its.length:=by simpa using a
  have E:i<l.length:=by have:=r.length;rw[dm]at this;lia
  obtain⟨u,e1,e2⟩:=r.get (i:=i) (x:=.int l[i]) WA;obtain⟨t,rfl⟩:=e2;simp_all
 have g:j<its.toArray.size:=by
  have h1:=(pd.1 d).1;have:=r.length;rw[dm]at this;simp;lia
 have hsz:its.toArray.size<=sizeLine:=by
  have:=r.length;rw[ue,← this];exact hz
 refine x2 F.slot_list_index ⟨_,e,rfl⟩ F.entry_list_index (F.args_list_index_2 _ _) (SeqAt.list_indexAt p its.toArray n none TN (.int y t) (axm y) j g (by rw[p3]at hsz;lia) ?hit λm hm c=>?no) ⟨e,λw hw=>?eqs,?_⟩
 case hit=>
  obtain⟨k,t',e1,e2⟩:=at' g;rw[e1];rw[d]at e2;cases e2;exact Na y
 case no=>
  obtain⟨k,t',e1,e2⟩:=at' hm;rw[e1];exact Mo.2 λz=>b m c (by rw[e2,z])
 case eqs=>
  obtain⟨i,a,rfl⟩:=Array.mem_iff_getElem.1 hw;obtain⟨k,t',e1,e2⟩:=at' a;rw[e1];exact SeqAt.EqAt.int_int k t' y t
 exact⟨.int (j:Int),H,I.tok _,⟨_,rfl⟩,q⟩
variable{o:Expr}{apos:Pos}
def ael{l:AT}{y:Int}(h1:dU X CL b o δ (.lst Qb2) δ1)(h2:dU X CL b e δ1 (.int y) δ2)(t:l[j]? = some y)(d:∀i,i<j->l[i]? ≠ some y)
  (s:attributeBase o "index" X.env (eval o X.env)=eval o X.env:=by rfl) (h:((backTo pos QjX).all QfZ&&(backToKw pos Qff).all QfA
   && decide (([e]:Cc).length+([]:ES).length+Qfi<30))=true:=by rfl)
  (c:(apos.endLine==pos.line)=true:=by rfl) (hs:Qad:=by exact bC rfl) (f:(backTo pos QcX).any (·.1)=false:=by rfl) :
  cY X CL b (.Call (.Attribute o "index" apos) [e] [] pos) δ (.sh (.int (j:Int))) δ2:=λH Z σ ts vs Q S k=>
 cK (Le F.plainAttrs_list F.slot_list_index F.type_list_index aek dN Qay s h c hs f) (h1 H Z σ ts vs _ S λv1 H1 Z1 n k1 v r=>by
  obtain⟨a,us,rfl,g,p⟩:=r.g6;have:=yj p;subst this;refine⟨?_,h2 H1 Z1 σ ts vs _ v λv2 H2 Z2 m k2 u q=>?_⟩
  .exact .inl ⟨rfl,_,g⟩
  .cases q;exact⟨a,l,y,j,rfl,rfl,k2.seq g,t,d,k _ H2 Z2 (n.trans m) Qao (u.push QbE)⟩)
theorem Nk(r:eN k A):A.depth<recursionLimit:=by
 have:=r.dp;lia
variable{g:L3.D->T}
def aem(sc:QdO)(L:QaA)(h:dU X CL b iter δ (.lst ds) δ1)(cl:∀d∈ds,(g d).clean=true)(inner:Block X CL scope Nc ifs elt (GB δ1 ix) ds p g)(hlen:QbM)
  (hs:Qcc:=by intro _;rfl) (n1:AD y:=by decide) (B:AE y:=by decide):cY X CL b QkC δ (.lst ((ds.filter p).map g)) δ1:=λH Z σ ts vs Q S k pins s I=>by
 rw[eval_ListComp];refine Nd (use:=none) rfl hs (v9 (LM sc) I) sc.kind sc.names ?_;have hw:=(Xh (tg:=.Name y px) (dN (X:=X) (e:=iter))) pins s σ H (λJ H1=>∃Z1 us,aM Z Z1/\aM H H1/\bH X.K CL b H1 Z1 δ1 σ ts vs/\aG X.K CL H1 ds us/\(∀i H2,aM H1 H2->i<ds.length->J.go i H2)/\(∀i H2 x H',aM H1 H2->i<ds.length->J.u3 i H2 x H'->H'=H2/\us[i]? = some x)/\∀H2,aM H1 H2->J.stop ds.length H2) I (h H Z σ ts vs _ S λv H1 Z1 n k1 f r=>by
  obtain⟨a,us,rfl,l,c⟩:=r.g6;refine⟨a,rfl,⟨us,l⟩,Z1,us,n,k1,f,c,λi H2 s hi=>?_,λi H2 y H' s hi j=>⟨j.1,j.2 us (s.seq l)⟩,λH2 s=>⟨us,s.seq l,by rw[c.length];exact iP _⟩⟩;have w:i<us.length:=by rw[← c.length];exact hi
  exact⟨us,us[i],s.seq l,by simp[w]⟩)
 refine fX hw λv s1 h1=>fX h1 λE s2 zz=>?_;obtain⟨it,fp,tn,J,H1,e,P,N,st,hf,Z1,us,n,k1,f,c,go,A,u⟩:=zz;subst e;have t:∀i Z2 H2 x H',aM H1 Z2->aM Z2 H2->(∀a o,H2 a=some o->kM o=true->Z2 a=some o)->i<ds.length->J.u3 i H2 x H'->∃Z3 d,ds[i]? = some d/\M4 Z2 H2 Z3 H'/\bW X.K CL Z3 d x:=λi Z2 H2 x H' s1 s2 tp hi j=>by
  obtain⟨e,F⟩:=A i H2 x H' Qic hi j;subst e;obtain⟨d,hd,rd⟩:=c.Zz F;exact⟨Z2,d,hd,.refl s2 tp,rd.mono s1⟩
 refine zT (xs:=[y]) (LM sc) L P N st hf (zU (W1:=H1) f f.zh Qy (λ_ _ q _=>q) (AW f ix) (RO sc inner n1 B) go t u hlen (.inr cl)) λD T s' H' m io R ch ci zz=>?_;obtain⟨Z',z,C,O⟩:=zz;obtain⟨m,G⟩:=m;exact⟨m,G,λh' M=>⟨.ref D,H',ci h' M,rfl,k _ H' Z' (n.trans z) (k1.trans C) O⟩⟩
def aen(h:Qcl)(he:∀whole,isTrue e X.env whole=(do let v ← whole;standAt e.pos;holding [v] (truthy v)):=by intro _;rfl):ye X CL b e δ (!ds.isEmpty) δ1:=λH Z σ ts vs Q S k=>
 EI (ac9 dN he) (h H Z σ ts vs _ S λv H1 Z1 c k1 g r=>by
  obtain⟨a,us,rfl,f,d⟩:=r.g6;refine⟨_,.inl ⟨us,f,rfl⟩,?_⟩;have e:us.isEmpty=ds.isEmpty:=by
   have:=d.length;cases us<;>cases ds<;>simp at this ⊢
  rw[e];exact k H1 Z1 c k1 g)
noncomputable def ER(kvs:List Qd5)(k:EO):Option α:=(kvs.find? λa=>decide (a.1=k)).map (·.2)
def Rz{p:Qd5}{r:List Qd5}{k:EO}(e:p.1=k):ER (p::r) k=some p.2:=by simp[ER,e]
def RA{p:Qd5}{r:List Qd5}{k:EO}(e:¬ p.1=k):ER (p::r) k=ER r k:=by simp[ER,e]
variable{d:D}
theorem qv.length{kvs:DO}{gs:Bz}(h:qv K CL Z kvs gs):kvs.length=gs.length:=
 qv.ind (P:=λkvs gs=>kvs.length=gs.length) rfl (λ_ _ i=>congrArg (· + 1) i) h
theorem qv.val{k:EO}{kvs:DO}{gs:Bz}(h:qv K CL Z kvs gs):(ER kvs k=none/\vW gs k=none)\/∃d v,ER kvs k=some d/\vW gs k=some v/\bW K CL Z d v:=
 qv.ind (P:=λkvs gs=>(ER kvs k=none/\vW gs k=none)\/∃d v,ER kvs k=some d/\vW gs k=some v/\bW K CL Z d v) (.inl ⟨rfl,rfl⟩) (λ{x d v _ _} r _ i=>by
  by_cases e:x=k
  .exact .inr ⟨d,v,Rz e,tD e,r⟩
  .rw[RA (p:=(x,d)) e,qu (p:=(x,v)) e];exact i) h
theorem fW.length{kvs:Cf}{gs:Bz}(h:QjV):kvs.length=gs.length:=
 fW.ind (P:=λkvs gs _=>kvs.length=gs.length) rfl (λ_ _ i=>congrArg (· + 1) i) h
theorem fW.snoc{k:EO}{kvs:Cf}{gs:Bz}{a:BN}(h:QjV)(q:bU K CL H Z t v a):fW K CL H Z (kvs++[(k,t)]) (gs++[(k,v)]) (fp++(a++[])):=
 fW.ind (P:=λkvs gs fp=>fW K CL H Z (kvs++[(k,t)]) (gs++[(k,v)]) (fp++(a++[]))) (by rw[wA,wA,wA];exact .cons q .nil) (λr _ i=>by
  rw[nr];exact .cons r i) h
theorem aeo:AJ X (binaryOp .FloorDiv) (rI (λ_ j=>0<j/\j.natAbs.log2<9000) λi j=>.int (i / j)):=KU λi j _ _ _ _ _ a q=>by
 exact floordiv_int We (by rw[Int.fdiv_eq_ediv_of_nonneg i We];exact q) (.inl (PyProof.noPylong_of_log2 a.2))
noncomputable def aep{i j:Int}(h1:Qba)(h2:Qbo)(c:0<j/\j.natAbs.log2<9000):cY X CL b (.BinOp e1 .FloorDiv e2 pos) δ (.sh (.int (i / j))) δ2:=vX aeo h1 h2 rfl rfl rfl λ_ _ q=>⟨i,j,rfl,rfl,c,q⟩
def UY:∀{tl:Bi} {us:BY} {g:BN},bA K CL H Z (tl++[t]) us g->∃a u g1 g2,us=a++[u]/\g=g1++g2/\bA K CL H Z tl a g1/\bU K CL H Z t u g2:=by
 intro tl
 induction tl with
 | nil=>
  intro _ _ h;cases h with
  | cons r b=>
   cases b;exact⟨[],_,[],_,rfl,n2 _,.nil,r⟩
 | cons _ _ e=>
  intro _ _ h;cases h with
  | cons r b=>
   obtain⟨a,u,g1,g2,e1,e2,d,c⟩:=e b;subst e1 e2;exact⟨_,u,_,g2,rfl,(nr ..).symm,.cons r d,c⟩
section
variable{D:gi}
def asX{d:L3.D}(h:δ[i]? = some Qar)(q:t.gM=d)(k:dW X CL b fU (δ.set i Qbq) D):dW X CL b fU δ D:=λH Z σ ts vs E S M=>by
 subst q;obtain⟨v,Z',_,z,a⟩:=S.aid h;exact k H Z' σ ts vs E a.pop (M.mono z)
end
end L3
namespace L2
open PySem PySem.Spec PyProof.Rows
noncomputable abbrev XW:B2:=[.type "ValueError",.type "Exception",.type "BaseException",.type "object"]
def jr(fr:DA)(h h':Heap):Prop:=∀b∈y9 fr,∀o,h.get? b=some o->∃sl,h'.get? b=some {o with slots:=sl}
def Kj(P:Qak)(w:World):xf:=λouter H s E ev s'=>∃(e C:Addr) (a0:Value) (B:Heap) (H':Hp),ev=.ref e/\s'.os=s.os/\AllBare s'.gens/\Heap.FlyingW B outer e Q1 a0 s'.heap/\xY P w H' B ∧
 (∀h,B.StaysIn h->jr outer s.heap h->Un (y9 outer) [] H H' s.heap h)/\jr outer s.heap s'.heap/\E Q1 none H'
def XE(X:Cx)(W:XK):Value->Shared->Prop:=λev s'=>∃(e C:Addr) (pins:BM) (σ:St) (H:Hp) (s:Qb),ev=.ref e/\Inv X pins σ H s/\W Q1 none H/\s'.os=s.os/\AllBare s'.gens ∧
 (Heap.MadeExcOf s.heap s'.heap e Q1 []\/∃a0,Heap.HeldW Qhi X.stack e Q1 a0 X.env.locals s'.heap/\jr X.stack s.heap s'.heap)
section
variable{X:Cx}{pins:BM}{σ:St}{H:Hp}{s:Qb}
theorem jr.up{fr:DA}{h h1 h2 base:Heap}(a:jr fr h h1)(f:h1.FunFrames base fr)(u:h1.UpToSlots h2):jr fr h h2:=λb d o i=>by
 obtain⟨sl,e⟩:=a b d o i;obtain⟨_,o',g,hd⟩:=f.mem d;rw[e]at g;cases g;obtain⟨c,e2⟩:=u b _ e hd;exact⟨c,e2⟩
theorem Inv.aeq(I:Qz):xY X.prog X.w H Qhi:=λa o e=>by
 refine(I.fC a o e).AH (λb u d q=>IT _ q λhm=>?_) (λb q=>q) (λb xs q=>q);have c:=I.Fp b hm;simp_all
theorem Inv.aer(I:Qz):s.heap.FunFrames Qhi X.stack:=PySem.W.funFrames_hide I.stack λenv he a b=>Pe.2 ⟨env,he,b⟩
theorem Inv.aes(I:Qz)(f:Qex)(j:Qem)(hex:X.ex=[])(h:Heap)(st:(hideAll s.heap Qb0).StaysIn h)(fr:jr X.outer X.gZ.heap h):Un (y9 X.outer) [] X.q9 H X.gZ.heap h:=by
 have u:=I.base;rw[hex]at u;have out:∀b o,X.gZ.heap.get? b=some o->b∉y9 _->b∉y9 X.stack:=λb o a g hm=>by
  rw[f]at hm;unfold y9 at hm;rw[rl,j]at hm;obtain z|z:=eu.1 hm
  .have h1:=nz a;have h2:=I.ok.above;rw[← z]at h2;exact absurd h1 (Nat.not_lt.2 h2)
  .exact g z
 refine⟨λb o a d hf c=>?_,λb o a d hf c=>fr b hf o a,u.free,λb o a c=>?_,u.zL,u.fO,u.zM⟩
 .exact st b o (IT _ (u.keep b o a d hf c) (out b o a hf))
 .obtain⟨o',i⟩:=u.there b o a c;by_cases hf:b∈y9 X.outer
  .obtain⟨sl,e⟩:=fr b hf o a;exact⟨_,e⟩
  .exact⟨o',st b o' (IT _ i (out b o a hf))⟩
theorem Inv.RB(I:Qz)(hex:X.ex=[]):jr X.outer X.gZ.heap s.heap:=λb a o c=>I.base.slot b o c (I.ok.vk b a) a WD
theorem aoq{W:XK}{ev:Value}{s':Qb}{y:BS}(c:Qex)(f:Qem)(hex:X.ex=[])(h:XE X W ev s') :
  wpAny Qr X.A (leaving X.env ev) (λ_ g=>Kj X.prog X.w X.outer X.q9 X.gZ W ev g) y s':=by
 obtain⟨e,C,pins,σ,H,s,rfl,I,hw,v,l,hm⟩:=h;have j:X.A.frames=some QhX:=by rw[I.ok.frames,c]
 have k:=I.aer;have d:=v.trans I.os;rw[c]at k;have sub:∀b,b∈y9 X.outer->b∈y9 X.stack:=λb a=>by
  unfold y9 at a ⊢;simp_all
 obtain hm|⟨a0,hm,hs⟩:=hm
 .refine wpAny_leaves_madeW (base:=hideAll s.heap Qb0) j f (λb o q=>Pf _ q) WD hm λh' t n B z m=>?_;refine⟨e,C,.ref t,_,H,rfl,d,l,n,I.aeq,I.aes c f hex,?_,hw⟩;have f1:jr _ _ s'.heap:=λb a o i=>by
   obtain⟨sl,q⟩:=I.RB hex b a o i;exact⟨sl,hm.keeps _ _ q⟩
  have f2:=(I.zN).of_keeps λb o a _=>⟨o,hm.keeps b o a,rfl⟩;exact f1.up f2 m
 .rw[c]at hm;refine fF (wpAny_noteFrame_againW f hm.2.2.2 ?_);refine wpAny_landsW hm λh' x u=>?_;obtain⟨k1,k2,⟨_,_,k3⟩,r⟩:=x;refine⟨e,C,a0,_,H,rfl,d,l,⟨k1,k2,k3,r⟩,?_,?_,?_,hw⟩
  .rw[← c];exact I.aeq
  .intro h st fr;rw[← c]at st;exact I.aes c f hex h st fr
  .have f1:jr X.outer _ s'.heap:=λb a o i=>by
    obtain⟨sl,q⟩:=I.RB hex b a o i;obtain⟨p,D⟩:=hs b (sub b a) _ q;simp_all
   obtain⟨_,_,f2⟩:=hm.2.2.1;exact f1.up f2 u
theorem aeu{M:Model}{A:Qal}{E:BS}{base:Heap}{l:DA}{env:Env}{e L:Addr}{cls a0 y:Value}{Q:Qfz}(hf:env.frame=some L)
  (m:base.StaysIn s.heap) (n:base.get? e=none) (w:s.heap.FunFrames base l) (v:s.heap.TracedAtW base e cls a0 y)
  (h:∀h',Heap.HeldW base l e cls a0 L h'->s.heap.UpToSlots h'->Q () {s with heap:=h'}) :
  wpAny M A (do
   if (← field Qbk 1) == .none then unsupported "frame.own-activation:exception-without-traceback"
   setFlight Qbk env.frame) Q E s:=by
 obtain⟨u,vs,T,z,ts,he,r,hd,h1,k,g,t,f,x⟩:=v;have i:=(Array.getElem?_eq_some_iff.1 x).1;have c:∀b,b≠T->(s.heap.update T (Obj.mapFields (·.setIfInBounds 3 (rawInt L)))).get? b=s.heap.get? b:=λb d=>JH _ _ (qs d);have j:∀b o,s.heap.get? b=some o->(∀vs,o.data ≠ .fields vs)->b≠T:=λb o d a q=>by simp_all
 refine fF (wpAny_field he hd h1 ?_);refine fF (wpAny_field he hd h1 ?_);rw[hf];refine wpAny_setField t f i (h _ ⟨λb o p=>(c b λq=>by grind).trans (m b o p),n,w.of_keeps λb o d a=>⟨o,(c b (j b o d a)).trans d,rfl⟩,?_⟩ λb o d a=>⟨ _,(c b (j b o d a)).trans d⟩);exact⟨u,vs,T,_,_,(c e (qs g)).trans he,r,hd,h1,k,g,MM _ t (Obj.isFreed_of_fields (Obj.data_mapFields f _)),Obj.data_mapFields f _,by simp[i]⟩
theorem aiX{W:XK}(c:Qex)(g:Qem):PassesOwn Qr X.A X.env (XE X W):=λev s' h=>by
 obtain⟨e,C,pins,σ,H,s,rfl,I,hw,q,y,hm⟩:=h;have l:X.A.frames=some QhX:=by rw[I.ok.frames,c]
 have f:=I.aer;rw[c]at f;have back:∀{a0:Value} {s2:Qb},s2.os=s'.os->s2.gens=s'.gens->Heap.HeldW _ X.stack e Q1 a0 X.env.locals s2.heap->jr X.stack s.heap s2.heap->cameBackBy Qr X.A X.env (XE X W) Qbk s2:=λ{a0 s2} m g2 r fs=>by
  obtain⟨k1,k2,k3,i⟩:=r;refine aeu g k1 k2 k3 i λh' k n=>?_;exact⟨e,C,pins,σ,H,s,rfl,I,hw,m.trans q,WE,.inr ⟨a0,k,fs.up k3 n⟩⟩
 obtain hm|⟨a0,hm,hs⟩:=hm
 .obtain⟨t,he,p,v⟩:=hm.there;have fresh:∀b,s.heap.get? b=none->(hideAll s.heap Qb0).get? b=none:=λb d=>by
   cases j:(hideAll s.heap Qb0).get? b with
   | none=>rfl
   | some o'=>have:=Pf _ j;grind
  have a:s'.heap.FunFrames Qhi QhX:=c▸f.of_keeps λb o d _=>⟨o,hm.keeps b o d,rfl⟩;unfold notedBy noteFrame;simp only[g];refine fF (wpAny_field (x:=.none) he rfl rfl ?_);refine wpAny_entryW l a g he (λb o d=>hm.keeps b o (Pf _ d)) (fresh e hm.new) rfl (show 1<6 by decide) rfl λh' u=>?_;obtain⟨k1,k2,k3,i⟩:=u;rw[← c]at k2;refine back rfl rfl ⟨k1,fresh e hm.new,k2,k3⟩ ?_;have f1:jr X.stack s.heap s'.heap:=λb d o j=>⟨o.slots,hm.keeps _ _ j⟩;rw[← c]at a;exact f1.up a i
 .unfold notedBy;exact wpAny_noteFrame_againW g hm.2.2.2 (back rfl rfl hm hs)
structure GZ(K:Frag)(C:Addr):Prop where
 ex:∃nm q N bs bm hdct sn sub ab col dd k0 k1 k2 k3 k5,K.lookup C=some (excClassObj nm q C N bs bm hdct sn sub ab col dd k0 k1 k2 k3 k5 "ValueError.__new__")/\nsOkIn K N=true/\nsIn K N "__init__" = some none/\tailIn K XW bm=true
def aak{W:XK}{x:Str}{C:Addr}{np vV pos:Pos}{D:Ends}(a:QaA)(h:Q3)(hm:X.mg x=some Q1)(O:GZ X.K C)(hw:W Q1 none H)(hd:AD x:=by decide) :
  L3.OF Qh2 (.Raise (some (.Call (.Name x np) [] [] vV)) none pos) D σ H:=λpins s I=>by
 have J:=I.oH;obtain⟨nm,q,N,bs,bm,hdct,sn,sub,ab,col,dd,k0,k1,k2,k3,k5,f,b,d,c⟩:=O.ex;have tl:=PySem.W.tail_of_in J.xZ c;refine wpAny_Raise_call_subT (nm:=nm) (q:=q) (N:=N) (bs:=bs) (k0:=k0) (k1:=k1) (k2:=k2) (k3:=k3) (k5:=k5) (dd:=dd) (col:=col) (ab:=ab) (sub:=sub) (sn:=sn) (hdct:=hdct) PySem.F.excBase_ValueError (tl.hasType PySem.F.excBase_ValueError.hasBase) (J.ok.hd a) rfl (PySem.W.nsMap_none_of_in J.xZ b d) (ud I h hm ⟨rfl,?_⟩ hd);exact evalArgs_empty ⟨rfl,nZ _,J.xZ _ _ f,.of_isNs (PySem.W.isNs_of_in J.xZ b),tl,λh' e g=>⟨e,C,pins,σ,H,s,rfl,J,hw,rfl,J.bare,.inl g⟩⟩
structure Lies(X:Cx)(pins:BM)(σ:St)(H:Hp)(s:Qb)(H':Hp)(e C:Addr)(a0:Value)(B:Heap)(s':Qb):Prop where
 inv:Inv X pins σ H s
 os:s'.os=s.os
 bare:AllBare s'.gens
 XY:Heap.FlyingW B X.stack e Q1 a0 s'.heap
 fC:xY X.prog X.w H' B
 un:∀h,B.StaysIn h->jr X.stack s.heap h->Un Qb0 [] H H' s.heap h
 fr:jr X.stack s.heap s'.heap
variable{H':Hp}{e C:Addr}{a0:Value}{B:Heap}{s':Qb}
theorem Lies.now(L:QcO):Inv X pins σ H' s':=L.inv.arJ L.os (L.un _ L.XY.1 L.fr) (L.fC.kept L.XY.1) L.bare λb z=>absurd z oe
theorem Lies.move(L:QcO){h':Heap}{t':Nat}(hf:Heap.FlyingW B X.stack e Q1 a0 h')(u:s'.heap.UpToSlots h'):Lies X pins σ H s H' e C a0 B {s' with heap:=h',toks:=t'}:=
 ⟨L.inv,L.os,L.bare,hf,L.fC,L.un,L.fr.up L.XY.2.2.1 u⟩
abbrev Cx.hand(X:Cx)(e:Addr):Cx:={X with A:=X.A.mark (some Qbk),calm:=false}
theorem Inv.hand(I:Qz)(e:Addr):Inv (X.hand e) pins σ H s:=
 ⟨⟨I.ok.mod,I.ok.kind,I.ok.glob,I.ok.blt,I.ok.above,I.ok.inj,I.ok.has,I.ok.z3,(λh=>by cases h),I.ok.frames,I.ok.G2,I.ok.NM,I.ok.bs,I.ok.tf,I.ok.T8,I.ok.Zd,I.ok.zN,I.ok.vk⟩,I.os,I.bare,I.base,I.loc,I.cell,I.free,I.nS,I.pin,I.fC,I.len⟩
theorem Inv.G0(ok:X.Ok)(I:Inv (X.hand e) pins σ H s):Inv X pins σ H s:=⟨ok,I.os,I.bare,I.base,I.loc,I.cell,I.free,I.nS,I.pin,I.fC,I.len⟩
abbrev _root_.EM:=List ExceptHandler
def Y1{Q:Qht}{E:BS}{hs:EM}(d:Qex)(l:Qem)(L:QcO)
  (k:∀s3,Lies X pins σ H s H' e C a0 B s3->wpAny Qr X.A QjL Q E s3) :
  wpAny Qr X.A (noteFrame Qbk X.env) (λ_ b=>wpAny Qr X.A (setFlight Qbk none) (λ_ a=>wpAny Qr X.A QjL Q E a) E b) E s':=by
 have g:X.A.frames=some QhX:=by rw[L.inv.ok.frames,d]
 have h:=L.XY;rw[d]at h;refine wpAny_looks_onW g l h λn f j=>wpAny_landsW f λm c i=>k _ ?_;rw[← d]at c;exact L.move c (j.trans i)
def amb{Q:Qht}{E:BS}{x:Str}{Dd:Addr}{np pos:Pos}{b₀:Stmt}{suite:CS}{rest:EM}{m:Bool}(L:QcO)(f:Q3)(hm:X.mg x=some Qb8)
  (d:exmOne X.K Q1 Qb8=some m)
  (k:if m then ∀s4,Lies X pins σ H s H' e C a0 B s4->wpAny Qr (X.hand e).A (execs QeT X.env) Q Qa0 s4 else ∀s4,Lies X pins σ H s H' e C a0 B s4->wpAny Qr X.A (handleBy Qbk X.env rest) Q E s4)
  (hd:AD x:=by decide) :
  wpAny Qr X.A (handleBy Qbk X.env Qim) Q E s':=by
 have I:=L.now;obtain⟨h,g,a⟩:=L.XY.there;have LT:PySem.W.Looks Qr s'.heap (typeOf Qbk) Q1:=a▸(PySem.W.Looks.ld g).andThen .now;refine wpAny_handleBy_cons (codeAny_handlers_test (ud (I.hand e) f hm ?_ hd)) (λq=>by cases q);refine(exm_one I.xZ LT d).here ?_;cases m with
 | false=>exact k s' L
 | true=>
  refine codeAny_handlers_suite (lands_againW L.XY λi b c=>?_);exact o3 (k _ (L.move b c)) (λ_ _ z=>z) λ_ _ z=>z.elim
end
variable{X:Cx}
abbrev Cx.pinned(X:Cx)(p:BM):Cx:={X with pn:=X.pn++p}
theorem Cx.Ok.pinned(ok:X.Ok)(p:BM):(X.pinned p).Ok:=⟨ok.mod,ok.kind,ok.glob,ok.blt,ok.above,ok.inj,ok.has,ok.z3,ok.hd,ok.frames,ok.G2,ok.NM,ok.bs,ok.tf,ok.T8,ok.Zd,ok.zN,ok.vk⟩
variable{s:Qb}
theorem Inv.To{pins:BM}{σ:St}{H:Hp}(I:Qz):Inv (X.pinned pins) [] σ H s:=
 ⟨I.ok.pinned pins,I.os,I.bare,I.base,I.loc,I.cell,I.free,I.nS,(λp a=>I.pin p (by rw[n2]at a;exact a)),I.fC,I.len⟩
theorem Inv.UZ{pins p2:BM}{σ:St}{H:Hp}(ok:X.Ok)(I:Inv (X.pinned pins) p2 σ H s):Inv X pins σ H s:=
 ⟨ok,I.os,I.bare,I.base,I.loc,I.cell,I.free,I.nS,(λp a=>I.pin p (nv _ a)),I.fC,I.len⟩
end L2
namespace L3
open PySem PySem.Spec PyProof.Rows L2
def FI(b:Bx)(E:XK)(C:Addr):Prop:=∀H' Z':Hp,aM b.B H'->aM b.Z Z'->aM Z' H'->(∀a o,Z' a=some o->b.Z a=none->b.B a=none)->(∀a o,H' a=some o->kM o=true->Z' a=some o)->E Q1 none H'
def NG(K:Frag)(CL:BC){A:Type}(n:Nat)(arg:Qai)(Pre:QP)(exc:A->Str):Sp:=λvs H _ E=>
 ∃(W:Hp) (a:A),aM W H/\(∀c o,H c=some o->kM o=true->W c=some o)/\aG K CL W Qb4 vs/\(arg a).length=n/\Pre a/\oK CL W/\FI ⟨H,W⟩ E (CL (exc a))
section
variable{X:Cx}{CL:BC}{b:Bx}{δ δ1 δ2:BA}{e:Expr}{fU:CS}{D:gi}{x c:Str}{i:Nat}{pos:Pos}{W:XK}
def aiY{np vV:Pos}(d:QaA)(a:Gl X c)(hm:X.mg c=some QeR)(O:GZ X.K (CL c))(e:FI b W (CL c))(hd:AD c:=by decide) :
  dW Qh2 CL b (.Raise (some (.Call (.Name c np) [] [] vV)) none pos::fU) δ D:=cH λH Z σ ts vs E S M=>
 aak d a hm O (e H Z S.bh S.zz S.zh S.new S.tp) hd
theorem aor{P:Qak}{w:World}{K:Frag}{mg:Bn}{base:Heap}{qual:Str}{st:Stmt}{f:Addr}{fd:Qax}{N ps:At}{k:Nat}{A:Type}{arg:Qai}{Pre:QP}{exc:A->Str}(F:QcZ)(S:QbV)
  (m:∀(gy:Value) (d:Qal) (outer:DA) (s:Qb) (H:Hp) (E:XK) (b:Bx) (a:A),eN k (d.deeper Qci)->Pre a->FI b E (CL (exc a)) →
   dW ((rC (Kj P w) P w K mg base N qual Qaz f gy d outer s H E).nt (XE (rC (Kj P w) P w K mg base N qual Qaz f gy d outer s H E) E)) CL b Qbl QdR {nx:=λ_=>False,rt:=λ_ _=>False}) :
  eV P w K mg base (Kj P w) Qau f fd ps (NG K CL ps.length arg Pre exc):=by
 obtain⟨oc,od,kV,doc,pm,an,gy,ct,TN,rfl,lk,kL⟩:=F.ex;refine TB lk kL S (λvs H Q E h=>?_) λd outer s H vs Q E i h=>?_
 .obtain⟨W,a,_,_,r,e,_⟩:=h;rw[← r.length];exact e
 .obtain⟨W,a,g,tp,r,e,j,tb,n⟩:=h;have h0:fH K CL H W QdR (start N vs) []:=by
   unfold entry L2.start;rw[← r.length];exact kO _ r
  have h1:∀c o,W c=some o->W c=none->H c=none:=λc o q z=>by grind
  have body:=m gy d outer s H E _ a i j n H W _ [] [] {nx:=λ_ _=>False,rt:=λ_ _=>False} ⟨⟨[],[],h0,.nil,vy,λc l=>by cases l⟩,.refl _,.refl _,g,h1,tp,tb⟩ ⟨λ_ _ _ _ _ _ z=>z.elim,λ_ _ _ _ _ _ _ _ z=>z.elim,λ_ _ _ _ _ _ z=>z.elim,λ_ _ _ _ _ _ z=>z.elim⟩;refine⟨ _,Uq,λpins s1 I=>?_⟩;refine o3 (body pins s1 (I.nt _)) (λp s' z=>?_) λev s' z=>aoq rfl rfl rfl z;cases p with
  | next=>obtain⟨_,_,_,q⟩:=z;exact q.elim
  | brk=>obtain⟨_,_,_,q⟩:=z;exact q.elim
  | cont=>obtain⟨_,_,_,q⟩:=z;exact q.elim
  | ret u=>obtain⟨_,_,_,_,_,q⟩:=z;exact q.elim
def Nn(X:Cx)(CL:BC)(b:Bx)(Z:Hp)(δ1:BA)(ts:Bi)(vs:BY)(C:Addr)(ev:Value)(s':Qb):Prop:=
 ∃(e:Addr) (a0:Value) (B:Heap) (pins:BM) (σ:L2.St) (H:Hp) (s:Qb) (H' Z':Hp),ev=.ref e/\Lies X pins σ H s H' e C a0 B s'/\aM Z Z'/\bH X.K CL b H' Z' δ1 σ ts vs
def Pt(X:Cx)(CL:BC)(b:Bx)(e:Expr)(δ:BA)(c:Str)(δ1:BA):Prop:=
 ∀(H Z:Hp) (σ:L2.St) (ts:Bi) (vs:BY),bH X.K CL b H Z δ σ ts vs->zP QiF e σ H λ_ _=>False
def U8(X:Cx)(CL:BC)(b:Bx)(st:CS)(δ:BA)(c:Str)(δ1:BA):Prop:=
 ∀(H Z:Hp) (σ:L2.St) (ts:Bi) (vs:BY) (D:Ends),bH X.K CL b H Z δ σ ts vs->ZC QiF st D σ H
theorem bH.grown{K:Frag}{H H' Z W W':Hp}{σ:L2.St}{ts:Bi}{vs:BY}(S:Qag)(e:QbW)(c:aM Z W)(ww:aM W W')(d:aM W' H')(new:∀a o,W' a=some o->W a=none->H a=none)
  (tp:∀a o,H' a=some o->kM o=true->W' a=some o):∃Z',aM Z Z'/\bH K CL b H' Z' δ σ ts vs:=by
 obtain⟨Z',z,g⟩:=S.back e c ww d new tp (.sh .non) vy (λa f=>by cases f) QaK;exact⟨Z',z,g.pop⟩
theorem Pt.any{H Z:Hp}{σ:L2.St}{ts:Bi}{vs:BY}{Q:VK}(h:Pt X CL b e δ c δ1)(S:Qg3):zP QiF e σ H Q:=λpins s I=>
 o3 (h H Z σ ts vs S pins s I) (λ_ _ ⟨_,_,_,_,q⟩=>q.elim) λ_ _ z=>z
def aex(h:Pt X CL b e δ c δ1)(hs:QgA:=by rfl):U8 X CL b (.Expr e pos::fU) δ c δ1:=λH Z σ ts vs D S=>OE (Gj RF Uq) (rV (x8 (X:=X.nt (Nn X CL b Z δ1 ts vs _)) dN hs) (h.any S))
theorem Vn.pin{p:BM}(h:QaI):Vn Qe0 i x:=⟨h.hi,h.hv,h.hd,h.kL⟩
inductive HU(X:Cx)(CL:BC)(c:Str):EM->CS->Prop
 | hit {x:Str} {Dd:Addr} {np pos:Pos} {b₀:Stmt} {suite:CS} {rest:EM}:Gl X x->X.mg x=some Qb8->exmOne X.K QeR Qb8=some true->Qhk=false->HU X CL c Qim QeT
 | miss {x:Str} {Dd:Addr} {np pos:Pos} {b₀:Stmt} {suite st:CS} {rest:EM}:Gl X x->X.mg x=some Qb8->exmOne X.K QeR Qb8=some false->Qhk=false->HU X CL c rest st->HU X CL c Qim st
theorem HU.run{Q:Qht}{E:BS}{hs:EM}{st:CS}{pins p:BM}{σ:L2.St}{H H':Hp}{s s':Qb}{e:Addr}{a0:Value}{B:Heap}(h:HU X CL c hs st)(L:Lies Qe0 pins σ H s H' e (CL c) a0 B s')
  (k:∀s4,Lies Qe0 pins σ H s H' e (CL c) a0 B s4->wpAny Qr (X.hand e).A (execs st X.env) Q Qa0 s4):wpAny Qr X.A QjL Q E s':=by
 induction h generalizing s' with
 | hit h1 h2 b a=>exact amb (X:=X.pinned p) L h1 h2 b k a
 | miss h1 h2 b a _ d=>exact amb (X:=X.pinned p) L h1 h2 b (λs4 f=>d f k) a
theorem aos{body:CS}{h0:ExceptHandler}{hs:EM}{st:CS}(j:Qex)(t:Qem)(l:QfD)(r:∀p,U8 Qe0 CL b body δ c δ1)(m:HU X CL c (h0::hs) st)
  (k:∀e,dW (X.hand e) CL b st δ1 {D with nx:=λδ2=>dW X CL b fU δ2 D}):dW X CL b (.Try body (h0::hs) [] [] pos::fU) δ D:=cH λH Z σ ts vs E S M pins s I=>by
 refine wpAny_Try_except (o3 (r pins H Z σ ts vs {nx:=λ_ _=>False,rt:=λ_ _=>False} S [] s (I.To.nt _)) (λf s1 z=>?_) λev s1 z=>?_)
 .cases f with
  | next=>obtain⟨_,_,_,q⟩:=z;exact q.elim
  | brk=>obtain⟨_,_,_,q⟩:=z;exact q.elim
  | cont=>obtain⟨_,_,_,q⟩:=z;exact q.elim
  | ret u=>obtain⟨_,_,_,_,_,q⟩:=z;exact q.elim
 .obtain⟨e,a0,B,w,σ',H1,s0,H',Z',rfl,L,h,n⟩:=z;refine Y1 (X:=X.pinned pins) j t L λs3 L3=>m.run L3 λs4 o=>?_;have J:=(o.now.UZ I.ok).hand e;refine o3 (k e H' Z' σ' ts vs E n (M.mono h) pins s4 J) (λf s5 z=>?_) λ_ _ z=>by grind
  cases f with
  | next=>obtain⟨a,g,d,q⟩:=z;exact⟨a,g,d.G0 I.ok,q⟩
  | brk=>obtain⟨a,g,d,q⟩:=z;exact⟨a,g,d.G0 I.ok,q⟩
  | cont=>obtain⟨a,g,d,q⟩:=z;exact⟨a,g,d.G0 I.ok,q⟩
  | ret u=>obtain⟨v,a,g,d,i,q⟩:=z;exact⟨v,a,g,d.G0 I.ok,i,q⟩
end
end L3
namespace L2
open PySem PySem.Spec PyProof.Rows
structure wk(K:Frag)(D:Addr):Prop where
 ga:findIn K QaW "__getattribute__" = some QkF
 gn:findIn K QaW "__getattr__" = some none
 hd:hasDictIn K D=true
 fi:findIn K QaW "__class__" = some (some QcQ)
 sp:specialIn K QcQ "__get__" = some (some QgB)
 tk:takesIn K QcQ=some true
 mr:mroIn K D (.type "object")=some true
 mb:mroIn K D Qjp=some true
def excAt(e D:Addr)(h:Heap):Prop:=∃o,h.get? e=some o/\o.cls=.ref D
section
variable{prog:Qak}{w:World}{A:Qal}{E:BS}{s:Qb}{K:Frag}{x D:Addr}
open PySem.W in
def aey{M:Model}{a:Value}{Q:Qfz}(ty:Looks M s.heap (typeOf QaV) QaW)(d:Looks M s.heap (isSubtype QaW Qjp) true)(b:Q () s):wpAny M A (checkBuiltinCall "BaseException.__getattribute__" ⟨[.ref x,a],[]⟩) Q E s:=by
 obtain⟨f,gn,h,tk,os⟩:=s;have c:builtinKind "BaseException.__getattribute__" = some .slot:=by decide +kernel
 have e:splitId "BaseException.__getattribute__" = some ("BaseException","__getattribute__"):=by decide +kernel
 have g:=F.args_bexc_ga QaV a;simp only[checkBuiltinCall,c,e];refine fF ?_;unfold isInstance;refine fF (ty.at (d.at ?_))
 repeat (first|wp_step)
 exact b
open PySem PySem.Calls PyProof.Rows Builtin Builtin.ObjectAttr Builtin.Getset_descriptor PySem.W PySem.Builtin.ObjectAttr in
def aam{Q:Option Value->Shared->Prop}(O:wk K D)(X:Qgf)(e:excAt x D s.heap)(h:Q (some QaW) {s with toks:=s.toks+1}):wpAny Qaa A (getAttr? QaV "__class__") Q E s:=by
 obtain⟨d,gn,n,tk,os⟩:=s;obtain⟨k,c,b⟩:=e;have ty:Looks Qaa d (typeOf QaV) QaW:=b▸(Looks.ld c).andThen .now;have f1:=looks_findIn (M:=model prog w) X O.ga;have f2:=looks_findIn (M:=model prog w) X O.gn;have j:=looks_findIn (M:=model prog w) X O.fi;have f4:=looks_specialIn (M:=model prog w) X O.sp;have i:=looks_takesIn (M:=model prog w) X O.tk;have m:=looks_mroIn (M:=model prog w) X O.mr;have g:=looks_mroIn (M:=model prog w) X O.mb;have fd:Looks Qaa d (find QaV QaW "__class__") (.bind QgB QcQ):=
  j.andThen (f4.andThen ((show Looks Qaa d (dataDescriptor? (some QcQ) (some QgB)) (some (.builtin "getset_descriptor.__get__",.builtin "object.__class__")) from i.andThen .now).andThen (Looks.tag .now)))
 have f:=F.excAttr_ValueError.ga.bind QaV;have l:builtinKind "BaseException.__getattribute__" = some .slot:=by decide +kernel
 have o:splitId "BaseException.__getattribute__" = some ("BaseException","__getattribute__"):=by decide +kernel
 unfold getAttr? getAttrBy? getAttrBy;refine fF (wpAny_mkText (fF (wpAny_attempt (w8 (fF (ty.at (fF (f1.at ?_))))))));dsimp only;rw[bF (λq=>by rw[oD]at q;exact absurd q.2 Wl)];unfold getAttrByItsOwn hookBefore;rw[cq (show onTheHeap QaW=true from rfl)];refine fF (f2.at ?_);refine fF (wpAny_attempt (w8 ?_));unfold callGetattribute;rw[bF Wp];unfold boundAndCalled;rw[f];refine fF (oa ?_);refine wpAny_call (codeAny_call_builtin F.excAttr_ValueError.ga.plain F.entry_bexc_ga (aey ty g ?_));unfold Builtin.«object.__getattribute__»
 iterate 10 lk
 refine fF (oa (a:=("__class__":Str)) (fF (ty.at (fF (fd.at ?_)))));show wpAny _ _ (holding [_] (call _ [_,.ref x,.ref D]) >>= ret) _ _ _;refine fF (w8 (wpAny_call ?_));refine codeAny_call_builtin KF.slot_gs.plain KF.entry_gs (KF.slot_gs.check _ _ _ _ _ _ _ _ KF.type_class (KF.args_gs _ _ _) ?_);unfold Builtin.«getset_descriptor.__get__» descrGet;rw[dga_obj];refine fF (oa ?_);unfold descrGetter descrCheckInstance descrNameAndClass isInstance;simp only[KF.owner_class]
 repeat lk
 refine⟨Code.quiet_builtin _ Wl,codeAny_builtin KF.entry_class ?_⟩;unfold Builtin.«object.__class__» shownTypeOf
 repeat lk
 first|exact h|exact handed_on rfl h|exact oa (handed_on rfl (oa h))
theorem wk.there(O:wk K D):∃c d cd sl,K.lookup D=some ⟨c,d,.cls cd,sl⟩:=by
 obtain⟨cd,q,_⟩:=any_some O.hd;unfold PySem.W.clsIn at q;split at q
 .rename_i c d a sl e;exact⟨c,d,a,sl,e⟩
 .cases q
def RC(O:wk K D):PySem.W.KitX K QaV QaW (excAt x D):=by
 obtain⟨c,d,cd,sl,e⟩:=O.there;refine⟨λ_ _ _ ⟨o,h1,h2⟩=>h2▸(PySem.W.Looks.ld h1).andThen .now,λ_ _ vi _ j g i s' k q=>?_,λh tp dd its n b vi a=>?_,aam O⟩
 .exact fF (wpAny_loadPart (k _ _ (vi _ _ e)) (oa q))
 .cases f:(Value.ref D==Value.ref tp) with
  | false=>rfl
  | true=>
   cases Value.ref.inj (wx.1 f);have z:=(vi _ _ e).symm.trans a;cases z
noncomputable def Lx:V->Bool
 | .ref _=>true
 | .ty _=>true
 | _=>false
noncomputable def p0:V->Value
 | .ref a=>.ref a
 | .ty n=>.type n
 | _=>.none
def Ly{v:V}{u:Value}(a:Lx v=true)(r:QbT):u=p0 v:=by
 cases v<;>first|exact r|cases a
theorem Lz:∀{vs:BY} {us:B2},vs.all Lx=true->Vals vs us->us=vs.map p0
 | _,_,_,.nil=>rfl
 | _,_,a,.cons r t=>by
  rw[JE,oD]at a;rw[og,Ly a.1 r,Lz a.2 t]
theorem aan{cs:B2}{t:Value}(h:∀c∈cs,kitOne K t c=some false):kitAny K t cs=some false:=by
 induction cs with
 | nil=>rfl
 | cons c r a=>
  unfold kitAny;rw[h c (eU ..)];exact a λz hz=>h z QcF
def amc(K:Frag)(H:Hp)(D:Addr)(y:V)(bb:Bool):Prop:=
 (Lx y=true/\kitOne K QaW (p0 y)=some bb)\/∃tp vs,y=.ref tp/\AG K H tp vs/\vs.all Lx=true/\kitAny K QaW (vs.map p0)=some bb
variable{X:Cx}
def aez:qq X (.builtin "isinstance") (λxs H Q=>∃(e D:Addr) (y:V) (bb:Bool),xs=[.ref e,y]/\H e=some (.ext (excAt e D))/\wk X.K D/\amc X.K H D y bb/\Q (.bl bb) H):=by
 intro pins s σ H xs us Q I r h;obtain⟨e,D,y,bb,rfl,he,O,a,q⟩:=h;obtain⟨u,u2,rfl,f,b⟩:=r.two;cases (f);have fin:∀tk,EP X pins σ Q _ _:=λtk=>⟨.bl _,H,I.tok tk,rfl,q⟩;have ex:=(I.fC e _ he).1;obtain⟨c,a⟩|⟨tp,vs,rfl,hs,c,a⟩:=a
 .rw[Ly c b];exact Ar (RC O) I.xZ ex a (λz=>nomatch z) fin
 .cases (b);obtain⟨its,d,⟨o,g,cl,n,i⟩,_⟩:=I.tuple hs;obtain⟨c0,j,t0,s0⟩:=o;subst cl i;rw[← Lz c d]at a;exact PySem.W.kia_tup (RC O) I.xZ ex g a (λz=>nomatch z) fin
theorem gQ.got{P:Qak}{H:Hp}{h:Heap}{a:Addr}{o:HO}(x:gQ P w H h a o):∃u,h.get? a=some u:=by
 cases o with
 | lst xs=>obtain⟨_,_,_,_,z⟩:=x;exact⟨_,z⟩
 | tup xs=>obtain⟨_,_,_,_,z,_⟩:=x;grind
 | dK kvs=>obtain⟨_,_,_,_,_,_,_,z,_⟩:=x;grind
 | dT kvs=>obtain⟨_,_,_,_,_,_,_,z,_⟩:=x;grind
 | set S n=>obtain⟨_,_,_,_,z,_⟩:=x;grind
 | ins C dx fs=>obtain⟨_,_,_,z,_⟩:=x;exact⟨_,z⟩
 | own y=>exact x
 | xd fs=>obtain⟨_,⟨_,_,_,z,_⟩,_⟩:=x;grind
 | rng lo hi=>obtain⟨_,_,_,z⟩:=x;exact⟨_,z⟩
 | gM b u=>exact⟨_,x.1⟩
 | tbl ps=>exact⟨_,x⟩
 | tabs q=>obtain⟨_,z,_⟩:=x;exact⟨_,z⟩
 | Xd q=>obtain⟨_,_,_,z,_⟩:=x;exact⟨_,z⟩
 | met f y=>exact⟨_,x⟩
 | ext φ=>exact x.2.1
variable{pins:BM}{σ:St}{H H':Hp}{s':Qb}{e C:Addr}{a0:Value}{B:Heap}
theorem Lies.fresh(L:QcO):s.heap.get? e=none:=by
 cases d:s.heap.get? e with
 | none=>rfl
 | some o=>
  have ne:e∉y9 _:=λa=>by
   obtain⟨_,g,h1,d1⟩:=L.XY.2.2.1.mem a;obtain⟨f,vs,_,_,_,h2,_,d2,_⟩:=L.XY.2.2.2;grind
  obtain⟨o',h'⟩:=(L.un _ (λb u a=>IT _ (L.XY.1 b u a) λz=>by
   rw[n4]at z;rw[z,L.XY.2.1]at a;cases a) λb a u c=>by
    obtain⟨sl,z⟩:=L.fr b a u c;exact⟨sl,IT _ z λq=>ne WD⟩).there e o d oe
  rw[hideAll_none _ (n4.2 rfl)]at h';cases h'
theorem Lies.no(L:QcO):H' e=none:=by
 cases a:H' e with
 | none=>rfl
 | some o=>
  obtain⟨u,z⟩:=(L.fC e o a).got;rw[L.XY.2.1]at z;cases z
theorem Lies.taken(L:QcO)(hex:X.ex=[]):Inv X pins σ (upd H' e (.ext (excAt e C))) s':=by
 have I:=L.now;have J:=L.inv;have fr:=L.fresh;have no:∀{b:Addr} {o:Obj},s.heap.get? b=some o->b≠e:=λ{b o} q z=>by simp_all
 have up:∀{b:Addr},b≠e->upd H' e (.ext (excAt e C)) b=H' b:=λ{b} q=>bF q;have keep:∀{b:Addr} {v:HO},H' b=some v->upd H' e _ b=some v:=λ{b v} q=>by
  rw[up λz=>by rw[z,L.no]at q;cases q];exact q
 obtain⟨j,r,g⟩:=L.XY.there;have first:∀{b:Addr} {o:Obj},X.gZ.heap.get? b=some o->b≠e:=λ{b o} q=>by
  obtain⟨o',z⟩:=J.base.there b o q WE;exact no z
 refine⟨I.ok,I.os,I.bare,⟨I.base.keep,I.base.slot,λb o h1 h2 w=>up (first h1)▸I.base.free b o h1 h2 w,I.base.there,λb xs q=>keep (I.base.zL b xs q),λb o u q=>keep (I.base.fO b o u q),λb ps q=>?_⟩,I.loc,I.cell,?_,λx c q=>?_,λp l=>?_,λa o q=>?_,I.len⟩
 .obtain⟨more,z⟩:=I.base.zM b ps q;exact⟨more,keep z⟩
 .obtain⟨m,⟨y,_,_,h,_⟩,_⟩:=J.loc;rw[up (no h)];exact I.free
 .obtain⟨v,z⟩:=J.cell x c q;obtain⟨oc,i,_⟩:=z;rw[up (no i)];exact I.nS x c q
 .obtain⟨f,d,t⟩:=I.pin p l;refine⟨f,?_,t⟩;rw[up (no (J.pin p l).1)];exact d
 .by_cases n:a=e
  .subst n;rw[show upd H' a _ a=some _ from cq rfl]at q;cases q;exact⟨⟨j,r,g⟩,⟨j,r⟩,λh1 h2 ⟨o,f,d⟩ k=>⟨o,k _ f,d⟩⟩
  .rw[up n]at q;exact(I.fC a o q).AH (λ_ _ _ z=>z) (λb z=>keep z) (λb xs z=>keep z) λb u z=>keep z
theorem aiZ{M:Model}{i:Nat}{x:Str}{ps:Pos}{Q:Qfz}(I:Qz)(S:Qa9)(hi:X.N[i]? = some x)(R:X.env.kindOf x=some .local)
  (h:∀s2,Inv X pins (σ.set i none) H s2->Q () s2):wpAny M A (do bindName X.env x .none;unbindBehindTheSuite X.env x ps) Q E s:=by
 obtain⟨m,O,P⟩:=id I.loc;have D:(X.env.scope.kind == .class || (X.env.scope.kind == .module&&X.env.locals != X.env.globals))=false:=by rw[I.ok.kind];rfl
 have G:=I.xw;have below:∀{b:Addr} {o:Obj},X.gZ.heap.get? b=some o->b≠X.env.locals:=λ{b o} q=>oI (pE (nz q) I.ok.above);refine wpAny_nameGoes_keeps R O D λh' v B hs=>h _ ⟨I.ok,I.os,I.bare,⟨λb o d e f t=>(hs.2 b (below d)).trans (I.base.keep b o d e f t),λb o d e f t=>?_,I.base.free,λb o d e=>?_,I.base.zL,I.base.fO,I.base.zM⟩,⟨_,B,λj y w d e f=>?_⟩,λy c q=>?_,I.free,I.nS,λp L=>?_,λa o q=>?_,by simpa using I.len⟩
 .obtain⟨sl,z⟩:=I.base.slot b o d e f t;exact⟨sl,(hs.2 b (below d)).trans z⟩
 .obtain⟨o',z⟩:=I.base.there b o d e;exact⟨o',(hs.2 b (below d)).trans z⟩
 .by_cases C:j=i
  .subst C;have K:j<σ.length:=by rw[I.len];exact(pd.1 hi).1
   rw[Fs K]at e;cases e
  .rw[JP (qs C)]at e;obtain⟨u,r,z⟩:=P j y w d e f;refine⟨u,r,?_⟩;obtain⟨k,z⟩|⟨k,c,g,n⟩:=z
   .refine .inl ⟨k,?_⟩;have:y≠x:=λq=>C (Gh S d (q▸hi));simp_all
   .exact .inr ⟨k,c,g,n.sameBut hs (G y c g)⟩
 .obtain⟨w,z⟩:=I.cell y c q;exact⟨w,z.sameBut hs (G y c q)⟩
 .obtain⟨g,n,F,J⟩:=I.pin p L;exact⟨(hs.2 p.1 F).trans g,n,F,J⟩
 .refine(I.fC a o q).AH (λc w l z=>(hs.2 c ?_).trans z) (λ_ z=>z) λ_ _ z=>z;rintro rfl;obtain rfl|l:=l
  .rw[I.free]at q;cases q
  .rw[I.free]at l;cases l
def aot{Q:Qht}{x n:Str}{i:Nat}{Dd:Addr}{np ps:Pos}{b₀:Stmt}{suite:CS}{rest:EM}(L:QcO)(hex:X.ex=[])(h:Qa9)(hi:X.N[i]? = some n)
  (r:X.env.kindOf n=some .local) (p:Loc X.env.scope n) (hf:AM X n) (t:Q3) (hm:X.mg x=some Qb8) (o:exmOne X.K Q1 Qb8=some true)
  (k:∀s4,Inv X pins (σ.set i (some Qbk)) (upd H' e (.ext (excAt e C))) s4->wpAny Qr (X.hand e).A (execs QeT X.env) (λf s5=>∃g a j,Inv X g a j s5/\∀d,Inv X g (a.set i none) j d->Q f d) Qa0 s4)
  (hd:AD x:=by decide) :
  wpAny Qr X.A (handleBy Qbk X.env (.ExceptHandler (some (.Name x np)) (some n) QeT ps::rest)) Q E s':=by
 have I:=L.now;obtain⟨G,u,b⟩:=L.XY.there;have LT:PySem.W.Looks Qr s'.heap (typeOf Qbk) Q1:=b▸(PySem.W.Looks.ld u).andThen .now;refine wpAny_handleBy_cons (codeAny_handlers_test (ud (I.hand e) t hm ?_ hd)) (λq=>by cases q);refine(exm_one I.xZ LT o).here ?_;refine codeAny_handlers_suite_as (lands_againW L.XY λJ c l=>?_);refine AI ((L.move c l).taken hex) h hi p (v:=.ref e) rfl (λm y=>?_) hf;refine o3 (k m y) (λf F z=>?_) λ_ _ z=>z.elim;obtain⟨_,_,_,D,q⟩:=z;exact aiZ D h hi r q
end
theorem aM.off{H H':Hp}{a:Addr}(h:QbW)(n:H' a=none):H a=none:=by
 cases q:H a with
 | none=>rfl
 | some o=>rw[h a o q]at n;cases n
end L2
namespace L3
open PySem PySem.Spec PyProof.Rows L2
section
variable{X:Cx}{CL:BC}{b:Bx}{δ δ1 δ2:BA}{e e1 e2:Expr}{fU:CS}{D:gi}{x c:Str}{i:Nat}{pos pp:Pos}{W:XK}
def wm{v:V}{u:Value}(a:Q3)(hm:X.mg x=some u)(r:QbT)(hd:AD x:=by decide):cY X CL b Qan δ (.sh Qdq) δ:=λH Z σ ts vs Q S k=>cK (Ft a hm r hd) QlB
def ai0{v:V}{u:Value}(c:Q3)(hm:X.mg x=none)(hv:bootBuiltins x=some u)(r:QbT)(a:QfM:=by decide)(hd:AD x:=by decide):cY X CL b Qan δ (.sh Qdq) δ:=λH Z σ ts vs Q S k=>cK (Xe c hm hv r a hd) QlB
inductive LP(K:Frag)(C:Addr):L3.D->Bool->Prop
 | one {v:V} {bb:Bool}:Lx v=true->kitOne K Q1 (p0 v)=some bb->LP K C Qdq bb
 | non {vs:BY}:vs.all Lx=true->(∀v∈vs,kitOne K Q1 (p0 v)=some false)->LP K C (.tup (vs.map .val)) false
theorem RD{K:Frag}{H:Hp}:∀{vs us:BY},aG K CL H (vs.map .val) us->us=vs
 | [],_,h=>by cases h;rfl
 | v::vs,_,h=>by
  cases h with
  | cons r t=>cases r;rw[RD t]
theorem LP.ans{K:Frag}{C:Addr}{d:L3.D}{bb:Bool}{H:Hp}{y:V}(h:LP K C d bb)(r:bW K CL H d y):amc K H C y bb:=by
 cases h with
 | one c b=>cases r;exact .inl ⟨c,b⟩
 | @non vs c b=>
  obtain⟨a,us,rfl,hs,e⟩:=r.Q0;cases RD e;refine .inr ⟨a,vs,rfl,hs,c,aan λz hz=>?_⟩;obtain⟨v,hv,rfl⟩:=n3.1 hz;exact b v hv
def U0{a C:Addr}{d2:L3.D}{bb:Bool}(hz:b.Z a=some (.ext (excAt a C)))(O:wk X.K C)(hm:QjR)(g:Gl X "isinstance")(h:Xx X CL b [e1,e2] δ [.val Qaj,d2] δ1)(i:LP X.K C d2 bb)
  (hs:Qgk:=by exact bC rfl) (hpl:(backTo pos QjS).any (·.1)=false:=by rfl) :
  cY X CL b (.Call Qjr [e1,e2] [] pos) δ (.sh (.bl bb)) δ1:=λH Z σ ts vs Q S k=>
 cK (nU aez g hm boot_isinstance JF (he:=hs) (hpl:=hpl)) (h H Z σ ts vs _ S λus H1 Z1 d k1 c r=>by
  cases r with
  | cons f r=>
   cases r with
   | cons e r=>
    cases r;cases f;exact⟨a,C,_,bb,rfl,c.zh _ _ (c.zz _ _ hz),O,i.ans e,k _ H1 Z1 d k1 (c.push Qcf)⟩)
abbrev Bx.with(b:Bx)(a:Addr)(o:HO):Bx:=⟨upd b.B a o,upd b.Z a o⟩
theorem jJ{H:Hp}{a:Addr}{o:HO}(h:H a=none):aM H Qbs:=λc u q=>by
 rw[show upd H a o c=H c from bF λz=>by grind];exact q
def G3{H H':Hp}{a:Addr}{o:HO}(h:QbW):aM Qbs (upd H' a o):=λc u q=>by
 by_cases z:c=a
 .rw[show upd H' a o c=some o from cq z];rw[show upd H a o c=some o from cq z]at q;exact q
 .rw[show upd H' a o c=H' c from bF z];rw[show upd H a o c=H c from bF z]at q;exact h c u q
theorem bH.with{K:Frag}{H Z:Hp}{σ:L2.St}{ts:Bi}{vs:BY}{a:Addr}{o:HO}(S:Qag)(n:H a=none)(hi:kM o=false):bH K CL (b.with a o) (upd H a o) (upd Z a o) δ σ ts vs:=by
 obtain⟨fp,gp,e,r,nd,k⟩:=S.rep;have i:=S.zh.off n;have ne:∀c u,H c=some u->c≠a:=λc u q z=>by grind
 have up:∀{J:Hp} {c:Addr},c≠a->upd J a o c=J c:=λ{J c} z=>bF z;have h:∀c∈fp++gp,c≠a:=λc d=>by
  obtain z|z:=f9.1 d
  .obtain⟨u,q⟩:=e.there c z;simp_all
  .obtain⟨u,q⟩:=r.there c z;simp_all
 refine⟨⟨fp,gp,e.mono (jJ i) λc d=>up (h c (nv _ d)),r.mono (jJ i) λc d=>up (h c (j9 _ d)),nd,λc d=>?_⟩,G3 S.bh,G3 S.zz,G3 S.zh,λc u g f=>?_,λc u g f=>?_,S.tab.mono (jJ (S.zz.off i))⟩
 .exact⟨(up (h c d)).trans (k c d).1,(up (h c d)).trans (k c d).2⟩
 .have z:c≠a:=λz=>by rw[show(b.with a o).Z c=some o from cq z]at f;cases f
  rw[up z]at g;rw[show(b.with a o).Z c=b.Z c from up z]at f;exact(up z).trans (S.new c u g f)
 .by_cases z:c=a
  .rw[show upd H a o c=some o from cq z]at g;grind
  .rw[up z]at g ⊢;exact S.tp c u g f
theorem bH.without{K:Frag}{H Z:Hp}{σ:L2.St}{ts:Bi}{vs:BY}{a:Addr}{o:HO}(S:bH K CL (b.with a o) H Z δ σ ts vs)(nb:b.B a=none)(h:b.Z a=none)(tb:oK CL b.Z):bH K CL b H Z δ σ ts vs:=by
 obtain⟨fp,gp,e,r,nd,k⟩:=S.rep;refine⟨⟨fp,gp,e,r,nd,λc d=>⟨(k c d).1,(jJ nb).off (k c d).2⟩⟩,(jJ nb).trans S.bh,(jJ h).trans S.zz,S.zh,λc u g f=>?_,S.tp,tb⟩;by_cases z:c=a
 .rw[z];exact nb
 .exact(jJ nb).off (S.new c u g (by rw[show(b.with a o).Z c=b.Z c from bF z];exact f))
theorem Meets.with{K:Frag}{Z:Hp}{ts:Bi}{vs:BY}{a:Addr}{o:HO}{E:Ends}(M:Qju)(n:Z a=none)(nb:b.B a=none)(c:b.Z a=none)(tb:oK CL b.Z):Meets K CL (b.with a o) (upd Z a o) ts vs D E:=
 ⟨λ_ _ _ _ q S=>M.nx _ _ _ _ ((jJ n).trans q) QhE,λ_ _ _ _ _ _ q S=>M.rt _ _ _ _ _ _ ((jJ n).trans q) QhE,λ_ _ _ _ q S=>M.bk _ _ _ _ ((jJ n).trans q) QhE,λ_ _ _ _ q S=>M.ct _ _ _ _ ((jJ n).trans q) QhE⟩
theorem fH.unset{K:Frag}{H Z:Hp}{σ:L2.St}{fp:BN}(e:QhB):∀{j:Nat},(δ[j]? = some none\/∃d,δ[j]? = some Qbq)->fH K CL H Z (δ.set j none) (σ.set j none) fp:=by
 induction e with
 | nil=>exactλ_=>.nil
 | skip q b=>
  intro j a;cases j with
  | zero=>exact .skip q
  | succ j=>exact .skip (b a)
 | @cons t v δ' σ' f1 f2 rt re b=>
  intro j a;cases j with
  | zero=>
   obtain q|⟨d,q⟩:=a
   .cases q
   .cases q;cases rt;exact .skip re
  | succ j=>exact .cons rt (b a)
theorem bH.unset{K:Frag}{H Z:Hp}{σ:L2.St}{ts:Bi}{vs:BY}{j:Nat}(S:Qag)(a:δ[j]? = some none\/∃d,δ[j]? = some Qbq):bH K CL b H Z (δ.set j none) (σ.set j none) ts vs:=by
 obtain⟨fp,gp,e,r,nd,k⟩:=S.rep;exact⟨⟨fp,gp,e.unset a,r,nd,k⟩,S.bh,S.zz,S.zh,S.new,S.tp,S.tab⟩
theorem aou{body:CS}{n:Str}{Dd:Addr}{np W:Pos}{b₀:Stmt}{suite:CS}{rest:EM}(T:Qex)(JG:Qem)(U:QfD)(hex:X.ex=[])(nd:Qa9)(nl:Ln X i n)(Y:X.env.kindOf n=some .local)
  (r:∀p,U8 Qe0 CL b body δ c δ1) (hg:Q3) (hm:X.mg x=some Qb8) (V:exmOne X.K QeR Qb8=some true) (hi:Qbm)
  (k:∀(a:Addr) (G:Bx),G.Z a=some (.ext (excAt a (CL c)))->dW (X.hand a) CL G QeT (δ1.set i (some (.sh (.val Qaj)))) {nx:=λδ2=>(δ2[i]? = some none\/∃d,δ2[i]? = some Qbq)/\dW X CL G fU (δ2.set i none) D,rt:=λ_ _=>False})
  (hd:AD x:=by decide) :
  dW X CL b (.Try body (.ExceptHandler (some (.Name x np)) (some n) QeT W::rest) [] [] pos::fU) δ D:=λH Z σ ts vs E S M=>OE (Gj RF Uq) λpins s I=>by
 refine wpAny_Try_except (o3 (r pins H Z σ ts vs {nx:=λ_ _=>False,rt:=λ_ _=>False} S [] s (I.To.nt _)) (λf s1 z=>?_) λev s1 z=>?_)
 .cases f with
  | next=>obtain⟨_,_,_,q⟩:=z;exact q.elim
  | brk=>obtain⟨_,_,_,q⟩:=z;exact q.elim
  | cont=>obtain⟨_,_,_,q⟩:=z;exact q.elim
  | ret u=>obtain⟨_,_,_,_,_,q⟩:=z;exact q.elim
 .obtain⟨e,a0,B,nT,σ',H1,s0,H',Z',rfl,L,P,m⟩:=z;refine Y1 (X:=X.pinned pins) T JG L λs3 L3=>?_;have F:=L3.no;have O:=m.zh.off F;have C:=m.bh.off F;have A:=m.zz.off O;have S2:=((m.with (o:=.ext (excAt e (CL c))) F rfl).push (v:=.ref e) (d:=.val Qbk) (.val _)).set hi;have M2:=(M.mono P).with (o:=.ext (excAt e (CL c))) O C A m.tab;refine aot (X:=X.pinned pins) L3 hex nd nl.hi Y nl.loc nl.hf hg hm V (λs4 I4=>?_) hd;have J:=(I4.UZ I.ok).hand e;have done:∀(g:L2.St) (j:Hp),(∃h l,aM (upd Z' e (.ext (excAt e (CL c)))) l/\bH X.K CL (b.with e (.ext (excAt e (CL c)))) j l h g ts vs/\(h[i]? = some none\/∃d,h[i]? = some (some (.sh d)))/\dW X CL (b.with e (.ext (excAt e (CL c)))) fU (h.set i none) D) →
    ZC X fU E (g.set i none) j:=λg j ⟨h,l,y,w,t,R⟩=>R j l _ ts vs E (w.unset t) (M2.mono y)
  have run:=k e (b.with e (.ext (excAt e (CL c)))) (cq rfl) _ _ _ ts vs {nx:=λg j=>ZC X fU E (g.set i none) j,rt:=λ_ _=>False} S2 ⟨λh g j l y w t=>done g j ⟨h,l,y,w,t.1,t.2⟩,λ_ _ _ _ _ _ _ _ z=>z.elim,λ_ _ _ _ _ _ z=>z.elim,λ_ _ _ _ _ _ z=>z.elim⟩ pins s4 J;refine o3 run (λf s5 z=>?_) λ_ _ z=>by grind
  cases f with
  | next=>
   obtain⟨g,j,I5,q⟩:=z;exact⟨[],g,j,(I5.G0 I.ok).To,λs6 I6=>⟨_,_,I6.UZ I.ok,q⟩⟩
  | brk=>obtain⟨_,_,_,q⟩:=z;exact q.elim
  | cont=>obtain⟨_,_,_,q⟩:=z;exact q.elim
  | ret u=>obtain⟨_,_,_,_,_,q⟩:=z;exact q.elim
theorem Vn.hand{a:Addr}(h:QaI):Vn (X.hand a) i x:=⟨h.hi,h.hv,h.hd,h.kL⟩
theorem Ln.hand{a:Addr}(h:QbJ):Ln (X.hand a) i x:=⟨⟨h.hi,h.hv,h.hd,h.kL⟩,h.loc,h.hf⟩
def aeB{t:T}{pos':Pos}(nd:Qa9)(n:QbJ)(h:QaG)(k:QiR)(a:Qbm:=by exact k6 rfl)(hs:Qeg:=by rfl) :
  dW X CL b QiV δ D:=cH (Ux i h k a nd n.hi n.loc hs n.hf)
def EV:bootBuiltins "ValueError" = some QjI:=by decide +kernel
end
def aeC(l q:Addr)(xs ys:CO)(n m:Nat)(f:Da)(sq:Cn)(j:Qkx)(c:xs.size<=sizeLine)(b:xs.size+ys.size<=sizeLine+1) :
  PySem.Meets (Builtin.«list.extend» ⟨[.ref l,.ref q],[]⟩) (λ_ R s=>s.heap.get? l=some {cls:=.type "list",dict:=none,data:=.seq xs n,slots:=#[]}/\s.heap.get? q=some {cls:=.type "list",dict:=f,data:=.seq ys m,slots:=sq} ∧
   R (.ok (.ret Value.none)) {s with heap:=s.heap.update l (Obj.mapSeq λx=>x++ys),toks:=s.toks}):=
 PySem.Meets.of_wp λprog w A R s h=>by
  obtain⟨i,g,d,tk,os⟩:=s;obtain⟨a,e,h⟩:=h;have f1:=AutoSeq1.idx_int;have o:=AutoSeq1.sub_list_list;have f4:=AutoSeq1.sub_tuple_list;have k:=AutoSeq1.sub_list_tuple;have hz:(xs++ys).size<=sizeLine+1:=by
   rw[Array.size_append];exact b
  wp_walk using QkU,wpAny_loadPart' a,wpAny_loadPart' e
  exact⟨_,rfl,h⟩
def amd(K:Frag):V->BY->Hp->VK->Prop:=λx vs H Q=>∃l q xs zs,x=.ref l/\vs=[.ref q]/\H l=some QaO/\oG K H q zs/\xs.length+zs.length<=sizeLine/\Q .non (upd H l (.lst (xs++zs)))
variable{X:Cx}
theorem ai1:Ki X "list.extend" (amd X.K):=by
 intro pins s σ H x vs v us Q I d f h;obtain⟨l,q,xs,zs,rfl,rfl,b,m,hz,k⟩:=h;cases d;obtain⟨u,rfl,g⟩:=f.one;cases g;obtain⟨z,its,n,r,y,e⟩:=I.LU b;obtain⟨c,a,⟨⟨A,d2,o,s2⟩,i,e2,p,_,hd2⟩,w⟩:=I.list m;cases p;cases hd2;have j:=a.length;have hsz:its.toArray.size+c.toArray.size<=sizeLine:=by grind
 have t:¬ (!its.toArray.isEmpty&&Builtin.List.listTooLong (its.toArray.size+c.toArray.size))=true:=by
  rw[Gv hsz,Bool.and_false];decide
 refine x2 F.slot_list_extend ⟨_,e,rfl⟩ F.entry_list_extend (F.args_list_extend_2 _ _) (aeC l q _ _ n i d2 s2 t WE We) ⟨e,e2,?_⟩;refine⟨.non,_,I.L1 b e WA (r.append a) ?_,rfl,k⟩;simp_all
inductive G4 where
 | ix (j:Nat)|fld (f:Str)|key (k:EO)
noncomputable def HI{α:Type}(k:EO)(t:α):List Qd5->List Qd5
 | []=>[]
 | (x,u)::r=>if x=k then(x,t)::r else(x,u)::HI k t r
noncomputable def T.core:T->T
 | .pin _ t=>t
 | t=>t
noncomputable def T.Np:T->T->T
 | .pin y _,u=>.pin y u
 | _,u=>u
def T.r0:G4->T->Option T
 | .ix j,.lst ts=>ts[j]?
 | .ix j,.tup ts=>ts[j]?
 | .fld f,.ins _ fs=>fs.lookup f
 | .key k,.dct kvs=>ER kvs k
 | _,_=>none
def T.U1:G4->T->T->T
 | .ix j,.lst ts,u=>.lst (ts.set j u)
 | .ix j,.tup ts,u=>.tup (ts.set j u)
 | .fld f,.ins c fs,u=>.ins c (zS f u fs)
 | .key k,.dct kvs,u=>.dct (HI k u kvs)
 | _,t,_=>t
def T.oN:List G4->T->Option T
 | [],t=>some t.core
 | s::p,t=>(t.core.r0 s).bind (T.oN p)
def T.wu:List G4->T->T->T
 | [],u,t=>t.Np u
 | s::p,u,t=>match t.core.r0 s with
  | some k=>t.Np (t.core.U1 s (T.wu p u k))
  | none=>t
def xi(H:Hp)(v:V):G4->V->Prop
 | .ix j,w=>∃a us,v=.ref a/\(H a=some Qb7\/H a=some Qd6)/\us[j]? = some w
 | .fld f,w=>∃a C dx gs,v=.ref a/\H a=some (.ins C dx gs)/\gs.lookup f=some w
 | .key k,w=>∃a gs,v=.ref a/\H a=some Qeb/\vW gs k=some w
def EW(H:Hp):V->List G4->V->Prop
 | v,[],w=>v=w
 | v,s::p,w=>∃u,xi H v s u/\EW H u p w
variable{H H':Hp}{v:V}{s:G4}
theorem xi.mono(e:QbW){w:V}(h:xi H v s w):xi H' v s w:=by
 cases s with
 | ix j=>obtain⟨a,us,h1,h2,b⟩:=h;exact⟨a,us,h1,h2.imp (e _ _) (e _ _),b⟩
 | fld f=>obtain⟨a,C,dx,gs,h1,h2,b⟩:=h;exact⟨a,C,dx,gs,h1,e _ _ h2,b⟩
 | key k=>obtain⟨a,gs,h1,h2,b⟩:=h;exact⟨a,gs,h1,e _ _ h2,b⟩
theorem xi.inj{w i:V}(h:xi H v s w)(q:xi H v s i):w=i:=by
 cases s with
 | ix j=>
  obtain⟨a,us,h1,h2,m⟩:=h;obtain⟨n,c,d,b,l⟩:=q;subst h1;cases d;have e:us=c:=by
   obtain h2|h2:=h2<;>obtain b|b:=b<;>rw[h2]at b<;>cases b<;>rfl
  simp_all
 | fld f=>
  obtain⟨a,C,dx,gs,h1,h2,m⟩:=h;obtain⟨n,p,o,g,d,b,l⟩:=q;grind
 | key k=>
  obtain⟨a,gs,h1,h2,m⟩:=h;obtain⟨n,g,d,b,l⟩:=q;simp_all
theorem EW.mono{H H':Hp}(e:QbW):∀{p:QcK} {v w:V},EW H v p w->EW H' v p w
 | [],_,_,h=>h
 | _::_,_,_,⟨u,h,q⟩=>⟨u,h.mono e,EW.mono e q⟩
theorem EW.inj{H:Hp}:∀{p:QcK} {v w a:V},EW H v p w->EW H v p a->w=a
 | [],_,_,_,h,q=>h.symm.trans q
 | _::_,_,_,_,⟨_,h1,h2⟩,⟨_,c,b⟩=>by
  have:=h1.inj c;subst this;exact EW.inj h2 b
theorem EW.snoc{H:Hp}{s:G4}:∀{p:QcK} {v w z:V},EW H v p w->xi H w s z->EW H v (p++[s]) z
 | [],_,_,z,h,q=>by
  have h':=h;subst h';exact⟨z,q,rfl⟩
 | _::_,_,_,_,⟨u,h1,h2⟩,q=>⟨u,h1,EW.snoc h2 q⟩
variable{K:Frag}{CL:BC}{b:Bx}{Z Z':Hp}{δ:BA}{σ:L2.St}{ts tl:Bi}{vs us:BY}{t u t0:T}{v0 w:V}{fp:BN}{i:Nat}{p:QcK}
theorem bU.U3(h:QfG):bU K CL H Z t.core v fp/\∀{H' Z':Hp} {u:T} {g:BN},bU K CL H' Z' u v g->bU K CL H' Z' (t.Np u) v g:=by
 cases h with
 | pin r=>exact⟨r,.pin⟩
 | sh r=>exact⟨.sh r,λq=>q⟩
 | tup r q=>exact⟨.tup r q,λq=>q⟩
 | lst r q=>exact⟨.lst r q,λq=>q⟩
 | ins r q=>exact⟨.ins r q,λq=>q⟩
 | tE r q=>exact⟨.tE r q,λq=>q⟩
 | dct r q=>exact⟨.dct r q,λq=>q⟩
 | Ei r q p=>exact⟨.Ei r q p,λq=>q⟩
theorem dO.at{f:Str}:∀(fs:B1) {gs:CA} {fp:BN},dO K CL H Z fs gs fp->fs.lookup f=some t->∃w f1 f2 c,gs.lookup f=some w/\fp=f1++(f2++c)/\bU K CL H Z t w f2 ∧
  ∀{H':Hp} {t':T} {g:BN},(∀a∈f1++c,H' a=H a)->bU K CL H' Z t' w g->dO K CL H' Z (zS f t' fs) gs (f1++(g++c)):=by
 intro fs
 induction fs with
 | nil=>intro gs fp h e;cases e
 | cons p fs k=>
  obtain⟨x,t0⟩:=p;intro gs fp h e;cases h with
  | @cons _ _ v _ vs f0 g0 r rs=>
   rw[pf]at e;cases b:f==x with
   | true=>
    rw[b]at e;cases e;have i:=(wx.1 b).symm;refine⟨v,[],f0,g0,by rw[pf,b],rfl,r,λ{H' t' g} kk d=>?_⟩;rw[zS,cq i];exact dO.cons (fp:=g) d (rs.mono Qy λa j=>kk a (‹_›))
   | false=>
    rw[b]at e;obtain⟨w,f1,f2,c,h1,h2,m,l⟩:=k rs e;subst h2;refine⟨w,f0++f1,f2,c,by rw[pf,b];exact h1,WA,m,λ{H' t' g} kk d=>?_⟩;rw[zS,bF (λz=>by grind),nr];exact .cons (r.mono Qy λa j=>kk a WE) (l (λa j=>kk a (by rw[nr];exact j9 _ j)) d)
theorem fW.r0{k:EO}{kvs:Cf}{gs:Bz}(h:QjV)(c:ER kvs k=some t) :
  ∃v f1 f2 b,vW gs k=some v/\fp=f1++(f2++b)/\bU K CL H Z t v f2 ∧
   ∀{H':Hp} {t':T} {g:BN},(∀a∈f1++b,H' a=H a)->bU K CL H' Z t' v g->fW K CL H' Z (HI k t' kvs) gs (f1++(g++b)):=by
 refine fW.ind (P:=λkvs gs fp=>ER kvs k=some t->∃v f1 f2 b,vW gs k=some v/\fp=f1++(f2++b)/\bU K CL H Z t v f2 ∧
   ∀{H':Hp} {t':T} {g:BN},(∀a∈f1++b,H' a=H a)->bU K CL H' Z t' v g->fW K CL H' Z (HI k t' kvs) gs (f1++(g++b))) (λe=>by cases e) (λ{x t0 v0 ts vs fp gp} r f i c=>?_) h c
 by_cases e:x=k
 .rw[Rz e]at c;cases c;refine⟨v0,[],fp,gp,tD e,rfl,r,λ{H' t' g} d q=>?_⟩;rw[HI,cq e];exact(show fW K CL H' Z _ _ (g++gp) from .cons q (f.mono Qy d))
 .rw[RA e]at c;obtain⟨v,f1,f2,b,h1,h2,m,l⟩:=i c;refine⟨v,_,f2,b,by rw[qu e];exact h1,by rw[h2,nr],m,λ{H' t' g} d q=>?_⟩;rw[HI,bF e,nr];exact .cons (r.mono Qy λa j=>d a WE) (l (λa j=>d a (by rw[nr];grind)) q)
theorem bU.r0{k:T}(zh:aM Z H)(h:QfG)(i:t.r0 s=some k):∃w f1 f2 d,xi H v s w/\fp=f1++(f2++d)/\bU K CL H Z k w f2 ∧
  ∀{H':Hp} {n:T} {g:BN},(∀c∈f1++d,H' c=H c)->bU K CL H' Z n w g->bU K CL H' Z (t.U1 s n) v (f1++(g++d)):=by
 cases s with
 | ix j=>
  cases h with
  | @lst a us ts g b rs=>
   obtain⟨w,f1,f2,d,h1,h2,m,l⟩:=rs.at i;subst h2;refine⟨w,a::f1,f2,d,⟨a,us,rfl,.inl b,h1⟩,rfl,m,λ{H' n g} kk e=>?_⟩;have q:=l Qjm e;rw[iC h1]at q;exact .lst ((kk a eU).trans b) q
  | @tup a us ts g b rs=>
   obtain⟨w,f1,f2,d,h1,h2,m,l⟩:=rs.at i;subst h2;refine⟨w,f1,f2,d,⟨a,us,rfl,.inr (zh _ _ b),h1⟩,rfl,m,λ{H' n g} kk e=>?_⟩;have q:=l kk e;rw[iC h1]at q;exact .tup b q
  | _=>cases i
 | fld f=>
  cases h with
  | @ins a dx c gs fs g b rs=>
   obtain⟨w,f1,f2,d,h1,h2,m,l⟩:=dO.at fs rs i;subst h2;refine⟨w,a::f1,f2,d,⟨a,_,dx,gs,rfl,b,h1⟩,rfl,m,λ{H' n g} kk e=>?_⟩;exact .ins ((kk a eU).trans b) (l Qjm e)
  | _=>cases i
 | key x=>
  cases h with
  | @dct a gs kvs g b rs=>
   obtain⟨w,f1,f2,d,h1,h2,m,l⟩:=rs.r0 i;subst h2;refine⟨w,a::f1,f2,d,⟨a,gs,rfl,b,h1⟩,rfl,m,λ{H' n g} kk e=>?_⟩;exact .dct ((kk a eU).trans b) (l Qjm e)
  | _=>cases i
theorem bU.focus(zh:aM Z H):∀(p:QcK) {t u:T} {v:V} {fp:BN},bU K CL H Z t v fp->T.oN p t=some u->∃w f1 f2 a,EW H v p w/\fp=f1++(f2++a)/\bU K CL H Z u w f2 ∧
  ∀{H':Hp} {b:T} {g:BN},(∀c∈f1++a,H' c=H c)->bU K CL H' Z b w g->bU K CL H' Z (T.wu p b t) v (f1++(g++a))
 | [],t,u,v,fp,h,e=>by
  obtain⟨h1,h2⟩:=h.U3;cases e;exact⟨v,[],fp,[],rfl,WA,h1,λ{H' b g} _ r=>by rw[n2];exact h2 r⟩
 | s::p,t,u,v,fp,h,e=>by
  obtain⟨h1,h2⟩:=h.U3;rw[T.oN]at e;cases d:t.core.r0 s with
  | none=>rw[d]at e;cases e
  | some k=>
   rw[d]at e;obtain⟨f,a1,a2,a3,z,y,x,o⟩:=h1.r0 zh d;obtain⟨w,f1,f2,a,m,l,j,i⟩:=bU.focus zh p x e;subst y l;refine⟨w,a1++f1,f2,a++a3,⟨f,z,m⟩,WA,j,λ{H' b g} kk n=>?_⟩;rw[T.wu,d];have q:=h2 (o (λc A=>kk c WE) (i (λc A=>kk c WE) n));simpa [List.append_assoc] using q
theorem bH.CQ(S:Qag)(ev:σ[i]? = some Qb9)(hi:δ[i]? = some Qa5)(O:T.oN p t0=some u)(G:Qdn):∃f2 gp,bU K CL H Z u w f2/\bA K CL H Z ts vs gp/\(f2++gp).Nodup ∧
  ∀{a:Addr} {o:HO} {A:T} {l:Bi} {j:BY} {g m:BN},w=.ref a->a∈f2->kM o=false->bU K CL Qbs Z A w g->bA K CL Qbs Z l j m->(g++m).Nodup->(∀c∈g++m,c∈f2++gp) →
   bH K CL b Qbs Z (δ.set i (some (T.wu p A t0))) σ l j:=by
 obtain⟨fp,gp,e,r,nd,k⟩:=S.rep;obtain⟨v1,e1,e2,t,hv,F,rt,put,_⟩:=e.get hi;rw[ev]at hv;cases hv;obtain⟨P,f1,f2,s,at',hf,I,put2⟩:=rt.focus S.zh p O;have hw:=at'.inj G;subst hw;subst hf;subst F;have q:((e1++((f1++(f2++s))++t))++gp).Perm ((e1++(f1++(s++t)))++(f2++gp)):=x5.2 λc=>by
  simp only[Mn];lia
 have B:=q.nodup_iff.1 nd;have y:=oT.1 B;refine⟨f2,gp,I,r,y.2.1,λ{a o A l j g m} L E hm M N C x=>?_⟩;have n:∀c∈e1++(f1++(s++t)),upd H a o c=H c:=λc f=>az λz=>y.2.2 c f a (nv _ E) z;have J:=put2 (H':=upd H a o) (λc f=>n c (by
  obtain h|h:=f9.1 f
  .simp[h]
  .simp[h])) M
 have D:=put (H':=upd H a o) Qy (λc f=>n c (by
  obtain h|h:=f9.1 f
  .simp[h]
  .simp[h])) J
 rw[iC ev]at D;have v:((e1++((f1++(g++s))++t))++m).Perm ((e1++(f1++(s++t)))++(g++m)):=x5.2 λc=>by
  simp only[Mn];lia
 refine S.Uz hm k (by simp[E]) D N (v.nodup_iff.2 (oT.2 ⟨y.1,C,λc f d hd=>y.2.2 c f d (x d hd)⟩)) λc f=>?_;refine q.mem_iff.2 ?_;obtain h|h:=f9.1 (v.mem_iff.1 f)
 .exact nv _ h
 .exact j9 _ (x c h)
theorem bH.LO(S:Qag)(ev:σ[i]? = some Qb9)(hi:δ[i]? = some Qa5)(d:T.oN p t0=some u):∃w f2,EW H v0 p w/\bU K CL H Z u w f2:=by
 obtain⟨fp,gp,e,r,nd,k⟩:=S.rep;obtain⟨v1,e1,e2,h,hv,f,rt,put,_⟩:=e.get hi;rw[ev]at hv;cases hv;obtain⟨a,f1,f2,g,at',hf,c,put2⟩:=rt.focus S.zh p d;exact⟨a,f2,at',c⟩
theorem bH.ai3(S:Qck)(ev:σ[i]? = some Qb9)(hi:δ[i]? = some Qa5)(n:T.oN p t0=some Qc7)(h:Qdn) :
  ∃a us,w=.ref a/\H a=some Qb7/\us.length=tl.length/\bH K CL b (upd H a (.lst (us++[v]))) Z (δ.set i (some (T.wu p QdN t0))) σ ts vs:=by
 obtain⟨f2,gp,j,k,nd,go⟩:=S.CQ ev hi n h;obtain⟨a,us,g,rfl,rfl,o,rs⟩:=j.g6;cases k with
 | @cons _ _ _ _ f e m l=>
  have ne:∀c∈g++(f++e),c≠a:=λc d z=>by subst z;simp_all
  have pm:((a::(g++(f++[])))++e).Perm ((a::g)++(f++e)):=x5.2 λc=>by simp
  exact⟨a,us,rfl,o,rs.length.symm,go rfl eU rfl (.lst bD (bA.app (rs.mono Qy λc d=>az (ne c (by simp[d]))) (.cons (m.mono Qy λc d=>az (ne c (by simp[d]))) .nil)))
   (l.mono Qy λc d=>az (ne c (by simp[d]))) QjE λc d=>pm.mem_iff.1 d⟩
theorem bH.aeE{ds:BB}(S:Qag)(j:QfU)(ev:σ[i]? = some Qb9)(hi:δ[i]? = some Qa5)(k:T.oN p t0=some Qc7)(e:Qdn) :
  ∃a ws,w=.ref a/\H a=some (.lst ws)/\ws.length=tl.length/\bH K CL b (upd H a (.lst (ws++us))) Z (δ.set i (some (T.wu p (.lst (tl++ds.map T.sh)) t0))) σ ts vs:=by
 obtain⟨f2,gp,f,h,nd,go⟩:=S.CQ ev hi k e;obtain⟨a,ws,g,rfl,rfl,l,rs⟩:=f.g6;have ne:∀c∈g++gp,c≠a:=λc d z=>by subst z;simp_all
 exact⟨a,ws,rfl,l,rs.length.symm,go rfl eU rfl (.lst bD (bA.app (rs.mono Qy λc d=>az (ne c (by simp[d]))) (bA.X0 j)))
  (h.mono Qy λc d=>az (ne c (by simp[d]))) (by rw[n2];exact nd) λc d=>by rw[n2]at d;exact d⟩
variable{j:Nat}
theorem bH.aov(S:Qck)(ev:σ[i]? = some Qb9)(hi:δ[i]? = some Qa5)(r:T.oN p t0=some Qc7)(l:Qdn)(s:j<tl.length) :
  ∃a us,w=.ref a/\H a=some Qb7/\us.length=tl.length/\bH K CL b (upd H a (.lst (us.set j v))) Z (δ.set i (some (T.wu p (.lst (tl.set j t)) t0))) σ ts vs:=by
 obtain⟨f2,gp,m,n,nd,go⟩:=S.CQ ev hi r l;obtain⟨a,us,g,rfl,rfl,u,rs⟩:=m.g6;cases n with
 | @cons _ _ _ _ f e q o=>
  obtain⟨w0,g1,g2,g3,h1,h2,y,x⟩:=rs.at (pv s);subst h2;have ne:∀c∈(g1++(g2++g3))++(f++e),c≠a:=λc d z=>by subst z;simp_all
  have k:((a::(g1++g3))++(f++e)).Sublist ((a::(g1++(g2++g3)))++(f++e)):=by simp
  have pm:((a::(g1++(f++g3)))++e).Perm ((a::(g1++g3))++(f++e)):=x5.2 λc=>by simp[Mn,List.count_cons];lia
  exact⟨a,us,rfl,u,rs.length.symm,go rfl eU rfl (.lst bD (x (λc d=>az (ne c (by
    obtain h|h:=f9.1 d
    .simp[h]
    .simp[h]))) (q.mono Qy λc d=>az (ne c (by simp[d])))))
   (o.mono Qy λc d=>az (ne c (by simp[d]))) (pm.nodup_iff.2 (nd.sublist k)) λc d=>k.subset (pm.mem_iff.1 d)⟩
theorem bH.axv(S:Qag)(ev:σ[i]? = some Qb9)(hi:δ[i]? = some Qa5)(m:T.oN p t0=some QdN)(f:Qdn) :
  ∃a us x,w=.ref a/\H a=some (.lst (us++[x]))/\bH K CL b (upd H a Qb7) Z (δ.set i Qh4) σ (t::ts) (x::vs):=by
 obtain⟨f2,gp,h,j,nd,go⟩:=S.CQ ev hi m f;obtain⟨a,us,g,rfl,rfl,n,rs⟩:=h.g6;obtain⟨e,x,g1,g2,e1,e2,l,k⟩:=UY rs;subst e1;subst e2;have ne:∀c∈(g1++g2)++gp,c≠a:=λc d z=>by subst z;simp_all
 have pm:((a::g1)++(g2++gp)).Perm ((a::(g1++g2))++gp):=x5.2 λc=>by simp
 exact⟨a,e,x,rfl,n,go rfl eU rfl (.lst bD (l.mono Qy λc d=>az (ne c (by simp[d]))))
  (.cons (k.mono Qy λc d=>az (ne c (by simp[d]))) (j.mono Qy λc d=>az (ne c (by simp[d])))) QjE λc d=>pm.mem_iff.1 d⟩
theorem bH.as5(S:Qag)(ev:σ[i]? = some Qb9)(hi:δ[i]? = some Qa5)(l:T.oN p t0=some (.lst (t::tl)))(e:Qdn) :
  ∃a us x,w=.ref a/\H a=some (.lst (x::us))/\bH K CL b (upd H a Qb7) Z (δ.set i Qh4) σ (t::ts) (x::vs):=by
 obtain⟨f2,gp,f,h,nd,go⟩:=S.CQ ev hi l e;obtain⟨a,us,g,rfl,rfl,m,rs⟩:=f.g6;cases rs with
 | @cons _ x _ us g2 g1 j k=>
  have ne:∀c∈(g2++g1)++gp,c≠a:=λc d z=>by subst z;simp_all
  have pm:((a::g1)++(g2++gp)).Perm ((a::(g2++g1))++gp):=x5.2 λc=>by simp[List.count_cons];lia
  exact⟨a,us,x,rfl,m,go rfl eU rfl (.lst bD (k.mono Qy λc d=>az (ne c (by simp[d]))))
   (.cons (j.mono Qy λc d=>az (ne c (by simp[d]))) (h.mono Qy λc d=>az (ne c (by simp[d])))) QjE λc d=>pm.mem_iff.1 d⟩
variable{c:Str}
theorem bH.aaq{f:Str}{fs:B1}(S:Qck)(ev:σ[i]? = some Qb9)(hi:δ[i]? = some Qa5)(r:T.oN p t0=some Qa4)(l:Qdn) :
  ∃a dx gs,w=.ref a/\H a=some QeD/\gs.length=fs.length/\bH K CL b (upd H a Qi7) Z (δ.set i (some (T.wu p (.ins c (zS f t fs)) t0))) σ ts vs:=by
 obtain⟨f2,gp,m,n,nd,go⟩:=S.CQ ev hi r l;obtain⟨a,dx,gs,g,rfl,rfl,s,rs⟩:=m.Gw;cases n with
 | @cons _ _ _ _ h e q o=>
  have ne:∀c∈g++(h++e),c≠a:=λc d z=>by subst z;exact(si.1 nd).1 d
  obtain⟨g',k,h1,h2,u⟩:=dO.put (f:=f) (q.mono (H':=upd H a Qi7) Qy λc d=>az (ne c (by simp[d]))) (rs.mono (H':=upd H a Qi7) Qy λc d=>az (ne c (by simp[d])));have j:((a::k)++(h++e)).Sublist ((a::g)++(h++e)):=vu (List.Sublist.cons₂ _ h2) (tj _);have pm:((a::g')++e).Perm ((a::k)++(h++e)):=((u.cons a).append_right e).trans (x5.2 λc=>by simp only[Mn,List.count_cons];lia);exact⟨a,dx,gs,rfl,s,rs.length.symm,go rfl eU rfl (.ins bD h1) (o.mono Qy λc d=>az (ne c (by simp[d]))) (pm.nodup_iff.2 (nd.sublist j)) λc d=>j.subset (pm.mem_iff.1 d)⟩
theorem bH.as6(S:Qag)(ev:σ[i]? = some Qb9)(hi:δ[i]? = some Qa5)(l:T.oN p t0=some u)(h:Qdn):bH K CL b H Z (δ.set i (some (T.wu p (.sh .any) t0))) σ (u::ts) (w::vs):=by
 obtain⟨fp,gp,e,r,nd,k⟩:=S.rep;obtain⟨v1,e1,e2,f,hv,g,rt,put,_⟩:=e.get hi;rw[ev]at hv;cases hv;obtain⟨n,f1,f2,d,at',hf,j,put2⟩:=rt.focus S.zh p l;have hw:=at'.inj h;subst hw;subst hf;subst g;have a:=put Qy Qc9 (put2 Qc9 (.sh (.any _)));rw[iC ev]at a;have pm:((e1++((f1++([]++d))++f))++(f2++gp)).Perm ((e1++(QeX++f))++gp):=x5.2 λc=>by simp[Mn,List.count_nil];lia
 exact⟨⟨_,_,a,.cons j r,pm.nodup_iff.2 nd,λc m=>k c (pm.mem_iff.1 m)⟩,S.bh,S.zz,S.zh,S.new,S.tp,S.tab⟩
section
variable{δ1:BA}{e e0 e2:Expr}{t1:T}{tl0:Bi}{d:L3.D}{D:gi}{pos pa pb ps:Pos}{x f:Str}{fU:CS}{fs:B1}
def so(X:Cx)(CL:BC)(b:Bx)(e:Expr)(δ:BA)(i:Nat)(p:QcK):Prop:=
 ∀(H Z:Hp) (σ:L2.St) (ts:Bi) (vs:BY) (Q:VK),bH X.K CL b H Z δ σ ts vs->(∀v0 v H' Z',aM Z Z'->aM H H'->bH X.K CL b H' Z' δ σ ts vs->σ[i]? = some Qb9->EW H' v0 p v->Q v H')->zP X e σ H Q
def cD(n:QaI)(h:δ[i]? = some Qar):so X CL b Qan δ i []:=λH Z σ ts vs Q S k=>by
 obtain⟨v,hv,_⟩:=S.look h;exact cK QdF ⟨v,hv,k v v H Z Qy Qy S hv rfl⟩
def Nq(q:Qdf)(n:Qh8)(h:QfI)(hi:δ[i]? = some Qar)(o:T.oN p t=some Qa4)(m:fs.lookup f=some u)(x:AS X e f:=by rfl) :
  so X CL b QfB δ i (p++[.fld f]):=λH Z σ ts vs Q S k=>
 cK (Uh dN x) (h H Z σ ts vs _ S λv0 v H' Z' z s l ev d=>by
  obtain⟨w,f2,at',r⟩:=l.LO ev hi o;have:=at'.inj d;subst this;obtain⟨a,dx,gs,g,rfl,rfl,j,rs⟩:=r.Gw;obtain⟨w,_,_,_,hw,_,_,_⟩:=dO.at fs rs m;exact⟨a,CL c,dx,gs,w,rfl,j,q,n,hw,k v0 w H' Z' z s l ev (d.snoc ⟨a,_,dx,gs,rfl,j,hw⟩)⟩)
def aeF{z:Int}(h:QfI)(hi:δ[i]? = some Qar)(u:T.oN p t=some Qc7)(h2:dU X CL b e2 δ (.int z) δ)(c:My tl.length z=some j)(q:rD e2:=by exactλ_ _=>rfl) :
  so X CL b (.Subscript e e2 pos) δ i (p++[.ix j]):=λH Z σ ts vs Q S k=>
 cK (Gu Fw dN dN q) (h H Z σ ts vs _ S λv0 v H' Z' m s1 x ev n=>h2 H' Z' σ ts vs _ x λv2 H2 Z2 l s2 f o=>by
  have at2:=n.mono s2;obtain⟨w,f2,at',r⟩:=f.LO ev hi u;have:=at'.inj at2;subst this;obtain⟨a,us,g,rfl,rfl,d,rs⟩:=r.g6;have s:=(AO c).2.1;obtain⟨w,_,_,_,hw,_,_,_⟩:=rs.at (pv s);refine⟨a,us,z,w,rfl,o.sc rfl,oG.of d,?_,k v0 w H2 Z2 (m.trans l) Qic f ev (at2.snoc ⟨a,us,rfl,.inl d,hw⟩)⟩;unfold za;rw[← rs.length,c];exact hw)
def jV{z:Int}(h:QfI)(hi:δ[i]? = some Qar)(s:T.oN p t=some (.tup tl))(h2:dU X CL b e2 δ (.int z) δ)(d:My tl.length z=some j)(o:rD e2:=by exactλ_ _=>rfl) :
  so X CL b (.Subscript e e2 pos) δ i (p++[.ix j]):=λH Z σ ts vs Q S k=>
 cK (Gu Ul dN dN o) (h H Z σ ts vs _ S λv0 v H' Z' l s1 u ev m=>h2 H' Z' σ ts vs _ u λv2 H2 Z2 g s2 c n=>by
  have at2:=m.mono s2;obtain⟨w,f2,at',r⟩:=c.LO ev hi s;have:=at'.inj at2;subst this;obtain⟨a,us,rfl,f,rs⟩:=r.Q0;have q:=(AO d).2.1;obtain⟨w,_,_,_,hw,_,_,_⟩:=rs.at (pv q);refine⟨a,us,z,w,rfl,n.sc rfl,AG.of (c.zh _ _ f),?_,k v0 w H2 Z2 (l.trans g) Qic c ev (at2.snoc ⟨a,us,rfl,.inr (c.zh _ _ f),hw⟩)⟩;unfold za;rw[← rs.length,d];exact hw)
def ym(h:QfI)(hi:δ[i]? = some Qar)(f:T.oN p t=some Qey):cY X CL b e δ (.sh d) δ:=λH Z σ ts vs Q S k=>
 h H Z σ ts vs _ S λv0 v H' Z' z s a ev c=>by
  obtain⟨w,f2,at',r⟩:=a.LO ev hi f;have:=at'.inj c;subst this;replace r:=r.MB;obtain⟨rfl,r⟩:=r;exact k _ H' Z' z s (a.push r)
noncomputable def jt(h:QfI)(hi:δ[i]? = some Qar)(c:T.oN p t=some u):cY X CL b e δ u (δ.set i (some (T.wu p (.sh .any) t))):=λH Z σ ts vs Q S k=>
 h H Z σ ts vs _ S λv0 v H' Z' z s d ev a=>k v H' Z' z s (d.as6 ev hi c a)
def aow(x:so X CL b e0 δ i p)(h0:δ[i]? = some Qa5)(f:T.oN p t0=some (.lst tl0))(h:QaG)(h1:δ1[i]? = some (some t1))(d:T.oN p t1=some Qc7)(u:tl.length<=1000000)(k:dW X CL b fU (δ1.set i (some (T.wu p QdN t1))) D)
  (q:attributeBase e0 "append" X.env (eval e0 X.env)=eval e0 X.env:=by rfl)
  (m:AB X pb e:=by rfl)
  (c:Qfr:=by rfl) (hs:Qad:=by exact bC rfl) (F:swapsWith Qk2 none pos.line X.env=pure false:=by rfl) :
  dW X CL b (.Expr Qk2 pos::fU) δ D:=cH λH Z σ ts vs E S M=>
 rV (x8 (Le JI UP T2 yc dN Qay q m c hs rfl) F) (x H Z σ ts vs _ S λv0 v C z o s0 l ev j=>by
  obtain⟨w,f2,at',r⟩:=l.LO ev h0 f;have:=at'.inj j;subst this;refine⟨?_,h C z σ ts vs _ l λv2 H1 Z1 n k1 B=>?_⟩
  .obtain⟨_,_,_,rfl,rfl,g,_⟩:=r.g6;exact .inl ⟨rfl,_,oG.of g⟩
  .obtain⟨a,us,y,g,s,A⟩:=B.ai3 ev h1 d (j.mono k1);exact⟨a,us,v2,y,rfl,g,by rw[s];exact vT u Wp,M.nx _ σ _ Z1 (o.trans n) A k⟩)
def CT{z:Int}(h:QaG)(u:so X CL b e0 δ1 i p)(h2:dU X CL b e2 δ1 (.int z) δ1)(h1:δ1[i]? = some (some t1))(c:T.oN p t1=some Qc7)(g:My tl.length z=some j)(kk:dW X CL b fU (δ1.set i (some (T.wu p (.lst (tl.set j t)) t1))) D)
  (s:∀v,assign (.Subscript e0 e2 ps) X.env v=(do
   let I ← holding [v] (eval e0 X.env)
   let U ← holding [v,I] (eval e2 X.env)
   standAt ps
   holding [v,I,U] (setItem I U v)
   release [v,I,U] []):=by intro _;rfl)
  (hs:swapsWithSole [.Subscript e0 e2 ps] e pos.line X.env=pure false:=by rfl) (hw:swappedStores [.Subscript e0 e2 ps] e X.env=pure none:=by rfl) (d:(assignEach [.Subscript e0 e2 ps] X.env).map (·.2)=[assign (.Subscript e0 e2 ps) X.env]:=by rfl) :
  dW X CL b (.Assign [.Subscript e0 e2 ps] e pos::fU) δ D:=by
 refine cH λH Z σ ts vs E S M=>rV (am4 dN (am3 dN dN set_list s) hs hw d) (h H Z σ ts vs _ S λv H1 Z1 m k1 C=>?_);have r:=(AO g).2.1;refine u H1 Z1 σ _ _ _ C λv0 w H2 Z2 l k2 B ev n=>h2 H2 Z2 σ _ _ _ B λv2 F Z3 k k3 A o=>?_;obtain⟨a,us,x,f,q,y⟩:=A.aov ev h1 c (n.mono k3) r;exact⟨a,us,z,j,x,o.sc rfl,f,q▸g,M.nx _ σ _ Z3 (m.trans (l.trans k)) y kk⟩
def Bb(l:so X CL b e0 δ i p)(h:δ[i]? = some Qa5)(j:T.oN p t0=some QdN)(g:QkJ:=by rfl)(c:(pa.endLine==pos.line)=true:=by rfl) :
  kQ X CL b (.Call (.Attribute e0 "pop" pa) [] [] pos) δ t (δ.set i Qh4):=λH Z σ ts vs Q S k=>
 cK (ant JI PySem.F.slot_list_pop PySem.F.type_list_pop anu dN g c) (l H Z σ ts vs _ S λv0 w r n e s0 q ev f=>by
  obtain⟨a,us,x,m,d,o⟩:=q.axv ev h j f;subst m;refine⟨.inl ⟨rfl,_,.inl (.inl d)⟩,a,_,x,rfl,rfl,d,WA,?_⟩;rw[List.dropLast_concat];exact k x _ n e o)
def aeG{kj:Nat}{pc:Pos}(m:so X CL b e0 δ i p)(h:δ[i]? = some Qa5)(l:T.oN p t0=some (.lst (t::tl)))(j:QkJ:=by rfl)
  (e:((backTo pos (starEach [.Constant Qec kj pc] X.env)).all QfZ&&(backToKw pos Qff).all QfA&&decide ([Expr.Constant Qec kj pc].length+([]:ES).length+Qfi<30))=true:=by rfl)
  (c:(pa.endLine==pos.line)=true:=by rfl) (hs:starEach [.Constant Qec kj pc] X.env=(false,eval (.Constant Qec kj pc) X.env)::starEach [] X.env:=by exact bC rfl) :
  kQ X CL b (.Call (.Attribute e0 "pop" pa) [.Constant Qec kj pc] [] pos) δ t (δ.set i Qh4):=λH Z σ ts vs Q S k=>
 cK (Le JI PySem.F.slot_list_pop PySem.F.type_list_pop adt dN (bZ acV dS hs) j e c hs rfl) (m H Z σ ts vs _ S λv0 w s o f s0 r ev g=>by
  obtain⟨a,us,x,n,d,q⟩:=r.as5 ev h l g;subst n;refine⟨.inl ⟨rfl,_,.inl (.inl d)⟩,a,_,0,0,x,rfl,rfl,d,Wp,Wp,?_,rfl,?_⟩
  .unfold seqIndex?;simp
  .exact k x _ o f q)
end
theorem dO.none{m:Str}:∀{fs:B1} {gs:CA} {fp:BN},dO K CL H Z fs gs fp->fs.lookup m=none->gs.lookup m=none:=by
 intro fs
 induction fs with
 | nil=>intro gs fp r _;cases r;rfl
 | cons p fs a=>
  intro gs fp r h;cases r with
  | cons q r=>
   rw[pf]at h ⊢;split at h
   .cases h
   .exact a r h
section
variable{δ1:BA}{e o:Expr}{es:Cc}{pos pp apos:Pos}{x m:Str}{is:CU}{fx:BN->Prop}{al:BN->Bi}{y:Addr}{fs:B1}{A:Type}{k n:Nat}{f:Addr}{fd:Qax}{ps:At}{arg:Qam}{Pre:QP}{res:Q4}{out:Qam}
abbrev XK0:XK:=λ_ _ _=>True
theorem CV{H1 Z1:Hp}{al:Bi}{ys:BN}{ns:Bi}{Q:VK}{E:XK}(a:A)(j:arg a=al)(h:QbI)(x:Pre a)(e:res a=t)(f:vH QcJ ys ns)(G:Rc σ is ys)(F:∀i∈is,i<δ1.length)(y:us.length=al.length)
  (l:bH X.K CL b H1 Z1 δ1 σ (al.reverse++ts) QdL) (kk:∀v H' Z',aM Z1 Z'->bH X.K CL b H' Z' (UR δ1 is ns) σ (t::ts) QaP->Q v H'):sx X.K CL n arg Pre res out us H1 Q E:=by
 obtain⟨g,r,nd,k⟩:=l.cut WE;obtain⟨g',m,pm⟩:=r.rev;have C:zV H1 g=zV H1 g':=funext λc=>by
  by_cases d:c∈g
  .rw[uy d,uy (pm.mem_iff.2 d)]
  .rw[lD d,lD (λz=>d (pm.mem_iff.1 z))]
 rw[C]at k;rw[← j]at m;refine⟨Z1,a,g',k.zh,l.tp,m,pm.nodup_iff.2 nd,h,x,l.Ur,λv H' W' fp B ww u nw tp rt D own=>?_⟩;cases rt with
 | @cons _ _ _ _ f1 f2 w o=>
  have p:(f2++(f1++[])).Perm (f1++f2):=by rw[n2];exact ro
  have s:=k.Ts B ww u nw tp (bA.app o (.cons w .nil)) (p.nodup_iff.2 D) λc d=>own c (p.mem_iff.1 d);rw[nr,nr]at s;have q:=s.YU o.length G f F;rw[e]at q;exact kk v H' W' ww q
inductive Recv(δ:BA)(i:Nat)(c:Str)(fs:B1):Qe4->Prop where
 | own:δ[i]? = some (some Qa4)->Recv δ i c fs (λ_=>True)
 | pin {y:Addr}:δ[i]? = some (some (.pin y Qa4))->Recv δ i c fs (λz=>z=y)
theorem bH.recv{g:Qe4}(S:Qg3)(h:QfP):∃y dx gs,g y/\σ[i]? = some (some QdA)/\H y=some QeD/\(∀m,fs.lookup m=none->gs.lookup m=none)/\bH X.K CL b H Z (δ.set i none) σ (.pin y Qa4::ts) (.ref y::vs):=by
 cases h with
 | own h=>
  obtain⟨v,e,k⟩:=S.move h;obtain⟨y,rfl,f⟩:=k.aof rfl;obtain⟨fp,gp,_,r,_,_⟩:=f.rep;cases r with
  | cons r _=>
   replace r:=r.Uo;obtain⟨a,r⟩:=r;cases a;obtain⟨_,_,_,_,a,d,j,rs⟩:=r.Gw;cases a;cases d;exact⟨y,_,_,trivial,e,j,λm hm=>rs.none hm,f⟩
 | @pin y h=>
  obtain⟨v,e,f⟩:=S.move h;obtain⟨fp,gp,_,r,_,_⟩:=f.rep;cases r with
  | cons r _=>
   replace r:=r.Uo;obtain⟨rfl,r⟩:=r;obtain⟨_,_,_,_,a,d,j,rs⟩:=r.Gw;cases a;cases d;exact⟨y,_,_,rfl,e,j,λm hm=>rs.none hm,f⟩
theorem aeH{pl:QbH}{g:Qe4}(a:Addr->BN->A)(ns:Bi)(L:Qdf)(hm:QhJ)(F:Qii)(s:Qbv)(B:Qcq)
  (nm:QaI) (hi:QfP) (hf:Qc6) (h:uk X CL b Qab (δ.set i none) is fx al δ1)
  (C:∀y ys,g y->ys.length=is.length->fx ys->arg (a y ys)=.pin y Qa4::al ys/\(arg (a y ys)).length=n/\Pre (a y ys)/\res (a y ys)=t/\vH (out (a y ys)) (y::ys) ns) (O:∀j∈i::is,j<δ1.length)
  (he:Qaf:=by exact bC rfl) (hpl:Qas:=by rfl)
  (r:eval Qej X.env=(do
   let I ← eval QaE X.env
   standAt apos.atName
   let (f,first) ← holding [I] Qcp
   callWith pos f first (backTo pos QcU) QaX):=by rfl) :
  kQ X CL b Qej δ t (UR δ1 (i::is) ns):=λH Z σ ts vs Q S kk=>by
 obtain⟨y,dx,gs,q,ev,D,u,M⟩:=S.recv hi;refine cK (Xn Qi5 L hm F s B .nil vG JF he hpl r) ⟨_,ev,y,dx,gs,rfl,D,u m hf,h H Z σ _ _ _ M λys us H1 Z1 d P o l p k1 R=>?_⟩;obtain⟨h1,h2,J,G,E⟩:=C y ys q d o;refine CV (is:=i::is) _ h1 h2 J G E ⟨ev,P⟩ O (by simp[l]) ?_ λv H' Z' z N=>kk v H' Z' (p.trans z) N;simp_all
theorem aas{pl:QbH}{g:Qe4}(a:Addr->A)(d:T)(G:Qdf)(hm:QhJ)(F:Qii)(p:Qbv)(r:Qcq)
  (nm:QaI) (hi:QfP) (hf:Qc6)
  (s:∀y,g y->arg (a y)=[.pin y Qa4]/\(arg (a y)).length=n/\Pre (a y)/\res (a y)=t/\vH Qgb [y] [d]) (M:i<δ.length)
  (o:eval Qhj X.env=(do
   let I ← eval QaE X.env
   standAt apos.atName
   let (f,first) ← holding [I] Qcp
   callWith pos f first (backTo pos QcX) QaX):=by rfl) :
  kQ X CL b Qhj δ t (δ.set i (some d)):=λH Z σ ts vs Q S kk=>by
 obtain⟨y,dx,gs,l,ev,u,q,J⟩:=S.recv hi;refine cK (QO Qi5 G hm F p r .nil vG o) ⟨_,ev,y,dx,gs,rfl,u,q m hf,?_⟩;obtain⟨h1,h2,D,C,B⟩:=s y l;refine CV (E:=XK0) (is:=[i]) _ h1 h2 D C B ⟨ev,trivial⟩ (λj L=>by simp_all) rfl J λv H' Z' z h=>kk v H' Z' z ?_;have e:UR (δ.set i none) [i] [d]=δ.set i (some d):=by
  show((δ.set i none).set i _)=_;rw[List.set_set]
 rw[e]at h;exact h
structure yZ(X:Cx)(CL:BC)(c m:Str)(k n:Nat){A:Type}(arg:Qam)(Pre:QP)(res:Q4)(out:Qam):Prop where
 ex:∃f fd ps,Meth X.K (CL c) m f/\eV X.prog X.w X.K X.mg X.base mJ k f fd ps Qij/\Binds X.K fd ps []
 room:eN k X.A
 cls:jC X.K (CL c)
theorem qM{pl:QbH}{g:Qe4}{dl:BB}(a:Addr->A)(l:T)(F:yZ X CL c m k n arg Pre res out)(nm:QaI)(hi:QfP)(h:MH X CL b Qab (δ.set i none) (dl.map T.sh) δ1)(q:∀y,g y->Pre (a y))(C:∀y,g y->res (a y)=t)(B:∀y,g y->vH Qgb [y] [l])
  (hf:Qc6:=by rfl) (w:∀y,g y->arg (a y)=.pin y Qa4::dl.map T.sh:=by intros;rfl) (hlen:∀y,(arg (a y)).length=n:=by intros;rfl) (E:Qbm:=by exact k6 rfl)
  (he:Qaf:=by exact bC rfl) (hpl:Qas:=by rfl)
  (p:eval Qej X.env=(do
   let I ← eval QaE X.env
   standAt apos.atName
   let (f,first) ← holding [I] Qcp
   callWith pos f first (backTo pos QcU) QaX):=by rfl) :
  kQ X CL b Qej δ t (δ1.set i (some l)):=by
 obtain⟨⟨f,fd,ps,M,G,bd⟩,r,u⟩:=F;have h':uk X CL b _ _ [] (λ_=>True) (λ_=>dl.map T.sh) δ1:=λH Z σ ts vs Q S k=>h H Z σ ts vs Q S λus H' Z' o z s v=>k [] us H' Z' rfl trivial trivial o z s v;exact aeH (λy _=>a y) [l] u M G r bd nm hi hf h' (λy ys d o _=>by
  cases List.length_eq_zero_iff.1 o;exact⟨w y d,hlen y,q y d,C y d,B y d⟩) (λj D=>by simp_all) he hpl p
def RE{pl:QbH}{g:Qe4}(a:Addr->A)(e:T)(F:yZ X CL c m k n arg Pre res out)(nm:QaI)(hi:QfP)(j:∀y,g y->Pre (a y))(q:∀y,g y->res (a y)=t)(p:∀y,g y->vH Qgb [y] [e])
  (hf:Qc6:=by rfl) (o:∀y,g y->arg (a y)=[.pin y Qa4]:=by intros;rfl) (hlen:∀y,(arg (a y)).length=n:=by intros;rfl) (s:i<δ.length:=by exact k6 rfl)
  (h:eval Qhj X.env=(do
   let I ← eval QaE X.env
   standAt apos.atName
   let (f,first) ← holding [I] Qcp
   callWith pos f first (backTo pos QcX) QaX):=by rfl) :
  kQ X CL b Qhj δ t (δ.set i (some e)):=by
 obtain⟨⟨f,fd,ps,M,G,bd⟩,r,l⟩:=F;exact aas a e l M G r bd nm hi hf (λy d=>⟨o y d,hlen y,j y d,q y d,p y d⟩) s h
end
end L3
namespace L2
open PySem PySem.Spec PyProof.Rows
section
variable{X:Cx}{CX:xf}{k:Nat}{f C:Addr}{fd:Qax}{ps:At}{sp:Sp}{Fv:BY}{ds:B2}{E:XK}{x m:Str}{p pos apos:Pos}{e:Expr}{es:Cc}{t:TA}
structure amf(K:Frag)(C:Addr)(m:Str)(f:Addr):Prop where
 ga:specialIn K Q1 "__getattribute__" = some Qk3
 rd:readsIn K C Qh6=true
 fnd:findCls K Q1 Qh6 m=some (.val Q0)
 kp:keepIn K Q0=true
def aeI{pl:QbH}(a:amf X.K C m f)(F:QcM)(q:Qbv)(y:Q3)(b:X.mg x=some Q1)(z:Qc0)(hd:Qds)(n:Qdd)(B:Qd0)
  (g:AD x:=by decide) (l:Qaf:=by rfl) (hpl:Qas:=by rfl)
  (o:eval QkK X.env=(do
   let U ← eval (.Name x p) X.env
   standAt apos.atName
   let (f,first) ← holding [U] QhK
   callWith pos f first (backTo pos QcU) QaX):=by rfl) :
  PE X QkK (TC sp Fv E t):=by
 intro pins s σ H Q I h;refine MO (fX (Ft (v:=.ref C) y b rfl g pins s σ H (λv H1=>v=.ref C/\H1=H) I ⟨rfl,rfl⟩) λu s1 ⟨x,H1,c,i,ex,D⟩=>?_) o;subst ex;subst D;obtain rfl:u=Value.ref C:=i;refine PySem.W.method_cls c.xZ a.ga (PySem.W.cls_value c.xZ a.rd a.fnd rfl ?_);have G:=c.tok (s1.toks+1);refine Pd I.ok.mod.vi a.kp (fX (B pos pins _ σ H1 _ G h) λus s2 ⟨vs,H2,d,r,j⟩=>⟨d.xZ,?_⟩) l hpl;exact Gq F q z hd n d r j
end
end L2
namespace L3
open PySem PySem.Spec PyProof.Rows L2
section
variable{X:Cx}{CL:BC}{b:Bx}{δ δ1:BA}{e:Expr}{es:Cc}{t:T}{pos pp apos:Pos}{i:Nat}{x m:Str}{is:CU}{fx:BN->Prop}{al:BN->Bi}{y:Addr}{A:Type}{k n:Nat}{arg:Qam}{Pre:QP}{res:Q4}{out:Qam}
structure FkM(X:Cx)(CL:BC)(x m:Str)(k n:Nat){A:Type}(arg:Qam)(Pre:QP)(res:Q4)(out:Qam):Prop where
 ex:∃f fd ps,amf X.K (CL x) m f/\eV X.prog X.w X.K X.mg X.base mJ k f fd ps Qij/\X.mg x=some (.ref (CL x))/\Binds X.K fd ps []
 room:eN k X.A
theorem kM1{pl:QbH}(a:Addr->A)(o:T)(F:FkM X CL x m k n arg Pre res out)(w:Q3)(h:uk X CL b Qab δ [i] fx al δ1)(u:∀y,fx [y]->Pre (a y))(J:∀y,fx [y]->res (a y)=t)(E:∀y,fx [y]->vH Qgb [y] [o])
  (D:∀y,fx [y]->arg (a y)=al [y]:=by intros;rfl) (hlen:∀y,(arg (a y)).length=n:=by intros;rfl) (L:Qbm:=by exact k6 rfl)
  (q:AD x:=by decide) (he:Qaf:=by exact bC rfl) (hpl:Qas:=by rfl)
  (s:eval Qej X.env=(do
   let I ← eval QaE X.env
   standAt apos.atName
   let (f,first) ← holding [I] Qcp
   callWith pos f first (backTo pos QcU) QaX):=by rfl) :
  kQ X CL b Qej δ t (δ1.set i (some o)):=λH Z σ ts vs Q S kk=>by
 obtain⟨⟨f,fd,ps,C,G,mg,bd⟩,r⟩:=F;refine cK (aeI C G r w mg bd .nil vG JF q he hpl s) (h H Z σ ts vs _ S λys us H1 Z1 d l hf c p k1 g=>?_);rw[n2]
 match ys,d,hf,l,g,c with
 | [y],_,hf,l,g,c=>exact CV _ (D y hf) (hlen y) (u y hf) (J y hf) (E y hf) l (λj K=>by simp_all) c g λv H' Z' z B=>kk v H' Z' (p.trans z) B
end
theorem nV.none{K:Frag}{CL:BC}{Z:Hp}{m:Str}:∀{fs:Do} {gs:CA},nV K CL Z fs gs->fs.lookup m=none->gs.lookup m=none:=by
 intro fs
 induction fs with
 | nil=>intro gs r _;cases r;rfl
 | cons p fs a=>
  intro gs r h;cases r with
  | cons q r=>
   rw[pf]at h ⊢;split at h
   .cases h
   .exact a r h
section
abbrev _root_.Cs:=List (Str×L3.D)
variable{X:Cx}{CL:BC}{b:Bx}{δ δ1 δ2:BA}{e e1 e2 o:Expr}{es:Cc}{pos apos pos':Pos}{i:Nat}{x c m:Str}{fs:Cs}{ds:BB}{D:gi}{fU:CS}{A:Type}{k n:Nat}{arg:Qai}{Pre:QP}{res:Q4}
def q_{pl:QbH}(a:A)(F:Fq X CL c m k n arg Pre res)(i:Qfl)(hf:Qc6)(h:Xx X CL b Qab δ1 ds δ2)(q:arg a=.ins c fs::ds)(g:Pre a)(l:QdP)(j:QbI:=by rfl)
  (he:Qaf:=by exact bC rfl) (hpl:Qas:=by rfl)
  (d:eval Qeo X.env=(do
   let I ← eval o X.env
   standAt apos.atName
   let (f,first) ← holding [I] Qcp
   callWith pos f first (backTo pos QcU) QaX):=by rfl) :
  cY X CL b Qeo δ (res a) δ2:=by
 obtain⟨⟨f,fd,ps,M,G,bd⟩,r,p⟩:=F;exact ait a p M G r bd i hf h q j g l he hpl d
def q0_{pl:QbH}(a:A)(F:Fq X CL c m k n arg Pre res)(g:Qfl)(hf:Qc6)(l:arg a=[.ins c fs])(e:Pre a)(i:QdP)(h:QbI:=by rfl)
  (d:eval Qer X.env=(do
   let I ← eval o X.env
   standAt apos.atName
   let (f,first) ← holding [I] Qcp
   callWith pos f first (backTo pos QcX) QaX):=by rfl) :
  cY X CL b Qer δ (res a) δ1:=by
 obtain⟨⟨f,fd,ps,M,G,bd⟩,r,j⟩:=F;exact adO a j M G r bd g (λq=>q.none hf) l h e i d
theorem aoz{z w:Int}(g:Gx X)(nm:QbJ)(d:δ[i]? = some (some (.sh (.int z))))(h:dU X CL b e δ (.int w) δ)(k:dW X CL b fU (δ.set i (some (.sh (.int (z+w))))) D) :
  dW X CL b (.AugAssign Qei .Add e pos::fU) δ D:=cH λH Z σ ts vs E S M=>
 rV (am5 g.nd nm.hi nm.loc dN am6 nm.hf) (by
  obtain⟨v,hv,r⟩:=S.Xw d;cases r;refine⟨_,hv,h H Z σ ts vs _ S λv2 H1 Z1 a k1 j c=>?_⟩;cases c;have f:i<δ.length:=by
   obtain h|h:=Nat.lt_or_ge i _
   .exact h
   simp_all
  exact⟨z,w,rfl,rfl,M.nx _ _ H1 Z1 a ((j.push QbE).set f) k⟩)
theorem ai4{ZI:BB}(h1:cY X CL b e1 δ (.lst Qbf) δ1)(h2:kQ X CL b e2 δ1 (.lst (ZI.map T.sh)) δ2)(hz:ds.length+ZI.length<=sizeLine) :
  kQ X CL b Qes δ (.lst ((ds++ZI).map T.sh)) δ2:=λH Z σ ts vs Q S k=>
 cK (QN XH dN dN) (h1 H Z σ ts vs _ S λv1 H1 Z1 i k1 s=>h2 H1 Z1 σ _ _ _ s λv2 H2 Z2 h g=>by
  obtain⟨fp,gp,_,r,_,_⟩:=g.rep;cases r with
  | cons m r=>
   cases r with
   | cons n _=>
    obtain⟨a2,j,g2,rfl,rfl,e,a⟩:=m.g6;obtain⟨a1,l,g1,rfl,rfl,f,d⟩:=n.g6;have f1:=(bA.toF d).1;have f2:=(bA.toF a).1;refine⟨_,_,_,_,rfl,rfl,oG.of f,oG.of e,by rw[← f1.length,← f2.length];exact hz,λp o=>?_⟩;have rc:=aG.app f1 f2;obtain⟨c,q⟩:=(bH.pF rc g.pop.pop).kN (g0:=[]) (by simp[f1.length,f2.length]) o;exact k _ _ _ (i.trans h) q)
end
theorem mS{p:T}{δ:BA}{ds:BB}:Keeps (some p::δ) (p::ds.map T.sh):=λj y t h=>by
 cases j with
 | zero=>cases h;rfl
 | succ j=>
  simp_all
end L3
namespace L2
open PySem PySem.Spec PyProof.Rows
noncomputable def pM{α:Type}(xs:QT)(lo hi st:Ch):List α:=
 (sliceRange (sliceBounds lo hi st xs.length).1 (sliceBounds lo hi st xs.length).2.1 (sliceBounds lo hi st xs.length).2.2).filterMap (xs[·]?)
theorem LC(its:B2)(lo hi st:Ch):slicePick its.toArray lo hi st=(pM its lo hi st).toArray:=by
 unfold slicePick pM;simp_all
theorem aeJ{α:Type}(f:α->Value)(xs:QT)(lo hi st:Ch):(pM xs lo hi st).length<=xs.length:=by
 have h:=slicePick_size_le (xs.map f).toArray lo hi st;rw[LC]at h;have e:(pM (xs.map f) lo hi st)=(pM xs lo hi st).map f:=by
  unfold pM;rw[List.map_filterMap];simp_all
 simp_all
theorem Vals.pM{xs:BY}{us:B2}(r:QcA)(lo hi st:Ch):Vals (pM xs lo hi st) (pM us lo hi st):=by
 unfold L2.pM;rw[r.length];generalize sliceRange _ _ _=l
 induction l with
 | nil=>exact .nil
 | cons i l b=>
  rw[rl,rl];cases e:xs[i]? with
  | none=>
   have e2:us[i]? = none:=Fn (by
    have:=r.length;simp_all)
   simp_all
  | some x=>
   obtain⟨u,e2,a⟩:=r.get e;rw[e2];exact .cons a b
variable{X:Cx}{e st:Expr}{lo hi:Qd2}{te:TE}{tl th tk:TO}{pos p2:Pos}
theorem aat(he:QbU)(E:PO X lo tl)(D:PO X hi th)(F:PO X (some st) tk):PE X Qk0 (λσ H Q=>te σ H λx H1=>tl σ H1 λl H2=>th σ H2 λu g=>tk σ g λk c=>∃a xs,x=.ref a/\oG X.K c a xs/\k≠some 0/\∀p,c p=none->Q Qdz (upd c p (.lst (pM xs l u k)))):=by
 intro pins s σ H Q I h;refine Subscript_ (fX QbL λv s1 ⟨x,H1,N,o,z⟩=>?_);refine wpAny_Slice (fX (E pins s1 σ H1 _ N z) λm s2 ⟨l,H2,M,pl,y⟩=>fX (D pins s2 σ H2 _ M y) λj s3 ⟨u,g,L,pu,w⟩=>fX (F pins s3 σ g _ L w) λn s4 ⟨k,c,J,A,t⟩=>?_);obtain⟨a,xs,rfl,C,d,q⟩:=t;cases o;have f:Inv X pins σ c {s4 with heap:=s4.heap.push {cls:=.type "slice",data:=.fields #[m,j,n]}}:=J.kept λb B q=>ot _ q;obtain⟨its,r,i,hz⟩:=f.list C;have hlen:=r.length;refine tail_any i.isList.typeIs slot_list_getitem.lookup ?_ (rfl);refine wpAny_getItem_list_slice i.isList (Heap.IsSliceOf.new ..) pl pu A d ?_ WE;rw[LC];have G:=aeJ (λ_=>Value.none) xs l u k;refine⟨.ref _,_,f.laid (λb B q=>ot _ q) (iP _) ?_,rfl,q _ (f.fC.fresh (iP _))⟩;exact⟨oy G hz,_,0,r.pM l u k,pk _ rfl⟩
end L2
namespace L3
open PySem PySem.Spec PyProof.Rows L2
variable{α:Type}
theorem aeK{β:Type}{f:α->β}{l:QT}{lo hi st:Ch}:pM Qdu lo hi st=(pM l lo hi st).map f:=by
 unfold pM;rw[List.map_filterMap];simp_all
variable{X:Cx}{CL:BC}{b:Bx}{δ δ1 δ2 δ3 δ4:BA}{e st:Expr}{lo hi:Qd2}{l u k:Ch}{ds:BB}{pos p2:Pos}{K:Frag}{Z:Hp}
theorem aG.pM{us:BY}(r:QfU)(lo hi st:Ch):aG K CL Z (pM ds lo hi st) (pM us lo hi st):=by
 unfold L2.pM;rw[r.length];generalize sliceRange _ _ _=l
 induction l with
 | nil=>exact .nil
 | cons i l b=>
  rw[rl,rl];cases e:ds[i]? with
  | none=>
   have e2:us[i]? = none:=Fn (by
    have:=r.length;simp_all)
   simp_all
  | some x=>
   obtain⟨u,e2,a⟩:=r.get e;rw[e2];exact .cons a b
def aau(h1:Qcl)(g:QbX)(h2:FK X CL b lo δ1 l δ2)(B:FK X CL b hi δ2 u δ3)(A:FK X CL b (some st) δ3 k δ4)(z:k≠some 0) :
  cY X CL b Qk0 δ (.lst ((pM ds l u k).map T.sh)) δ4:=by
 intro H Z σ ts vs Q S kk;obtain⟨t2,f,t⟩:=h2;obtain⟨t3,d,s⟩:=B;obtain⟨J,a,q⟩:=A;refine cK (aat dN f d a) (h1 H Z σ ts vs _ S λv H1 Z1 o k1 G r=>t H1 Z1 σ ts vs _ G λH2 Z2 n k2 F=>s H2 Z2 σ ts vs _ F λI Z3 m k3 E=>q I Z3 σ ts vs _ E λL K j h i=>?_);have r:=r.mono (k2.trans (k3.trans h));obtain⟨_,_,rfl,x,w⟩:=r.g6;refine⟨_,_,rfl,x,z,λp y=>?_⟩;have rc:=(aG.tF i.tp g w).pM l u k;obtain⟨c,C⟩:=(bH.pF rc i).kN (g0:=[]) (by simp[rc.length]) y;exact kk _ _ _ (o.trans (n.trans (m.trans j))) (k1.trans (k2.trans (k3.trans (h.trans c)))) C
section
variable{e1 e2:Expr}{es:Cc}{t:T}{d1 d2:L3.D}{p q:Bool}{D:gi}{fU a c:CS}
def v5(X:Cx)(CL:BC)(b:Bx)(e:Expr)(δ:BA)(p:Bool)(δ':BA):Prop:=
 ∀(H Z:Hp) (σ:L2.St) (ts:Bi) (vs:BY) (Q:EN),bH X.K CL b H Z δ σ ts vs->(∀H' Z',aM Z Z'->bH X.K CL b H' Z' δ' σ ts vs->Q p H')->Mc X e σ H Q
def v3(X:Cx)(CL:BC)(b:Bx)(e:Expr)(δ:BA)(p:Bool)(δ':BA):Prop:=
 ∀(H Z:Hp) (σ:L2.St) (ts:Bi) (vs:BY) (Q:EN),bH X.K CL b H Z δ σ ts vs->(∀H' Z',aM Z Z'->bH X.K CL b H' Z' δ' σ ts vs->Q p H')->OC X e σ H Q
theorem xa.m(h:xa X CL b e δ p δ1):v3 X CL b e δ p δ1:=λH Z σ ts vs Q S k=>h H Z σ ts vs Q S λH' Z' z _ a=>k H' Z' z a
def HH(h:QbZ)(a:p=q):ye X CL b e δ q δ1:=a▸h
noncomputable def Tu(h:v3 X CL b e δ p δ1):v5 X CL b e δ p δ1:=λH Z σ ts vs Q S k pins s I=>h H Z σ ts vs Q S k _ pins s I
theorem aoA(h:QeB)(h2:p=false->v3 X CL b Qg7 δ1 q δ1):v3 X CL b QgW δ (p || q) δ1:=λH Z σ ts vs Q S k=>
 MN (TU Xv KO) (h H Z σ ts vs _ S λH1 Z1 a c=>by
  cases p with
  | true=>exact JR (k H1 Z1 a c)
  | false=>exact JQ (h2 rfl H1 Z1 σ ts vs _ c λH2 Z2 d f=>k H2 Z2 (a.trans d) f))
theorem aoB(h:QeB)(h1:p=true->dW X CL b a δ1 D)(h2:p=false->dW X CL b c δ1 D):Ut X CL b (.If e a c pos) δ D:=λH Z σ ts vs E S M=>
 rV (alL Xv Uq Uq) (h H Z σ ts vs _ S λH1 Z1 d f=>by
  cases p with
  | true=>exact JR (h1 rfl H1 Z1 σ ts vs E f (M.mono d))
  | false=>exact JQ (h2 rfl H1 Z1 σ ts vs E f (M.mono d)))
def XZ(h:QeB)(h1:p=true->dW X CL b a δ1 {D with nx:=λδ2=>dW X CL b fU δ2 D})(h2:p=false->dW X CL b c δ1 {D with nx:=λδ2=>dW X CL b fU δ2 D}):dW X CL b (.If e a c pos::fU) δ D:=cH (aoB h h1 h2)
def Nr(g:QdQ)(h1:kQ X CL b e1 δ t δ1)(hf:t.gM=d1)(h2:Qet)(k1:rW 60 d1)(k2:rW 60 d2):v5 X CL b QcP δ (!MS d1 d2) δ2:=λH Z σ ts vs Q S k=>
 EI (pI (Uy g) dN dN (oJ _)) (h1 H Z σ ts vs _ S λv1 H1 Z1 e h=>h2 H1 Z1 σ _ _ _ h λv2 H2 Z2 d s2 c f=>by
  have a:=c.view;rw[hf]at a;exact⟨d1,d2,a,f,k1,k2,_,rfl,k H2 Z2 (e.trans d) c.pop⟩)
end
def Sa{α:Type}:Nat->(List α->Prop)->Prop
 | 0,P=>P []
 | n+1,P=>∀a,Sa n λr=>P (a::r)
variable{n:Nat}
def lE{P:List α->Prop}(h:Sa n P):∀us:List α,us.length=n->P us:=by
 intro us b
 induction us generalizing n P with
 | nil=>subst b;exact h
 | cons a r c=>subst b;exact c (h a) rfl
abbrev TY(K:Frag)(x:Str)(f:Addr):Prop:=nsIn K mainGlobals x=some Qdh
structure FG(N P G:At)(sc:Scope):Prop extends dw N P sc where
 lc:Qk4=true
 gb:QkG=true
variable{N:At}
def fG{P G:At}{sc:Scope}(h:dw N P sc:=by exact kg)(lc:Qk4=true:=by decide +kernel)(gb:QkG=true:=by decide +kernel):FG N P G sc:=⟨h,lc,gb⟩
variable{i:Nat}{x:Str}{P G:At}
def gL(c:FG N P G X.env.scope)(j:Nat)(a:N[j]? = some x:=by rfl)(hi:X.N[i]? = some x:=by rfl)(hf:X.fn x=true:=by rfl)(hd:AD x:=by decide)(b:AE x:=by decide):Ln X i x:=X1 hi (eq_of_beq (w1.1 c.lc _ (qz a))) hf hd b
def gG(c:FG N P G X.env.scope)(j:Nat)(a:G[j]? = some x:=by rfl):Gl X x:=eq_of_beq (w1.1 c.gb _ (qz a))
variable{e1 e2:Expr}{es:Cc}{t:T}{d d1 d2:L3.D}{tl:Bi}{pp:Pos}
def Kb(X:Cx)(CL:BC)(b:Bx)(es:Cc)(δ:BA)(tl:Bi)(δ':BA):Prop:=
 ∀(H Z:Hp) (σ:L2.St) (ts:Bi) (vs:BY) (Q:EQ),bH X.K CL b H Z δ σ ts vs →
  (∀us H' Z',us.length=tl.length->aM Z Z'->bH X.K CL b H' Z' δ' σ (tl.reverse++ts) QdL->Q us H')->Up X es σ H Q
theorem MH.m(h:QjH):Kb X CL b es δ tl δ1:=λH Z σ ts vs Q S k=>h H Z σ ts vs Q S λv H' Z' l z _ a=>k v H' Z' l z a
def uA:Kb X CL b [] δ [] δ:=bI.m
theorem fL(h1:QbB)(h2:Kb X CL b es δ1 tl δ2)(hs:Qaf:=by exact bC rfl):Kb X CL b Qab δ (t::tl) δ2:=λH Z σ ts vs Q S k=>
 JS (bZ dN JF hs) (h1 H Z σ ts vs _ S λv H1 Z1 c f=>h2 H1 Z1 σ _ _ _ f λus H2 Z2 d a g=>k _ H2 Z2 (by simp[d]) QbO WD)
def Nt{op:Operator}{r:R2}{e c w:V}(l:Qj9)(h1:kQ X CL b e1 δ (.sh d1) δ1)(h2:kQ X CL b e2 δ1 (.sh d2) δ2)(s1:va d1=some e)(s2:va d2=some c)(s3:va d=some w)
  (j:∀(H:Hp) (Q:VK),Q w H->r e c H Q):kQ X CL b (.BinOp e1 op e2 pos) δ (.sh d) δ2:=λH Z σ ts vs Q S k=>by
 refine cK (QN l dN dN) (h1 H Z σ ts vs _ S λv1 H1 Z1 g m=>h2 H1 Z1 σ _ _ _ m λv2 H2 Z2 f a=>?_);have h:=a.view;have i:=a.pop.view;rw[i.sc s1,h.sc s2];exact j H2 Q (k w H2 Z2 (g.trans f) (a.pop.pop.push (Xz s3)))
noncomputable def FJ{i j:Int}(h1:QiU)(h2:kQ X CL b e2 δ1 QcW δ2):kQ X CL b Qes δ (.sh (.int (i+j))) δ2:=Nt ac6 h1 h2 rfl rfl rfl λ_ _ q=>⟨i,j,rfl,rfl,q⟩
noncomputable def FL{i j:Int}(h1:QiU)(h2:kQ X CL b e2 δ1 QcW δ2):kQ X CL b (.BinOp e1 .Sub e2 pos) δ (.sh (.int (i-j))) δ2:=Nt ac7 h1 h2 rfl rfl rfl λ_ _ q=>⟨i,j,rfl,rfl,q⟩
noncomputable def aeM{y:Str}(h1:kQ X CL b e1 δ (.sh Qbj) δ1)(h2:kQ X CL b e2 δ1 (.sh (.str y)) δ2)(c:x.length+y.length<=sizeLine):kQ X CL b Qes δ (.sh (.str (x++y))) δ2:=Nt Gp h1 h2 rfl rfl rfl λ_ _ q=>⟨x,y,rfl,rfl,c,q⟩
def X3(h:QbB):kQ X CL b e δ (.sh t.gM) δ1:=λH Z σ ts vs Q S k=>h H Z σ ts vs Q S λv H1 Z1 c f=>by
 obtain⟨Z2,a,d⟩:=f.MF;exact k v H1 Z2 QbO d
variable{j:Nat}
def ai5(h:Kb X CL b es δ tl δ1)(g:tl.length<=sizeLine):kQ X CL b QhQ δ (.tup tl) δ1:=λH Z σ ts vs Q S k=>
 cK (ade JF) (h H Z σ ts vs _ S λus H1 Z1 d e l=>⟨ d▸g,λp f=>by
  obtain⟨a,c,i⟩:=l.ML d f;exact k _ _ _ (e.trans a) i⟩)
theorem qA(h:Kb X CL b es δ (ds.map T.sh) δ1)(a:QbM):kQ X CL b QhQ δ (.sh Qb6) δ1:=by
 have:=X3 (ai5 (pos:=pos) (j:=j) h WD)
 rwa [T.gM,lu]at this
def aeN(h:QbB)(q:t.gM=d):kQ X CL b e δ (.sh d) δ1:=q▸X3 h
def yo{k:Int}(h1:kQ X CL b e1 δ (.sh QcC) δ1)(h2:kQ X CL b e2 δ1 QfX δ2)(j:QeY)(hs:rD e2:=by exactλ_ _=>rfl):kQ X CL b Qfv δ (.sh d) δ2:=λH Z σ ts vs Q S kk=>
 cK (Gu Fw dN dN hs) (h1 H Z σ ts vs _ S λv1 H1 Z1 e l=>h2 H1 Z1 σ _ _ _ l λv2 H2 Z2 c a=>by
  have h:=a.view;obtain⟨fp,gp,_,r,_,_⟩:=a.pop.rep;cases r with
  | cons r _=>
   replace r:=r.MB;obtain⟨rfl,r⟩:=r;obtain⟨_,_,rfl,i,g⟩:=r.g6;obtain⟨v,hv,f⟩:=AV g j;exact⟨_,_,k,v,rfl,h.sc rfl,a.zh.seq i,hv,kk v H2 Z2 Qga (a.pop.pop.push f)⟩)
def aeO{i:Int}(hm:X.mg "str" = none)(d:Gl X "str")(h:kQ X CL b e δ (.sh QaL) δ1)(hi:i.natAbs.log2<1920)(hs:Qad:=by exact bC rfl) :
  kQ X CL b QlD δ (.sh QjZ) δ1:=λH Z σ ts vs Q S k=>
 cK (k7 AK d hm boot_str Qay (he:=hs)) (h H Z σ ts vs _ S λv H1 Z1 c a=>by
  have r:=a.view;rw[r.sc rfl];exact⟨i,rfl,hi,k _ H1 Z1 c (a.pop.push (.str _))⟩)
variable{A:Type}{y:Addr}
def xy{k:Nat}{al:BN->Bi}{arg:Qam}{Pre:QP}{res:Q4}{out:Qam}(a:A)(c:T)(F:Qi4)(g:Q3)(h:uk X CL b Qab δ [i] (λys=>ys.headD 0=y/\True) al δ1)(f:Pre a)(m:res a=t)(l:vH QcJ [y] [c])
  (j:arg a=al [y]:=by rfl) (hlen:QbI:=by rfl) (o:Qbm:=by exact k6 rfl)
  (d:AD x:=by decide) (he:Qaf:=by exact bC rfl) (hpl:Qas:=by rfl) :
  kQ X CL b QbC δ t (δ1.set i (some c)):=
 cM1 _ c F g h (λ_ _=>f) (λ_ _=>m) (λz hz=>(show z=y from hz.1)▸l) (λz hz=>(show z=y from hz.1)▸j) (λ_=>hlen) o d he hpl
def Bc(δ:BA)(ix:CU)(i:Nat)(t:T):BA:=ix.map λk=>if k=i then some t else y4 δ[k]?
variable{H H' Z':Hp}{σ:L2.St}{ts:Bi}{vs:BY}{v:V}{fp:BN}{d:D}
def aeP{ix:CU}(h:i∉ix):Bc δ ix i t=CG δ ix:=tH λk a=>bF λ(e:k=i)=>h (e▸a)
theorem ai6{o:Option Qcd}{w:QdW}{r:BA}{σ':L2.St}(S:Qag)(zz:Qbw)(k:Nat)(a:fH K CL H' Z' r σ' fp):fH K CL H' Z' (y4 δ[k]?::r) ((σ[k]?).getD none::σ') fp:=by
 cases e:δ[k]? with
 | none=>exact .skip a
 | some o=>
  cases o with
  | none=>exact .skip a
  | some t=>
   cases t with
   | sh d=>
    obtain⟨v,hv,c⟩:=S.Xw e;rw[hv];exact fH.cons (fp:=[]) (.sh (c.mono zz)) a
   | _=>exact .skip a
theorem RG(S:Qag)(zz:Qbw)(hv:σ[i]? = some Qat)(rt:bU K CL H' Z' t v fp):∀{ix:CU},i∈ix->ix.Nodup->fH K CL H' Z' (Bc δ ix i t) (ix.map λk=>(σ[k]?).getD none) fp
 | [],h,_=>absurd h oe
 | k::r,h,nd=>by
  have nd:=si.1 nd;show fH K CL H' Z' ((if k=i then some t else y4 δ[k]?)::Bc δ r i t) (((σ[k]?).getD none)::r.map λk=>(σ[k]?).getD none) fp;by_cases e:k=i
  .subst e;rw[cq rfl,hv,aeP nd.1];have q:fH K CL H' Z' (CG δ r) (r.map λk=>(σ[k]?).getD none) []:=(GC S r H').mono zz λa c=>absurd c oe;have:=fH.cons (δ:=CG δ r) rt q
   rwa [n2]at this
  .rw[bF e];exact ai6 (o:=none) (w:=none) S zz k (RG S zz hv rt ((eu.1 h).resolve_left λz=>e z.symm) nd.2)
theorem G5(hv:σ[i]? = some Qat):∀{ix:CU} {fp:BN},i∈ix->fH K CL H Z (Bc δ ix i t) (ix.map λk=>(σ[k]?).getD none) fp->∃a,bU K CL H Z t v a/\a.Sublist fp
 | [],_,h,_=>absurd h oe
 | k::r,fp,h,q=>by
  have q:fH K CL H Z ((if k=i then some t else y4 δ[k]?)::Bc δ r i t) (((σ[k]?).getD none)::r.map λk=>(σ[k]?).getD none) fp:=q;by_cases e:k=i
  .subst e;rw[cq rfl,hv]at q;cases q with
   | cons rt _=>exact⟨_,rt,T1 _ _⟩
  .rw[bF e]at q;have hm:=(eu.1 h).resolve_left λz=>e z.symm;generalize y4 δ[k]? = o at q;generalize (σ[k]?).getD none=w at q;cases q with
   | skip q=>exact G5 hv hm q
   | cons _ b=>
    obtain⟨a,h1,h2⟩:=G5 hv hm b;exact⟨a,h1,h2.trans (FA _ _)⟩
theorem bH.aoD{D:Addr}(S:bH K CL b H Z δ σ (.sh d::.lst tl::ts) (v::.ref D::vs)):∃us,H D=some Qb7/\us.length=tl.length/\bH K CL b (upd H D (.lst (us++[v]))) Z δ σ (.lst (tl++[.sh d])::ts) Qdk:=by
 obtain⟨fp,gp,e,r,nd,k⟩:=S.rep;cases r with
 | cons n h=>
  obtain⟨rfl,rd⟩:=n.MB;cases h with
  | cons h m=>
   obtain⟨a,us,g,j,i,o,rs⟩:=h.g6;cases j;cases i;rename_i l;rw[wA]at nd k;have pm:(fp++((D::g)++l)).Perm (D::(fp++(g++l))):=by
    rw[uj];exact List.perm_middle
   have ne:∀c∈fp++(g++l),c≠D:=λc f z=>by
    subst z;exact(si.1 (pm.nodup_iff.1 nd)).1 f
   refine⟨us,o,rs.length.symm,S.Uz rfl k WA (e.mono Qy λc f=>az (ne c (by simp[f]))) (.cons (.lst bD (bA.app (rs.mono Qy λc f=>az (ne c (by simp[f]))) (.cons (.sh rd) .nil))) (m.mono Qy λc f=>az (ne c (by simp[f])))) ?_ λc f=>?_⟩
   .simpa using nd
   .simpa using f
variable{scope:Scope}{Nc:At}{ix:CU}{elt:Expr}{px pr pc:Pos}
theorem aeQ(t:Nat->T)(d:Nat->L3.D)(sc:QeF)(a:QaA)(hm:Qc4)(hg:Qdj)(h:QiQ)(hn:n<=1000)(hi:δ1[i]? = some QjJ)(X4:i∈ix)(aa:ix.Nodup)
  (inner:∀C s0 H0 f0 b' (j:Nat),j<n->kQ Qg4 CL b' elt QiD (.sh (d j)) Qiv)
  (jB:QgC) (JT:Qad)
  {RR:QiE} {pins:BM} {s:Qb} (S:Qg3) (I:Qbe)
  (fin:∀D C s' H' Z',(∃m,s'.heap.Ns C m)->(∃o,s'.heap.get? C=some o/\∀v,o.data ≠ .cell v)->H' C=none->(C≠X.env.locals/\C∉X.fs/\X.gZ.heap.objs.size<=C/\(∀y c,X.env.cells.lookup y=some c->c≠C)/\∀q∈X.pn++pins,q.1≠C)->(∀h',Heap.SameBut C s'.heap h'->L2.Inv X pins σ H' {s' with heap:=h'})->aM Z Z'->bH X.K CL b H' Z' (δ1.set i Qhp) σ (.lst ((List.range n).map λj=>T.sh (d j))::ts) Qdk->RR QaW C (.ok .next) s') :
  wpAny Qr X.A (eval Qfu X.env) (λv p=>wpAny Qr X.A (pyIter v) (λit l=>wpAny Qr X.A Qf4 (λacc k=>wpAny Qr X.A Qih (λRg g=>
   codeAny Qr X.A (.compStart Qed 0 it acc {Rg with scope:=relabel scope X.env}) (RR acc Rg.locals) g) X.xe k) X.xe l) X.xe p) X.xe s:=by
 refine fX ((K8 (tg:=.Name x px) hg hm (bZ dN dS JT) jB) pins s σ H (λJ H1=>J=Nw 0 n/\∃Z1,aM Z Z1/\bH X.K CL b H1 Z1 δ1 σ ts vs) I (h H Z σ ts vs _ S λv H1 Z1 O N=>?_)) λv s1 h1=>fX h1 λaw s2 zz=>?_
 .have r:=N.view;rw[T.gM]at r;exact⟨n,by rw[r.sc rfl],We,We,by rw[oo],Z1,O,N.pop⟩
 obtain⟨it,fp,tn,J,H1,e0,I1,Tn,st,hf,rfl,Z1,O,N⟩:=zz;subst e0;have J1:i<δ1.length:=by
  obtain h|h:=Nat.lt_or_ge i δ1.length
  .exact h
  .rw[Fn h]at hi;cases hi
 refine zT (xs:=[x]) (G:=λD H'=>∃Z',aM Z1 Z'/\bH X.K CL b H' Z' (δ1.set i Qhp) σ (.lst ((List.range n).map λj=>T.sh (d j))::ts) Qdk) (RR:=RR) (LM sc) a I1 Tn st hf (λD hD=>?_) λD C' s' H' m io nC ch ci ⟨Z',M,S'⟩=>?_
 .refine⟨λj m H2=>m=n-j/\j<=n/\∃Z2,aM Z1 Z2/\bH X.K CL b H2 Z2 (δ1.set i (some Qhc)) σ (.lst ((List.range j).map λj=>T.sh (d j))::ts) Qdk,⟨n,rfl,nZ _,Z1,.refl _,?_⟩,?_⟩
  .rw[iC hi];exact(bH.kN (tl:=[]) (us:=[]) (g0:=[]) N rfl hD).2
  rintro j m H2 ⟨rfl,hj,Z2,z2,f⟩;by_cases U:j<n
  .refine .inr ⟨U,λH'=>∃Z2,aM Z1 Z2/\bH X.K CL b H' Z2 (δ1.set i (some (.pin y (t QA)))) σ (.lst ((List.range QA).map λj=>T.sh (d j))::ts) Qdk,λH' h=>⟨n-QA,We,rfl,U,h⟩,λxv L yy C s0 H0 f0 os ho=>?_⟩;obtain⟨o,rfl⟩:=List.length_eq_one_iff.1 ho;refine⟨K7 0,uf sc.nd (by show Nc[0]? = some x;rw[sc.hd];rfl) (.inl (ME sc.own)) (.inr (ME sc.own)),[some xv],rfl,rfl,?_⟩;obtain⟨rfl,rfl⟩:=yy;unfold OA;dsimp only;rw[cq rfl];obtain⟨v0,ev,Sm⟩:=f.move (Fs J1);have V:v0=.ref y:=by
    obtain⟨_,_,_,r,_,_⟩:=Sm.rep;cases r with
    | cons r _=>cases r;rfl
   subst V;rw[List.set_set]at Sm;obtain⟨gp,r,nd,Sc⟩:=bH.cut (tl:=[.pin y (t j)]) (us:=[.ref y]) Sm rfl;have ar:∀u:T,Bc (δ1.set i (some Qhc)) ix i u=Bc δ1 ix i u:=λu=>tH λq _=>by
    by_cases e:q=i
    .rw[cq e,cq e]
    .rw[bF e,bF e,JP λz=>e z.symm]
   obtain⟨g1,P,ae⟩:∃g1,bU X.K CL L Z2 Qhc QdA g1/\gp=g1:=by
    cases r with
    | cons P r2=>
     cases r2;exact⟨_,P,by rw[n2]⟩
   subst ae;have zn:∀c∈gp,Z2 c=none:=λc a=>by
    cases q:Z2 c with
    | none=>rfl
    | some o=>exact absurd a (qj (Sc.zh c o q)).1
   have E:=RG (ix:=ix) f Qy ev P X4 aa;rw[ar]at E;have S0:bH X.K CL ⟨zV L gp,Z2⟩ L Z2 (some (.sh (.int (j:Int)))::Bc δ1 ix i Qhc) (zR σ ix (some (.int (0+(j:Int))))) [] []:=
    ⟨⟨[]++gp,[],.cons (by rw[Eb];exact .sh QbE) E,.nil,by rw[n2];exact nd,λc a=>by
     have a:c∈gp:=by simpa using a
     exact⟨zn c a,uy a⟩⟩,λc o q=>(qj q).2,.refl _,f.zh,λc o q z=>(by have M:Z2 c=none:=z;rw[show Z2 c=some o from q]at M;cases M),f.tp,f.Ur⟩
   refine inner C s0 H0 f0 ⟨zV L gp,Z2⟩ j U L Z2 _ [] [] _ S0 λyv H5 Z5 z5 F=>?_;obtain⟨f1,g5,e1,r5,R,ag⟩:=F.rep;cases r5 with
   | cons B rn=>
    cases rn;replace B:=B.MB;obtain⟨rfl,B⟩:=B;cases e1 with
    | @cons _ _ _ _ f0 f2 rk e2=>
     obtain⟨f3,rp,sb⟩:=G5 ev X4 e2;have nf:f2.Nodup:=by
      have:=(oT.1 R).1;exact(oT.1 this).2.1
     have S6:=Sc.Ts (H':=H5) (W':=Z5) (tl:=[.pin y (t QA),.sh (d j)]) (us:=[.ref y,yv]) (fp:=f3++([]++[])) F.bh z5 F.zh F.new F.tp (.cons rp (.cons (.sh B) .nil)) (by simpa using nf.sublist sb) (λc a=>by
      have a:c∈f3:=by simpa using a
      exact ag c (nv _ (j9 _ (sb.subset a))))
     have S7:=bH.set (i:=i) S6 (by rw[ui];exact J1);rw[iC ev,List.set_set]at S7;obtain⟨us,W,Y,S8⟩:=bH.aoD S7;refine⟨us,W,?_,Z5,z2.trans z5,?_⟩
     .rw[Y,dm,sm];have:=p3;exact pE (show j<1000 by lia) (by rw[p3];decide)
     .rw[M1,nH];exact S8
  .have ej:j=n:=by lia
   subst ej;exact .inl ⟨iP _,Z2,z2,f⟩
 .exact fin D C' s' H' Z' m io nC ch ci (O.trans M) S'
def LD(t:Nat->T)(d:Nat->L3.D)(sc:QeF)(p:QaA)(hm:Qc4)(o:Qdj)(h:QiQ)(l:n<=1000)(hi:δ1[i]? = some QjJ)(u:i∈ix)(a:ix.Nodup)
  (inner:∀C s0 B f0 q (j:Nat),j<n->kQ (dg X scope Nc C s0 B f0) CL q elt QiD (.sh (d j)) Qiv)
  (g:QgC:=by rfl) (z:Qad:=by exact bC rfl)
  (hs:∀x,foldedSetIterable Qfu X.env x=pure x:=by intro _;rfl) :
  kQ X CL b Qed δ (.lst ((List.range n).map λj=>T.sh (d j))) (δ1.set i Qhp):=λH Z σ ts vs Q S k pins s I=>by
 rw[eval_ListComp];refine Nd (use:=none) rfl hs (GF sc I) sc.kind sc.names ?_;exact aeQ (RR:=λacc C=>compPost Qr X.A X.xe none Qa1 acc C) t d sc p hm o h l hi u a inner g z S I λD F s' H' Z' ⟨m,c⟩ io E ch ci f v=>⟨m,c,λh' r=>⟨.ref D,H',ci h' r,rfl,k _ H' Z' f v⟩⟩
variable{fU:CS}
def X5{D:gi}{c:Nat}{u:Str}{py G:Pos}(t:Nat->T)(l:Nat->L3.D)(g:Gx X)(nm:Ln X c u)(sc:QeF)(hm:Qc4)(U:Qdj)(h:QiQ)(P:n<=1000)(hi:δ1[i]? = some QjJ)(W:i∈ix)(f:ix.Nodup)
  (inner:∀C s0 H0 f0 b' (j:Nat),j<n->kQ Qg4 CL b' elt QiD (.sh (l j)) Qiv)
  (kk:dW X CL b fU ((δ1.set i Qhp).set c (some (.lst ((List.range n).map λj=>T.sh (l j))))) D) (R:c<δ1.length)
  (k:swapsWith Qed (some (.Name u py)) G.line X.env=pure true\/swapsWith Qed (some (.Name u py)) G.line X.env=pure false)
  (N:QgC:=by rfl) (Y:Qad:=by exact bC rfl)
  (hs:∀x,foldedSetIterable Qfu X.env x=pure x:=by intro _;rfl):dW X CL b (.Assign [.Name u py] Qed G::fU) δ D:=by
 obtain k|k:=k
 case inr=>exact g9 g nm (LD t l sc g.calm hm U h P hi W f inner N Y hs) kk (by rw[ui];exact R) k
 refine cH λH Z σ ts vs E S M pins s I=>?_;rw[exec_Assign_Name_used _ _ _ _ k];refine fF (MW (fF ?_));show wpAny _ X.A (do let _ ← comprehension Qed scope X.env _ Qf4 false (eval Qfu X.env) (some Qje)) _ _ s;refine fF (o3 (Nd (use:=some Qje) (Q:=λ_ s'=>SP X pins E .next s') rfl hs (GF sc I) sc.kind sc.names ?_) (λ_ s' d=>oa (oa d)) λ_ _ e=>e);refine aeQ (RR:=λacc C=>compPost Qr X.A X.xe (some Qje) Qlz acc C) t l sc g.calm hm U h P hi W f inner N Y S I λD' p s' H' Z' m io nC ch ci z' S'=>?_;obtain⟨m,v⟩:=m;obtain⟨o,O,vF⟩:=io;have I':L2.Inv X pins σ H' s':=ci s'.heap (.refl ..);have I2:L2.Inv X (pins++[(p,o)]) σ H' s':=I'.x6 λq d=>by
  obtain z|z:=f9.1 d
  .exact I'.pin q (j9 _ z)
  .have e:q=(p,o):=by simpa using z
   subst e;exact⟨O,nC,ch.1,ch.2.1,vF⟩
 show wpAny _ X.A (assign (.Name u py) X.env QdY) _ _ s';refine fX ((uf g.nd nm.hi nm.loc nm.hf) _ s' σ H' QdY QdY (λa H8=>a=σ.set c Qid/\H8=H') I2 rfl ⟨rfl,rfl⟩) λ_ L zz=>?_;obtain⟨a,H8,J,e8,F⟩:=zz;subst e8;subst F;obtain⟨B,r,_⟩:=J.pin (p,o) (j9 _ (j9 _ WA));refine⟨m,v.at' λo' V=>by rw[O]at V;cases V;exact B,λh' ZM=>?_⟩;have I9:L2.Inv X pins (σ.set c Qid) _ L:=J.x6 λq d=>J.pin q (j9 _ (nv _ d));have K:=I9.turned (it:=p) (h':=h') (t':=L.toks) (λb o hb e=>(ZM.2 b hb).trans e) r ch.1.symm.symm (.inr ch.2.2.1) ch.2.2.2.1 ch.2.2.2.2;exact⟨_,_,K,M.nx _ _ _ Z' z' (S'.set (by rw[ui];exact R)) kk⟩
def G6{C:Addr}{s:Qb}{k:Nat}{arg out:Qam}{Pre:QP}{res:Q4}(F:Qi4):TX Qbb CL x k n arg Pre res out:=⟨F.ex,F.room⟩
variable{tl0:Bi}{pa pb:Pos}{DD:gi}
def rY{t2:T}(h:QbB)(q:t=t2):kQ X CL b e δ t2 δ1:=q▸h
def aeR(hm:X.mg "tuple" = none)(h:kQ X CL b e δ (.lst Qbf) δ1)(hi:QbX)(p:Gl X "tuple")(hs:Qad:=by exact bC rfl):kQ X CL b Qlu δ (.sh Qb6) δ1:=λH Z σ ts vs Q S k=>
 cK (k7 zg p hm Ek Qay (he:=hs)) (h H Z σ ts vs _ S λv H1 Z1 m i=>by
  have r:=i.view;rw[T.gM,lu]at r;have g:=i.pop;obtain⟨_,_,rfl,n,d⟩:=r.g6;refine⟨_,_,rfl,.inl ⟨n,λl o=>?_⟩⟩;obtain⟨a,c,q⟩:=(bH.pF (aG.tF g.tp hi d) g).ML (by simp[d.length]) o;obtain⟨Z3,j,f⟩:=q.MF;rw[T.gM,lu]at f;exact k _ _ Z3 (m.trans (a.trans j)) f)
def aoE(n:QaI)(h0:δ[i]? = some QhO)(h:QbB)(h1:δ1[i]? = some Qf6)(p:tl.length<=1000000)(k:Qlo)
  (l:Qik:=by rfl)
  (f:AB X pb e:=by rfl)
  (c:Qfr:=by rfl) (hs:Qad:=by exact bC rfl) (u:Qiw:=by rfl) :
  dW X CL b (.Expr Qgl pos::fU) δ DD:=cH λH Z σ ts vs E S M=>
 rV (x8 (Le JI UP T2 yc QdF Qay l f c hs rfl) u) (by
  obtain⟨v0,e0,j⟩:=S.look h0;refine⟨v0,e0,?_,?_⟩
  .obtain⟨_,_,rfl,o,_⟩:=j.g6;exact .inl ⟨rfl,_,o⟩
  .refine h H Z σ ts vs _ S λv H1 Z1 g s=>?_;obtain⟨a,us,d,q,m,r⟩:=s.append h1;rw[e0]at d;cases d;exact⟨a,us,v,rfl,rfl,q,by rw[m];exact vT p Wp,M.nx _ σ _ Z1 g r k⟩)
def aaw{h:Int}(h1:QgI)(a:QbX)(q:kQ X CL b e2 δ1 (.sh (.int h)) δ2):kQ X CL b (.Subscript e (.Slice none (some e2) none p2) pos) δ (.lst ((cutD ds none (some h)).map T.sh)) δ2:=λH Z σ ts vs Q S k=>by
 refine cK (QV Xs dN Xp (Xq dN)) (h1 H Z σ ts vs _ S λv H1 Z1 j k1 t=>q H1 Z1 σ _ _ _ t λv2 H2 Z2 i f=>?_);have m:=f.view;refine⟨h,m.sc rfl,?_⟩;have r:=f.pop.view;have g:=f.pop.pop;obtain⟨_,_,rfl,n,l⟩:=r.g6;refine⟨_,_,rfl,n,λp o=>?_⟩;have rc:=aG.tF g.tp (jo λd hd=>jH a d (XG hd)) (l.cut none (some h));obtain⟨c,s⟩:=(bH.pF rc g).kN (g0:=[]) (by simp[rc.length]) o;exact k _ _ _ (j.trans i) s
def Conv(Z Z':Hp):Prop:=∀c o,Z c=some o->Z' c=some o\/(∃gs a,o=.dT gs/\Z' c=some (.gM a Qeb))\/∃gs a,o=.gM a Qeb/\Z' c=some Qeb
variable{a:Addr}
theorem Conv.keep{o:HO}(e:Conv Z Z')(h:Z a=some o)(h1:∀gs,o ≠ .dT gs)(h2:∀gs b,o ≠ .gM b Qeb):Z' a=some o:=by
 obtain q|⟨gs,b,q,_⟩|⟨gs,b,q,_⟩:=e a o h
 .exact q
 .exact absurd q (h1 gs)
 .exact absurd q (h2 gs b)
def T.Nu:List G4->T->Option T
 | [],t=>some t
 | s::p,t=>(t.core.r0 s).bind (T.Nu p)
def T.U4:List G4->T->T->T
 | [],u,_=>u
 | s::p,u,t=>match t.core.r0 s with
  | some k=>t.Np (t.core.U1 s (T.U4 p u k))
  | none=>t
variable{u t0:T}{p:QcK}
theorem bU.raw(zh:aM Z H):∀(p:QcK) {t u:T} {v:V} {fp:BN},bU K CL H Z t v fp->T.Nu p t=some u->∃w f2,EW H v p w/\bU K CL H Z u w f2/\∀{b:T},bU K CL H Z b w f2->bU K CL H Z (T.U4 p b t) v fp
 | [],t,u,v,fp,h,e=>by
  cases e;exact⟨v,fp,rfl,h,λr=>r⟩
 | s::p,t,u,v,fp,h,e=>by
  obtain⟨h1,h2⟩:=h.U3;rw[T.Nu]at e;cases a:t.core.r0 s with
  | none=>rw[a]at e;cases e
  | some k=>
   rw[a]at e;obtain⟨c,a1,a2,a3,n,m,l,j⟩:=h1.r0 zh a;obtain⟨w,f2,g,f,d⟩:=bU.raw zh p l e;refine⟨w,f2,⟨c,n,g⟩,f,λ{b} i=>?_⟩;rw[T.U4,a,m];exact h2 (j Qc9 (d i))
theorem bH.loose(S:Qag)(hi:δ[i]? = some Qa5)(f:QjK):bH K CL b H Z (δ.set i (some (T.U4 p u t0))) σ ts vs:=by
 obtain⟨fp,gp,e,r,nd,k⟩:=S.rep;obtain⟨v1,e1,e2,g,hv,c,rt,put,_⟩:=e.get hi;obtain⟨w,f2,at',d,put2⟩:=rt.raw S.zh p f;have a:=put Qy Qc9 (put2 (by cases d with|pin r=>exact r));rw[iC hv]at a;subst c;exact⟨⟨_,gp,a,r,nd,k⟩,S.bh,S.zz,S.zh,S.new,S.tp,S.tab⟩
theorem bH.axy(S:Qag)(hi:δ[i]? = some Qar)(a:t.isRef=true):∃y,bH K CL b H Z (δ.set i QfJ) σ ts vs:=by
 obtain⟨fp,gp,e,r,nd,k⟩:=S.rep;obtain⟨v1,e1,e2,f,hv,d,rt,put,_⟩:=e.get hi;have:∃y,v1=.ref y:=by
  cases rt with
  | sh r=>cases a
  | tup r _=>cases a
  | pin r=>cases a
  | Ei r _ _=>cases a
  | lst r q=>exact⟨_,rfl⟩
  | ins r q=>exact⟨_,rfl⟩
  | tE r q=>exact⟨_,rfl⟩
  | dct r q=>exact⟨_,rfl⟩
 obtain⟨y,rfl⟩:=this;have c:=put Qy Qc9 (bU.pin rt);rw[iC hv]at c;subst d;exact⟨y,⟨_,gp,c,r,nd,k⟩,S.bh,S.zz,S.zh,S.new,S.tp,S.tab⟩
section
variable{o:Expr}{d:L3.D}{D:gi}{apos:Pos}{m:Nat}{c mm:Str}{fs:Cs}
def Nv(h:δ[i]? = some Qar)(k:∀y,dW X CL b fU (δ.set i QfJ) D)(a:t.isRef=true:=by rfl):dW X CL b fU δ D:=λH Z σ ts vs E S M=>by
 obtain⟨y,c⟩:=S.axy h a;exact k y H Z σ ts vs E c M
theorem aeS(n:QaI)(h:δ[i]? = some QfJ):cY X CL b Qan δ (.pin y t) (δ.set i (some (.sh (.val QdA)))):=λH Z σ ts vs Q S k=>by
 have f:i<δ.length:=by
  obtain z|z:=Nat.lt_or_ge i _
  .exact z
  simp_all
 obtain⟨v,e,c⟩:=S.move h;have hv:v=.ref y:=by
  obtain⟨_,_,_,r,_,_⟩:=c.rep;cases r with
  | cons r _=>cases r;rfl
 subst hv;have a:=(c.push (d:=.val QdA) (.val _)).set (i:=i) WD;rw[iC e,List.set_set]at a;exact cK QdF ⟨_,e,k _ H Z Qy Qy a⟩
def aax(n:Vn X m x)(hm:δ[m]? = some (some (.sh (.val QdA))))(hi:δ[i]? = some Qa5)(f:QjK)(hd:u.gM=d):dU X CL b Qan δ d δ:=λH Z σ ts vs Q S k=>by
 obtain⟨v,hv,r⟩:=S.look hm;cases r;obtain⟨fp,gp,e,h,nd,kk⟩:=S.rep;obtain⟨v1,e1,e2,j,c,g,rt,put,_⟩:=e.get hi;obtain⟨w,f2,at',a,_⟩:=rt.raw S.zh p f;replace a:=a.Uo;obtain⟨rfl,a⟩:=a;subst hd;exact cK QdF ⟨_,hv,k _ H Z Qy Qy S (a.gM S.zh λ_ _=>rfl)⟩
noncomputable def aeT(p:QcK)(h:QaG)(hi:δ1[i]? = some Qa5)(c:QjK):cY X CL b e δ t (δ1.set i (some (T.U4 p u t0))):=λH Z σ ts vs Q S k=>h H Z σ ts vs Q S λv H1 Z1 a k1 d=>k v H1 Z1 a k1 (d.loose hi c)
def as9(h:QaG)(q:δ1=δ2):cY X CL b e δ t δ2:=q▸h
structure FR(X:Cx)(CL:BC)(c m:Str)(k n:Nat){A:Type}(arg:Qai)(Pre:QP)(exc:A->Str):Prop where
 ex:∃f fd ps,Meth X.K (CL c) m f/\eV X.prog X.w X.K X.mg X.base (Kj X.prog X.w) k f fd ps (NG X.K CL n arg Pre exc)/\Binds X.K fd ps []
 room:eN k X.A
 cls:jC X.K (CL c)
theorem FR.pin{p:BM}{k:Nat}{arg:Qai}{Pre:QP}{exc:A->Str}(F:FR X CL c mm k n arg Pre exc):FR Qe0 CL c mm k n arg Pre exc:=⟨F.ex,F.room,F.cls⟩
theorem aay{Q:VK}{E:BS}(b:QfD)(h:zP X e σ H Q):zP (X.nt E) e σ H Q:=λpins s I=>
 o3 (h pins s I.oH) (λus s' ⟨vs,H',a,r,q⟩=>⟨vs,H',a.nt E,r,q⟩) λev s' z=>by simp_all
def X6{pl:QbH}{k:Nat}{arg:Qai}{Pre:QP}{exc:A->Str}(a:A)(R:QfD)(F:FR X CL c mm k n arg Pre exc)(W:Qfl)(hf:fs.lookup mm=none)(MY:arg a=[.ins c fs])(V:Pre a)(Y:QbI:=by rfl)
  (T:eval Qlg X.env=(do
   let U ← eval o X.env
   standAt apos.atName
   let (f,first) ← holding [U] (getMethod U mm pl)
   callWith pos f first (backTo pos QcX) QaX):=by rfl) :
  Pt X CL b Qlg δ (exc a) δ1:=λH Z σ ts vs S pins s I=>by
 obtain⟨f,fd,ps,M,w,hb⟩:=F.ex;have hO:zP X o σ H λv H1=>∃Z1,aM Z Z1/\bH X.K CL b H1 Z1 δ1 σ ts vs/\bW X.K CL H1 Qa4 v:=W H Z σ ts vs _ S λv H1 Z1 i k1 g r=>⟨Z1,i,g,r⟩;refine MO (pl:=pl) (fX (aay R hO pins s I) λu s1 zz=>?_) T;obtain⟨xv,H1,h,D,Z1,i,g,p⟩:=zz;have l:=p;obtain⟨e,dx,gs,rfl,ha,j⟩:=p.Gw;obtain rfl:u=Value.ref e:=D;refine ug h ha F.cls M (j.none hf) ?_;refine callWith_K0 h.xZ M.kp ?_
 let E0:XK:=λcv _ H'=>cv=.ref (CL (exc a))/\∃Z',aM Z Z'/\bH X.K CL b H' Z' δ1 σ ts vs
 have t:NG X.K CL n arg Pre exc [.ref e] H1 Qa0 E0:=⟨H1,a,.refl _,λ_ _ q _=>q,by rw[MY];exact .cons l .nil,Y,V,g.MD,λH' Z' hh ww z nw tp=>⟨rfl,by
  obtain⟨Z2,x,S2⟩:=g.grown hh g.zh ww z nw tp;exact⟨Z2,i.trans x,S2⟩⟩⟩
 have hl:=w.len _ _ _ _ t;have m:=hb s1 [.ref e] h.xZ (‹_›);refine wpAny_call (codeAny_mono (w.run X.A X.stack s1 H1 _ [.ref e] [.ref e] _ E0 F.room h.oH.Sk m (.cons rfl .nil) t) λE s' d=>?_);cases E with
 | error ev=>
  obtain⟨e1,C,a0,B,H',rfl,P,O,N,L,J,G,hC,Z',y,S'⟩:=d;cases hC;exact⟨e1,a0,B,pins,σ,H1,s1,H',Z',rfl,⟨h.oH,P,O,N,L,J,G⟩,y,S'⟩
 | ok fl=>
  cases fl with
  | ret u=>
   obtain⟨v,H',_,_,_,_,_,q⟩:=d;exact q.elim
  | next=>exact False.elim d
  | brk=>exact False.elim d
  | cont=>exact False.elim d
end
instance aAY:DecidableEq D:=λa b=>Classical.propDecidable (a=b)
mutual
inductive NV(h:Heap):D->Value->Prop where
 | int (i:Int) (t:Tok):NV h QaL Qf0
 | str (x:Str) (t:Tok):NV h Qbj (.str x t)
 | tup {a:Addr} {o:Obj} {its:CO} {m:Nat} {ds:BB}:h.get? a=some o->o.cls=.type "tuple"->o.data=.seq its m->xb h ds its.toList->NV h Qb6 Qaj
inductive xb(h:Heap):BB->B2->Prop where
 | nil:xb h [] []
 | cons {d:D} {v:Value} {ds:BB} {vs:B2}:NV h d v->xb h ds vs->xb h (d::ds) QaP
end
theorem xb.snoc{h:Heap}{ds:BB}{vs:B2}{d:D}{v:Value}(q:xb h ds vs)(r:NV h d v):xb h (ds++[d]) (vs++[v]):=
 xb.rec (motive_1:=λ_ _ _=>True) (motive_2:=λds vs _=>xb h (ds++[d]) (vs++[v])) QcY QcY Qhb (.cons r .nil) (λa _ _ b=>.cons a b) q
variable{ds:BB}{d:D}
theorem aG.snoc{ds:BB}{d:D}(h:QeK)(q:Qde):aG K CL Z (ds++[d]) (vs++[v]):=
 aG.ind (P:=λds vs=>aG K CL Z (ds++[d]) (vs++[v])) (.cons q .nil) (λa _ i=>.cons a i) h
section
variable{d:D}
def ao{i:Int}:dU X CL b Qjn δ (.int i) δ:=aQ bM
def cG:dU X CL b QjN δ (.str x) δ:=aQ fZ
def aZ(h:Nat.ble n 1000=true:=by rfl):n<=sizeLine:=Lk h
variable{l:QT}{u0 u1 u2 v:α}
def G7:za (v::l) 0=some v:=fD rfl
def HE:za (u0::v::l) 1=some v:=fD rfl
def RY:za (u0::u1::v::l) 2=some v:=fD rfl
def axz:za (u0::u1::u2::v::l) 3=some v:=fD rfl
section
variable{C:Addr}{s:Qb}(i:Nat)
def J2(h1:Nc[i]? = some x:=by rfl)(h2:QgQ:=by decide +kernel)(hd:AD x:=by decide)(kL:AE x:=by decide):Vn Qbb i x:=adI h1 h2 hd kL
def J3(h1:Nc[i]? = some x:=by rfl)(h2:Qi3:=by decide +kernel)(hd:AD x:=by decide)(kL:AE x:=by decide):Vn Qbb i x:=anN h1 h2 hd kL
def lF(h:δ[i]? = some Qbq:=by rfl)(n:Vn Qbb i x:=by exact J2 _):dU Qbb CL b Qan δ d δ:=aQ (v_ n h)
def gR(h:δ[i]? = some Qbq:=by rfl)(n:Vn Qbb i x:=by exact J3 _):dU Qbb CL b Qan δ d δ:=aQ (v_ n h)
def wB(h2:QiC:=by decide +kernel):Gl Qbb x:=ain h2
end
def axA{l:At}{od:Da}{its:CO}{sl:Cn}(h1:X.mg x=some Qaj)(h2:QkS)(c:its.size<=sizeLine:=by exact Lk rfl)(b:Vals Qf1 its.toList:=by repeat (first|exact .nil|refine .cons ⟨_,rfl⟩ ?_)):GT X x l:=asK h1 h2 c b
abbrev mO(X:Cx)(CL:BC)(b:Bx)(st:Stmt)(N:At)(arg:Qai)(Pre:QP)(res:Q4):Prop:=∀ ⦃a:A⦄,Pre a->dW X CL b Qbl QdR {nx:=λ_=>res a=.sh .non,rt:=λc _=>c=res a}
end
abbrev mK(X:Cx)(s:Str):Prop:=X.mg s=none
abbrev Bd(X:Cx)(s:Str):Prop:=X.env.kindOf s=some .cell
variable{t1 t2:T}
def ai8(g:QdQ)(h1:kQ X CL b e1 δ t1 δ1)(f1:t1.gM=d1)(h2:kQ X CL b e2 δ1 t2 δ2)(f2:t2.gM=d2)(k1:rW 60 d1)(k2:rW 60 d2):v5 X CL b QcP δ (!MS d1 d2) δ2:=λH Z σ ts vs Q S k=>
 EI (pI (Uy g) dN dN (oJ _)) (h1 H Z σ ts vs _ S λv1 H1 Z1 f h=>h2 H1 Z1 σ _ _ _ h λv2 H2 Z2 e a=>by
  have c:=a.view;have d:=a.pop.view;rw[f1]at d;rw[f2]at c;exact⟨d1,d2,d,c,k1,k2,_,rfl,k H2 Z2 (f.trans e) a.pop.pop⟩)
def aeU{p:Bool}(h:QeB):v3 X CL b (.BoolOp .And [e] pos) δ p δ1:=λH Z σ ts vs Q S k=>MN (Xf Xv) Qev
def aeV{q:Bool}(h:ye X CL b e δ true δ1)(h2:v3 X CL b Qjd δ1 q δ2):v3 X CL b Qi1 δ q δ2:=λH Z σ ts vs Q S k=>
 MN (acX Xv KO) (h H Z σ ts vs _ S λH1 Z1 c k1 f=>JR (h2 H1 Z1 σ ts vs _ f λH2 Z2 a d=>k H2 Z2 QbO d))
def ai9{i j:Int}(h1:QiU)(h2:Qbo):v5 X CL b Qi9 δ (decide (j<i)) δ2:=λH Z σ ts vs Q S k=>
 EI (pI alO dN dN (oJ _)) (h1 H Z σ ts vs _ S λv1 H1 Z1 d g=>h2 H1 Z1 σ _ _ _ g λv2 H2 Z2 c s2 a e=>by
  have f:=a.view;rw[f.sc rfl,e.sc rfl];exact⟨i,j,rfl,rfl,_,rfl,k H2 Z2 (d.trans c) a.pop⟩)
def aja{p:Bool}(h:QeB):v3 X CL b (.BoolOp .Or [e] pos) δ p δ1:=λH Z σ ts vs Q S k=>MN (acW Xv) Qev
def ajb{p q:Bool}(h:QeB)(d:p=false)(h2:v3 X CL b Qg7 δ1 q δ2):v3 X CL b QgW δ q δ2:=λH Z σ ts vs Q S k=>by
 subst d;exact MN (TU Xv KO) (h H Z σ ts vs _ S λH1 Z1 c g=>JQ (h2 H1 Z1 σ ts vs _ g λH2 Z2 a f=>k H2 Z2 QbO f))
structure Wq(n:Nat)(p:Prop):Prop where
 h:p
structure mL(K:Frag)(x:Str)(st:Stmt)(f:Addr)(fd:Qax):Prop extends Zw K x x st f fd where
 m:TY K x f
structure T3(K:Frag)(C:Addr)(x qual:Str)(st:Stmt)(f:Addr)(fd:Qax):Prop extends Zw K x qual st f fd where
 a:findIn K Q1 x=some Qdh
 i:isFn K Q0=true
abbrev wb(X:Cx)(CL:BC)(b:Bx)(st:Stmt)(N:At)(arg:Qam)(Pre:QP)(res:Q4)(out:Qam):Prop:=
 ∀a,Pre a->dW X CL b Qbl (UQ N Qb4) {nx:=λδ=>res a=.sh .non/\Keeps δ QcJ,rt:=λc δ=>c=res a/\Keeps δ QcJ}
section
variable{qual:Str}{st:Stmt}{f C:Addr}{oc kV doc pm gy ct:Value}{od an:Da}{TN:Cn}
def fn1(m:nsIn K mainGlobals x=some Qdh)(l:K.lookup f=some ⟨oc,od,.func Qlj,TN⟩)(c:codeIn K gy x=true)(k:QhN):mL K x st f Qlj:=⟨adv l c k,m⟩
def fn2(a:findIn K Q1 x=some Qdh)(i:isFn K Q0=true)(l:Qlp)(c:Qke)(k:QhN):T3 K C x qual st f Qgg:=⟨adv l c k,a,i⟩
end
abbrev X7(x qual:Str)(st:Stmt)(ps:At):Prop:=∀(kV doc pm:Value) (an:Da) (gy ct:Value),Sa ps.length λus=>bindArgs (W.fnOf x qual (pK st) Qbl Qaz Value.none kV doc pm an gy ct) {pos:=us}=pure Qe6
def ata(P:Qak)(w:World)(mg:Bn)(base:Heap){K:Frag}{h:Heap}(CL:BC)(l:K.In h)(G:h.Ns mainGlobals mg){x:Str}{st:Stmt}{f:Addr}{fd:Qax}{N ps:At}(k:Nat){A:Type}(arg:Qai)(Pre:QP)(res:Q4)(F:mL K x st f fd)(S:QbV)
  (j:∀{gy:Value} {i:Qal} {outer:DA} {s:Qb} {H:Hp} {E:XK} {b:Bx} {a:A},eN k QkP->bN (rC mJ P w K mg base N x Qaz f gy i outer s H E).Mu->Pre a →
   dW (rC mJ P w K mg base N x Qaz f gy i outer s H E).Mu CL b Qbl QdR {nx:=λ_=>res a=.sh .non,rt:=λt _=>t=res a})
  (q:X7 x x st ps:=by(repeat intro _);rfl) :
  ∃f fd g,eV P w K mg base mJ Qau f fd g QgO/\mg x=some Q0/\keepIn K Q0=true/\Binds K fd g []:=⟨f,fd,ps,Fy F.1 S λ_ _ _ _ _ _ _ _ r p=>j r ⟨⟨S.nd,rfl,.never⟩,r.units⟩ p,ov l G F.m,F.kp,F.binds λa b c d e f=>lE Qh3⟩
def atb(P:Qak)(w:World)(mg:Bn)(base:Heap){K:Frag}{h:Heap}(CL:BC)(n:K.In h)(G:h.Ns mainGlobals mg){x:Str}{st:Stmt}{f:Addr}{fd:Qax}{N ps:At}(k:Nat){A:Type}(arg:Qam)(Pre:QP)(res:Q4)(out:Qam)(F:mL K x st f fd)(S:QbV)
  (l:∀{gy:Value} {i:Qal} {outer:DA} {s:Qb} {H:Hp} {E:XK} {b:Bx},eN k QkP->bN (rC mJ P w K mg base N x Qaz f gy i outer s H E).Mu →
   wb (rC mJ P w K mg base N x Qaz f gy i outer s H E).Mu CL b st N arg Pre res out)
  (j:∀a,Z9 Qb4 QcJ:=by intro a;repeat (first|exact trivial|refine⟨rfl,?_⟩)) (q:X7 x x st ps:=by(repeat intro _);rfl) :
  ∃f fd g,eV P w K mg base mJ Qau f fd g QiK/\mg x=some Q0/\keepIn K Q0=true/\Binds K fd g []:=⟨f,fd,ps,M8 F.1 S (λa _=>j a) λ_ _ _ _ _ _ _ a r p=>l r ⟨⟨S.nd,rfl,.never⟩,r.units⟩ a p,ov n G F.m,F.kp,F.binds λa b c d e f=>lE Qh3⟩
variable{c:Str}{f:Addr}{fd:Qax}{ps:At}
def LJ(P:Qak)(w:World)(mg:Bn)(base:Heap)(CL:BC){qual:Str}{st:Stmt}(k:Nat)(arg:Qai)(Pre:QP)(res:Q4)(F:T3 K (CL c) x qual st f fd)(S:QbV)
  (j:∀{gy:Value} {h:Qal} {outer:DA} {s:Qb} {H:Hp} {E:XK} {b:Bx} {a:A},eN k (h.deeper Qci)->bN (rC mJ P w K mg base N qual Qaz f gy h outer s H E).Mu->Pre a →
   dW (rC mJ P w K mg base N qual Qaz f gy h outer s H E).Mu CL b Qbl QdR {nx:=λ_=>res a=.sh .non,rt:=λt _=>t=res a})
  (q:X7 x qual st ps:=by(repeat intro _);rfl) :
  ∃f fd g,Meth K (CL c) x f/\eV P w K mg base mJ Qau f fd g QgO/\Binds K fd g []:=⟨f,fd,ps,⟨F.a,F.i,F.kp⟩,Fy F.1 S λ_ _ _ _ _ _ _ _ r p=>j r ⟨⟨S.nd,rfl,.never⟩,r.units⟩ p,F.binds λa b c d e f=>lE Qh3⟩
def aeX(P:Qak)(w:World)(mg:Bn)(base:Heap)(CL:BC){qual:Str}{st:Stmt}(k:Nat)(arg:Qam)(Pre:QP)(res:Q4)(out:Qam)(F:T3 K (CL c) x qual st f fd)(S:QbV)
  (l:∀{gy:Value} {h:Qal} {outer:DA} {s:Qb} {H:Hp} {E:XK} {b:Bx},eN k (h.deeper Qci)->bN (rC mJ P w K mg base N qual Qaz f gy h outer s H E).Mu →
   wb (rC mJ P w K mg base N qual Qaz f gy h outer s H E).Mu CL b st N arg Pre res out)
  (j:∀a,Z9 Qb4 QcJ:=by intro a;repeat (first|exact trivial|refine⟨rfl,?_⟩)) (q:X7 x qual st ps:=by(repeat intro _);rfl) :
  ∃f fd g,Meth K (CL c) x f/\eV P w K mg base mJ Qau f fd g QiK/\Binds K fd g []:=⟨f,fd,ps,⟨F.a,F.i,F.kp⟩,M8 F.1 S (λa _=>j a) λ_ _ _ _ _ _ _ a r p=>l r ⟨⟨S.nd,rfl,.never⟩,r.units⟩ a p,F.binds λa b c d e f=>lE Qh3⟩
section
variable{y:Str}{pos':Pos}{D:gi}
theorem G8(F:α->L3.D)(f:Nat->α)(g:Gx X)(l:QbJ)(sc:QdO)(hm:Qc4)(q:Qdj)(h:dU X CL b e δ (.int n) δ1)(s:n<=1000)
  (inner:∀C s0 j f0 a (k:Nat),k<n->cY (dg X scope Nc C s0 j f0) CL a elt (some QfX::CG δ1 ix) (.sh (F (f k))) (some QfX::CG δ1 ix))
  (k:dW X CL b fU (δ1.set i (some (.lst ((((List.range n).map f).map F).map T.sh)))) D) (o:Qbm:=by exact k6 rfl)
  (r:∃c,swapsWith Qku Qfg pos.line X.env=pure c:=by exact⟨_,rfl⟩) (hs:∀x,foldedSetIterable Qfu X.env x=pure x:=by intro _;rfl)
  (h1:AD y:=by decide) (h2:AE y:=by decide) (s1:QgC:=by rfl) (s2:Qad:=by exact bC rfl) :
  dW X CL b (.Assign [.Name x pos'] Qku pos::fU) δ D:=by
 have e1:∀k:Nat,L3.D.int (0+(k:Int))=.int k:=λk=>by rw[Eb]
 refine UO (p:=λ_=>true) (gg:=λd=>T.sh (F (f d.zj.toNat))) g l sc (vY hm h We q s1 s2) QaK (λC s0 j f0 a d hd=>?_) (p7 (dG (by simp[gj];lia))) ?_ o (vZ r) hs h1 h2
 .obtain⟨k,m,rfl⟩:=n3.1 hd;have m:=rb.1 m;rw[e1];exact⟨rfl,λ_=>inner C s0 j f0 a k We⟩
 .have e2:((gj 0 (n:Int).toNat).filter λ_=>true).map (λd=>T.sh (F (f d.zj.toNat)))=(((List.range n).map f).map F).map T.sh:=by
   rw[List.filter_eq_self.2 λ_ _=>rfl];unfold gj;rw[n7,n7,n7,oo];exact tH λk _=>by show T.sh (F (f (L3.D.int (0+(k:Int))).zj.toNat))=_;rw[e1];rfl
  rw[e2];exact k
end
def ajc:Ki X "list.extend" (λx vs H Q=>amd X.K x vs H Q\/al8 X.K x vs H Q):=by
 intro pins s σ H x vs v us Q I a b h;obtain h|h:=h
 .exact ai1 _ _ _ _ _ _ _ _ _ I a b h
 .exact aiM _ _ _ _ _ _ _ _ _ I a b h
section
variable{sq:BB->L3.D}{ds:BB}{D:gi}{f:Str}{gs:B1}
def mU(n:QaI)(h0:δ[i]? = some QhO)(h:dU X CL b e δ (sq ds) δ1)(v:L3.D.ck ds=true)(h1:δ1[i]? = some Qf6)(q:tl.length+ds.length<=1000000)(k:dW X CL b fU (δ1.set i (some (.lst (tl++ds.map T.sh)))) D)
  (hd:sq=.lst\/sq=.tup:=by first|exact .inl rfl|exact .inr rfl) (u:attributeBase QaE "extend" X.env (eval QaE X.env)=eval QaE X.env:=by rfl)
  (s:AB X pb e:=by rfl)
  (d:Qfr:=by rfl) (hs:Qad:=by exact bC rfl) (w:swapsWith QkT none pos.line X.env=pure false:=by rfl) :
  dW X CL b (.Expr QkT pos::fU) δ D:=cH λH Z σ ts vs E S M=>
 rV (x8 (Le JI PySem.F.slot_list_extend PySem.F.type_list_extend ajc QdF Qay u s d hs rfl) w) (by
  obtain⟨v0,e0,t⟩:=S.look h0;refine⟨v0,e0,?_,h H Z σ ts vs _ S λv2 H1 Z1 o k1 r c=>?_⟩
  .obtain⟨_,_,rfl,f,_⟩:=t.g6;exact .inl ⟨rfl,_,f⟩
  .have go:∀{us},aG X.K CL H1 ds us->_:=λ{us} c=>r.aeE (p:=[]) (aG.tF r.tp v c) e0 h1 rfl rfl;obtain rfl|rfl:=hd
   .replace c:=c.g6;obtain⟨_,_,rfl,f,c⟩:=c;obtain⟨a,ws,l,j,g,m⟩:=go c;exact .inl ⟨a,_,ws,_,l,rfl,j,f,by rw[g,← c.length];exact p7 (vT q Wp),M.nx _ σ _ Z1 o m k⟩
   .replace c:=c.Q0;obtain⟨_,_,rfl,f,c⟩:=c;obtain⟨a,ws,l,j,g,m⟩:=go c;exact .inr ⟨a,_,ws,_,l,rfl,j,f,by rw[g,← c.length];exact p7 (vT q Wp),M.nx _ σ _ Z1 o m k⟩)
def jl(l:Qdf)(n:Qh8)(nm:QaI)(h:QbB)(h1:δ1[i]? = some (some (.pin a (.ins c gs))))(j:gs.length<1000)(k:dW X CL b fU (δ1.set i (some (.pin a (.ins c (zS f t gs))))) D)
  (hs:swapsWith e (some (.Attribute (.Name x pa) f pb)) pc.line X.env=pure false:=by rfl):dW X CL b (.Assign [.Attribute (.Name x pa) f pb] e pc::fU) δ D:=cH λH Z σ ts vs E S M=>
 rV (anj Qi5 dN hs) (h H Z σ ts vs _ S λv H' Z' z d=>by
  obtain⟨v0,e0,_⟩:=d.look h1;obtain⟨o,dx,ws,m,g,hlen,q⟩:=d.aaq (p:=[]) (f:=f) e0 h1 rfl rfl;exact⟨_,e0,o,CL c,dx,ws,m,g,l,n,hlen▸j,M.nx _ σ _ Z' z q k⟩)
end
end L3
namespace Law
open PySem L2 L3
noncomputable def top(i:Nat):Stmt:=PySem.Challenge.pw_moodtree_k45_steps_back.main.body.getD i (.Pass ⟨0,0,0,0⟩)
noncomputable def FN:Nat->AT->Int->AT
 | 0,_,_=>[]
 | n+1,es,k=>if k=-1 then [] else k::FN n es (es.getD k.toNat 0)
def bV(es:AT)(m:Int):AT:=FN QeU es QfE
def fM(es:AT):Prop:=∀k:Nat,k<es.length->-1<=es.getD k 0/\es.getD k 0<k
variable{es:AT}{k:Int}
theorem fM.at(h:fM es)(h0:0<=k)(h1:Qdo):-1<=es.getD k.toNat 0/\es.getD k.toNat 0<k:=by
 have:=h k.toNat We;lia
noncomputable def eO(ks:At)(es ss:AT):D:=.ins "Tree" [("kinds",.lst QdT),("elders",.lst Qcn),("starts",.lst QdU)]
variable{ks:At}{ss:AT}
def kR:List.lookup ("kinds":Str) [(("kinds":Str),D.lst QdT),("elders",.lst Qcn),("starts",.lst QdU)]=some (.lst QdT):=M0
def nW:List.lookup ("elders":Str) [(("kinds":Str),D.lst QdT),("elders",.lst Qcn),("starts",.lst QdU)]=some (.lst Qcn):=rfl
def RH:List.lookup ("starts":Str) [(("kinds":Str),D.lst QdT),("elders",.lst Qcn),("starts",.lst QdU)]=some (.lst QdU):=rfl
def dF(ds:BB):T.gM (.lst Qbf)=.lst ds:=by rw[T.gM,lu]
def aV(l:AT):(T.lst ((l.map D.int).map T.sh)).clean=true:=yg▸rH _
theorem U5(l:At):(T.lst ((l.map D.str).map T.sh)).clean=true:=by
 induction l with
 | nil=>rfl
 | cons x l a=>exact a
noncomputable def Be(ks:At)(es ss:AT):B1:=[("kinds",.lst ((ks.map .str).map T.sh)),("elders",.lst ((es.map .int).map T.sh)),("starts",.lst ((ss.map .int).map T.sh))]
def aaB(ks:At)(es ss:AT):T.gM (.ins "Tree" (Be ks es ss))=eO ks es ss:=by
 unfold Be;rw[T.gM,T.vO,T.vO,T.vO,dF,dF,dF];rfl
def Es(ks:At)(es ss:AT):T.fY (Be ks es ss)=true:=by
 unfold Be;rw[T.fY,T.fY,T.fY,U5,aV,aV];rfl
theorem Nx{es:AT}(h:fM es):∀(n:Nat) {k x:Int},-1<=k->k<es.length->x∈FN n es k->0<=x/\x<=k
 | 0,k,x,_,_,a=>by cases a
 | n+1,k,x,h0,h1,a=>by
  rw[FN]at a;split at a
  .cases a
  .have b:=h.at We h1;obtain rfl|a:=eu.1 a
   .lia
   .have:=Nx h n We We a;lia
theorem G9{es:AT}(h:fM es):∀(a b:Nat) {k:Int},-1<=k->k<es.length->k<a->k<b->FN a es k=FN b es k
 | 0,0,_,_,_,_,_=>rfl
 | 0,b+1,k,h0,_,e,_=>by
  rw[FN,FN,cq We]
 | a+1,0,k,h0,_,_,d=>by
  rw[FN,FN,cq We]
 | a+1,b+1,k,h0,h1,e,d=>by
  rw[FN,FN];split
  .rfl
  .have c:=h.at We h1;rw[G9 h a b c.1 We We We]
variable{m:Int}
theorem gB(h:fM es)(h0:0<=m)(h1:Qcx):bV es m=if es.getD m.toNat 0=-1 then [] else es.getD m.toNat 0::bV es QfE:=by
 have hm:=h.at h0 h1;unfold bV;rw[FN];split
 .rfl
 .rename_i b;have a:=h.at (k:=es.getD m.toNat 0) We We;rw[G9 h es.length QeU a.1 We We We]
variable{x:Int}
theorem bO(h:fM es)(h0:0<=m)(h1:Qcx)(a:x∈bV es m):0<=x/\x<m/\x<es.length:=by
 have hm:=h.at h0 h1;have:=Nx h _ hm.1 We a;lia
theorem tL{es:AT}(h:fM es):∀(n:Nat) {m x:Int},0<=m->m<es.length->m<n->x∈bV es m->∃pre,bV es m=pre++x::bV es x/\∀y∈pre,y∈bV es m/\x∈bV es y
 | 0,m,x,h0,_,d,_=>by lia
 | n+1,m,x,h0,h1,d,a=>by
  have hm:=h.at h0 h1;have e:=gB h h0 h1;generalize f:es.getD m.toNat 0=k at hm e;by_cases c:k=-1
  .rw[e,cq c]at a;cases a
  .rw[bF c]at e;rw[e]at a;obtain rfl|a:=eu.1 a
   .exact⟨[],by rw[e];rfl,λy b=>by cases b⟩
   .obtain⟨pre,p1,p2⟩:=tL h n (m:=k) We We We a;refine⟨k::pre,by rw[e,p1];rfl,λy b=>?_⟩;obtain rfl|b:=eu.1 b
    .exact⟨by rw[e];exact eU,a⟩
    .exact⟨by rw[e];exact jk _ (p2 y b).1,(p2 y b).2⟩
variable{y:Int}
theorem mV(h:fM es)(h0:0<=m)(h1:Qcx)(b:x∈bV es m)(a:y∈bV es x):y∈bV es m:=by
 obtain⟨pre,p1,_⟩:=tL h (m.toNat+1) h0 h1 We b;exact p1▸j9 _ (jk _ a)
theorem uB(h:fM es)(h0:0<=m)(h1:Qcx)(b:x∈bV es m)(a:y∈bV es m):x=y\/x∈bV es y\/y∈bV es x:=by
 obtain⟨pre,p1,p2⟩:=tL h (m.toNat+1) h0 h1 We b;rw[p1]at a;obtain a|a:=f9.1 a
 .exact .inr (.inl (p2 y a).2)
 .obtain e|a:=eu.1 a
  .exact .inl e.symm
  .exact .inr (.inr a)
theorem zX{es:AT}(h:fM es):∀(n:Nat) {m:Int},0<=m->m<es.length->m<n->(bV es m).Pairwise (λa b=>b<a)
 | 0,m,h0,_,d=>by lia
 | n+1,m,h0,h1,d=>by
  have hm:=h.at h0 h1;rw[gB h h0 h1];split
  .exact .nil
  .have hs:=zX h n (m:=es.getD m.toNat 0) We We We;refine o8.2 ⟨λx c=>?_,hs⟩;have:=bO h We We c;lia
def LK(h:fM es)(h0:0<=m)(h1:Qcx)(a:es.getD m.toNat 0 ≠ -1):es.getD m.toNat 0∈bV es m:=by
 rw[gB h h0 h1,bF a];exact eU
def nX(es:AT):Prop:=fM es/\∀k:Nat,k+1<es.length->es.getD Qau 0=k\/es.getD Qau 0∈bV es k
theorem nX.down(h:nX es){k:Nat}(c:k+1<es.length)(a:x∈bV es ((k+1:Nat):Int)):x=k\/x∈bV es k:=by
 have e:=gB h.1 (m:=((k+1:Nat))) We We;rw[oo]at e;have b:=h.2 k c;rw[e]at a;split at a
 .cases a
 .obtain a|a:=eu.1 a
  .obtain b|b:=b
   .exact .inl (a.trans b)
   .exact a ▸ .inr b
  .obtain b|b:=b
   .rw[b]at a;exact .inr a
   .exact .inr (mV h.1 We We b a)
def dh(es:AT)(u m:Int):AT:=(m::(bV es m).takeWhile QcR).reverse
def Bf(es:AT):Int->AT->Int->Prop
 | a,[],m=>a=m
 | a,x::l,m=>(0<=x/\x<es.length/\es.getD x.toNat 0=a)/\Bf es x l m
theorem Bf.snoc{es:AT}{m:Int}(h0:0<=m)(h1:Qcx):∀{l:AT} {a:Int},Bf es a l QfE->Bf es a (l++[m]) m
 | [],a,h=>⟨⟨h0,h1,Eq.symm h⟩,rfl⟩
 | x::l,a,h=>⟨h.1,Bf.snoc h0 h1 h.2⟩
variable{u:Int}
theorem EX(h:fM es)(h0:0<=m)(h1:Qcx)(c:u∈bV es m)(b:x∈(bV es m).takeWhile QcR):u∈bV es x:=by
 obtain⟨pre,p1,p2⟩:=tL h (m.toNat+1) h0 h1 We c;rw[p1]at b;have ne:∀y∈pre,decide (y≠u)=true:=λy a=>by
  have:=bO h (m:=y) (by have:=bO h h0 h1 (p2 y a).1;lia) (by have:=bO h h0 h1 (p2 y a).1;lia) (p2 y a).2;simp;lia
 have:(pre++u::bV es u).takeWhile QcR=pre:=by
  rw[US ne,List.takeWhile_cons,bF WA,n2]
 rw[this]at b;exact(p2 x b).2
def Ny(cz:CC)(es:AT)(a b:Int):Int:=((bV es a).find? (λx=>cz x&&decide (x∈bV es b))).getD (-1)
theorem Hf{α:Type}{p:α->Bool}:∀{l:QT} {x:α},l.find? p=some x->∃pre a,l=pre++x::a/\p x=true/\∀y∈pre,p y=false
 | [],_,h=>by cases h
 | y::l,x,h=>by
  rw[yn]at h;cases e:p y with
  | true=>
   rw[e]at h;cases h;exact⟨[],l,rfl,e,WA ⟩
  | false=>
   rw[e]at h;obtain⟨pre,a,h1,h2,b⟩:=Hf h;refine⟨y::pre,a,WD,h2,λz hz=>?_⟩;obtain rfl|hz:=eu.1 hz
   .exact e
   simp_all
def X8(cz:CC)(es:AT)(a b t:Int):Prop:=
 (t=-1/\∀x∈bV es a,x∈bV es b->cz x=false)\/(t∈bV es a/\t∈bV es b/\cz t=true/\∀x∈bV es a,x∈bV es b->cz x=true->x=t\/x∈bV es t)
variable{cz:CC}
theorem ajd(h:fM es){a b:Int}(h0:0<=a)(h1:a<es.length):X8 cz es a b (Ny cz es a b):=by
 unfold Ny;cases e:(bV es a).find? _ with
 | none=>
  refine .inl ⟨rfl,λx d k=>?_⟩;have:=List.find?_eq_none.1 e x d;simp_all
 | some t=>
  obtain⟨pre,i,p1,p2,j⟩:=Hf e;have g:t∈bV es a:=by simp_all
  simp at p2;refine .inr ⟨g,p2.2,p2.1,λx d k n=>?_⟩;obtain c|c|c:=uB h h0 h1 d g
  .exact .inl c
  .exact .inr c
  .exfalso;have hs:=zX h (a.toNat+1) h0 h1 We;rw[p1]at d hs;have m:=by
    have f:x∈bV es a:=p1▸d;have l:=bO h h0 h1 f;exact(bO h We We c).2.1
   obtain d|d:=f9.1 d
   .have:=j x d;lia
   .obtain e2|d:=eu.1 d
    .lia
    .have:=(o8.1 (JO.1 hs).2.1).1 x d;lia
variable{t:Int}
theorem X8.symm{a b:Int}(h:X8 cz es a b t):X8 cz es b a t:=by
 obtain⟨e,h⟩|⟨h1,h2,g,f⟩:=h
 .exact .inl ⟨e,λx d c=>h x c d⟩
 .exact .inr ⟨h2,h1,g,λx d c=>f x c d⟩
theorem X9{es:AT}{x:Int}(h:fM es):∀(n:Nat) {k:Int},-1<=k->k<es.length->FN n (es++[x]) k=FN n es k
 | 0,_,_,_=>rfl
 | n+1,k,h0,h1=>by
  rw[FN,FN];split
  .rfl
  .have a:=h.at We h1;have e:(es++[x]).getD k.toNat 0=es.getD k.toNat 0:=by
    rw[ox,Pc We,← ox]
   rw[e,X9 h n a.1 We]
def Hg{k:Nat}(h:Qdo):(es++[x]).getD k 0=es.getD k 0:=by
 rw[ox,Pc h,← ox]
theorem aje(h:fM es)(h0:0<=m)(h1:Qcx):bV (es++[x]) m=bV es m:=by
 have hm:=h.at h0 h1;unfold bV;rw[Hg We,X9 h _ hm.1 We,G9 h _ QeU hm.1 We WE We]
theorem fM.snoc(h:fM es)(h0:-1<=x)(h1:Qdp):fM (es++[x]):=λk a=>by
 simp at a;by_cases e:k<es.length
 .exact Hg e▸h k e
 .have:k=es.length:=by lia
  simp_all
theorem nX.snoc(h:nX es){k:Nat}(d:k+1=es.length)(b:x=k\/x∈bV es k):nX (es++[x]):=by
 have a:-1<=x/\x<es.length:=by
  obtain e|e:=b
  .lia
  .have:=bO h.1 We We e;lia
 refine⟨h.1.snoc a.1 a.2,λj c=>?_⟩;simp at c;rw[aje h.1 We We];by_cases e:j+1<es.length
 .exact Hg e▸h.2 j e
 .have:j=k:=by lia
  simp_all
structure ajf(es:AT)(m:Int)(L:Nat):Prop where
 le:m+1+L<=es.length
 iff:∀i:Nat,i<es.length->((m=-1\/m∈bV es i)↔m<i/\(i:Int)<m+1+L)
 eld:∀i:Nat,m<i->(i:Int)<m+1+L->m<=es.getD i 0
 beh:m+1+L=es.length\/es.getD (m+1+L).toNat 0<m
theorem U6(h:nX es)(h0:-1<=m)(h1:Qcx):∃L,ajf es m L:=by
 by_cases hm:m=-1
 .subst hm;refine⟨es.length,We,λi hi=>⟨λ_=>by lia,λ_=>.inl rfl⟩,λi hi d=>(h.1 i We).1,.inl We⟩
 .have h0:0<=m:=by lia
  have o:∀i:Nat,i<es.length->m∈bV es i->m<i:=λi hi b=>(bO h.1 We We b).2.1;have go:∀(r L:Nat),m+1+L+r=es.length->(∀i:Nat,m<i->(i:Int)<m+1+L->m∈bV es i)->∃n:Nat,m+1+n<=es.length/\(∀i:Nat,m<i->(i:Int)<m+1+n->m∈bV es i)/\(m+1+n=es.length\/m∉bV es (m+1+n)):=by
   intro r
   induction r with
   | zero=>intro L e l;exact⟨L,We,l,.inl We⟩
   | succ r q=>
    intro L e l;by_cases hw:m∈bV es (m+1+L)
    .refine q (L+1) We λi f d=>?_;by_cases hi:(i:Int)<m+1+L
     .exact l i f hi
     .have:(i:Int)=m+1+L:=by lia
      rw[this];exact hw
    .exact⟨L,We,l,.inr hw⟩
  obtain⟨L,t,k,we⟩:=go (es.length-(m.toNat+1)) 0 We (λi f d=>by lia);have out:∀(r i:Nat),(i:Int)=m+1+L+r->i<es.length->m∉bV es i:=by
   intro r
   induction r with
   | zero=>
    intro i hi x b;obtain e|e:=we
    .lia
    .rw[show(i:Int)=m+1+L by lia]at b;exact e b
   | succ r q=>
    intro i hi x b;obtain⟨j,rfl⟩:∃j,i=j+1:=⟨i-1,We⟩;obtain e|e:=h.down x b
    .lia
    .exact q j We We e
  refine⟨L,t,λi hi=>⟨λhw=>?_,λ⟨a,c⟩=>.inr (k i a c)⟩,λi f d=>?_,?_⟩
  .have b:=hw.resolve_left hm;have:=o i hi b;refine⟨this,?_⟩;by_cases A:(i:Int)<m+1+L
   .exact A
   .exact absurd b (out (i-(m.toNat+1+L)) i We hi)
  .have b:=k i f d;have hi:i<es.length:=by lia
   have e:=gB h.1 (m:=(i:Int)) We We;rw[oo]at e;rw[e]at b;split at b
   .cases b
   .rename_i B;have y:=h.1 i hi;obtain e2|b:=eu.1 b
    .lia
    .have:=bO h.1 (m:=es.getD i 0) We We b;lia
  .by_cases u:m+1+L=es.length
   .exact .inl u
   .refine .inr ?_;obtain⟨j,C⟩:∃j:Nat,(j:Int)=m+L:=⟨(m+L).toNat,We⟩;have g:j+1<es.length:=by lia
    have nw:m∉bV es ((j+1:Nat):Int):=out 0 QA We g;have v:m=j\/m∈bV es j:=by
     by_cases e:m=j
     .exact .inl e
     .exact .inr (k j We We)
    have et:(m+1+L).toNat=j+1:=by lia
    rw[et];have e:=gB h.1 (m:=((j+1:Nat):Int)) We We;rw[oo]at e;have y:=h.1 QA g;by_cases s:es.getD QA 0=-1
    .lia
    .rw[bF s]at e;rw[e]at nw;have n1:m≠es.getD QA 0:=λz=>nw (by rw[← z];exact eU);have p:m∉bV es (es.getD QA 0):=λz=>nw (jk _ z);obtain z|z:=h.2 j g
     .rw[z]at n1 p;obtain w|w:=v
      .exact absurd w n1
      .exact absurd w p
     .obtain w|w:=v
      .have:=bO h.1 (m:=(j:Int)) We We z;lia
      .rcases uB h.1 (m:=(j:Int)) We We w z with c|c|c
       .exact absurd c n1
       .exact absurd c p
       .have:=bO h.1 (m:=m) We We c;lia
theorem yp:∀(n:Nat) (es:AT) (k:Int),(FN n es k).length<=n
 | 0,_,_=>iP _
 | n+1,es,k=>by
  rw[FN];split
  .exact nZ _
  .exact Nat.succ_le_succ (yp n es _)
noncomputable def cM(ks:At)(x:Int):Bool:=decide (ks.getD x.toNat Str.empty="one")
noncomputable def jK(es:AT)(m:Int):AT:=((List.range es.length).filter (λ(i:Nat)=>decide (es.getD i 0=m))).map (λ(i:Nat)=>(i:Int))
def aeY(es:AT)(m:Int):(((List.range es.length).map λ(i:Nat)=>D.tup [.int i,.int (es.getD i 0)]).filter (λd=>decide (d.at2.zj=m))).map (λd=>T.sh d.ub)=((jK es m).map D.int).map T.sh:=by
 unfold jK;rw[yl,n7,n7,n7];rfl
def Yb(es:AT)(m:Int):(jK es m).length<=es.length:=by
 unfold jK;rw[dm];exact oy (vw _ _) WA
theorem yq(h:x∈jK es m):0<=x/\x<es.length/\es.getD x.toNat 0=m:=by
 obtain⟨i,hi,rfl⟩:=n3.1 h;obtain⟨h1,h2⟩:=oC.1 hi;have h1:=rb.1 h1;have h2:=n8 h2;exact⟨We,We,‹_› ⟩
theorem Nz(h0:0<=x)(h1:Qdp)(h2:es.getD x.toNat 0=m):x∈jK es m:=by
 refine List.mem_map.2 ⟨x.toNat,List.mem_filter.2 ⟨List.mem_range.2 We,by simpa using h2⟩,We⟩
def Hh(es:AT)(m:Int):(jK es m).Pairwise (· < ·):=by
 refine List.Pairwise.map _ (λa b h=>?_) (Po _ OT);exact Int.ofNat_lt.2 h
noncomputable def RJ(s:AT)(k:Int):Int:=if s.length=0 then k else s.getD (k % (s.length:Nat)).toNat 0 % 1000000007 / (1+k / (s.length:Nat))+k / (s.length:Nat)*k
def NA(es:AT)(m:Int)(n:Nat):Int:=(m::bV es m).getD n 0
variable{n:Nat}
theorem aji(a:n<=(bV es m).length):NA es m n=m\/NA es m n∈bV es m:=by
 cases n with
 | zero=>exact .inl rfl
 | succ n=>
  refine .inr ?_;unfold NA;show(bV es m).getD n 0∈_;rw[ox,pv We];exact List.getElem_mem _
def Hi(n:Int)(es:AT)(j:Nat):Int:=if n % 3=0 then(if 2<((bV es j).length:Int)+1 then 2 else((bV es j).length:Int)+1) else((bV es j).length:Int)+1
def NN(s:AT)(n:Int)(es:AT)(j:Nat):Int:=if ((bV es j).length:Int)=12 then(if 1 > RJ s Qgc % Hi n es j then 1 else RJ s Qgc % Hi n es j) else RJ s Qgc % Hi n es j
theorem aeZ(n:Int)(es:AT)(j:Nat):0<Hi n es j/\Hi n es j<=((bV es j).length:Int)+1:=by
 unfold Hi;split
 .split<;>lia
 .lia
theorem aoH(s:AT)(n:Int)(es:AT)(j:Nat):0<=NN s n es j/\NN s n es j<=((bV es j).length:Int):=by
 obtain⟨h1,h2⟩:=aeZ n es j;have a:=pj (RJ s Qgc) (b:=Hi n es j) We;have b:=o4 (RJ s Qgc) h1;unfold NN;split
 .split<;>lia
 .lia
def wj(s:AT)(n:Int):Nat->AT
 | 0=>[-1]
 | j+1=>wj s n j++[NA (wj s n j) j (NN s n (wj s n j) j).toNat]
theorem aoI(s:AT)(n:Int):∀j,(wj s n j).length=j+1/\nX (wj s n j)
 | 0=>⟨rfl,⟨λk a=>by
   have:(wj s n 0).length=1:=rfl;have:k=0:=by lia
   subst this;exact⟨Int.le_refl _,show(-1)<0 by decide⟩,λk a=>by
   have:(wj s n 0).length=1:=rfl;lia⟩⟩
 | j+1=>by
  obtain⟨h1,h2⟩:=aoI s n j;refine⟨by show(wj s n j++_).length=_;simp_all,?_⟩;have b:=aoH s n (wj s n j) j;exact h2.snoc h1.symm (aji We)
noncomputable def iQ(isAll:CC)(es ch:AT):Nat->AT
 | 0=>[0]
 | j+1=>if es.getD QA 0∈iQ isAll es ch j/\(isAll (es.getD QA 0)=true\/ch.getD (es.getD QA 0).toNat 0=((j+1:Nat):Int)) then iQ isAll es ch j++[((j+1:Nat):Int)] else iQ isAll es ch j
theorem kh{isAll:CC}{es ch:AT}:∀(j:Nat) {x:Int},x∈iQ isAll es ch j->0<=x/\x<=j
 | 0,x,h=>by simp_all [iQ]
 | j+1,x,h=>by
  rw[iQ]at h;split at h
  .obtain h|h:=f9.1 h
   .have:=kh j h;lia
   .have:=by simpa using h
    lia
  .have:=kh j h;lia
theorem FP{isAll:CC}{es ch:AT}:∀(j:Nat),(iQ isAll es ch j).length<=j+1
 | 0=>iP _
 | j+1=>by
  have:=FP (isAll:=isAll) (es:=es) (ch:=ch) j;rw[iQ];split
  .simp;lia
  .lia
noncomputable def aF(ks:At)(x:Int):Bool:=decide (ks.getD x.toNat Str.empty="all")
noncomputable def bE(ks:At)(x:Int):Bool:=decide (ks.getD x.toNat Str.empty="leaf")
noncomputable def uC(cz:CC)(es gC acc:AT)(m:Int):AT:=if es.getD m.toNat 0∈gC/\cz QfE=true then acc.set (es.getD m.toNat 0).toNat m else acc
def U7(cz:CC)(es gC acc ops:AT):AT:=ops.foldl (uC cz es gC) acc
theorem FQ(cz:CC)(es gC:AT):∀(ops acc:AT),(U7 cz es gC acc ops).length=acc.length
 | [],acc=>rfl
 | m::ops,acc=>by
  show(U7 _ es _ _ ops).length=_;rw[FQ _ es _ _];unfold uC;split
  .rw[ui]
  .rfl
def ae0(cz:CC)(es gC acc ops:AT)(m:Int):U7 cz es gC acc (ops++[m])=uC cz es gC (U7 cz es gC acc ops) m:=by
 unfold U7;simp
noncomputable def setStep(cz:CC)(ch acc:AT)(m:Int):AT:=if cz m=true then acc.set m.toNat (ch.getD m.toNat 0) else acc
def IF(cz:CC)(ch acc some:AT):AT:=some.foldl (setStep cz ch) acc
theorem Hj(cz:CC)(ch:AT):∀(some acc:AT),(IF cz ch acc some).length=acc.length
 | [],acc=>rfl
 | m::ops,acc=>by
  show(IF _ ch _ ops).length=_;rw[Hj _ ch _];unfold setStep;split
  .rw[ui]
  .rfl
theorem ae1{cz:CC}{es gC ch:AT} :
  ∀(ops acc:AT),(∀m∈ops,∀e,es.getD m.toNat 0=e->cz e=true->ch.getD e.toNat 0=m)->(∀e∈gC,0<=e/\e<acc.length)->∀i:Nat,i<acc.length →
   (U7 cz es gC acc ops).getD i 0=if (i:Int)∈gC/\cz i=true/\∃m∈ops,es.getD m.toNat 0=(i:Int) then ch.getD i 0 else acc.getD i 0
 | [],acc,_,_,i,_=>by
  simp;rfl
 | m::ops,acc,h,hm,i,hi=>by
  show(U7 cz es gC (uC cz es gC acc m) ops).getD i 0=_;have g:(uC cz es gC acc m).length=acc.length:=by
   unfold uC;split
   .rw[ui]
   .rfl
  rw[ae1 ops _ (λk a=>h k (jk _ a)) (by rw[g];exact hm) i (by rw[g];exact hi)];by_cases h1:(i:Int)∈gC/\cz i=true/\∃m∈ops,es.getD m.toNat 0=(i:Int)
  .rw[cq h1,cq ⟨h1.1,h1.2.1,h1.2.2.imp λk a=>⟨jk _ a.1,a.2⟩⟩]
  .rw[bF h1];unfold uC;by_cases h2:es.getD m.toNat 0∈gC/\cz QfE=true
   .rw[cq h2];have j:=hm _ h2.1;by_cases c:es.getD m.toNat 0=(i:Int)
    .rw[cq ⟨by rw[← c];exact h2.1,by rw[← c];exact h2.2,m,eU,c⟩];have:=h m eU _ c (by rw[← c];exact h2.2);rw[oo]at this;rw[this,c,oo,ox,Fs hi];rfl
    .rw[bF (λz=>by
      obtain⟨f,d,k,a,b⟩:=z;obtain e|a:=eu.1 a
      .rw[e]at b;exact c b
      .exact h1 ⟨f,d,k,a,b⟩)]
     rw[ox,JP We,← ox]
   .rw[bF h2];rw[bF (λz=>by
     obtain⟨f,d,k,a,b⟩:=z;obtain e|a:=eu.1 a
     .rw[e]at b;exact h2 ⟨by rw[b];exact f,by rw[b];exact d⟩
     .exact h1 ⟨f,d,k,a,b⟩)]
theorem NB{cz:CC}{ch:AT}:∀(some acc:AT),(∀e∈some,0<=e/\e<acc.length)->∀i:Nat,i<acc.length →
   (IF cz ch acc some).getD i 0=if (i:Int)∈some/\cz i=true then ch.getD i 0 else acc.getD i 0
 | [],acc,_,i,_=>rfl
 | m::ops,acc,hm,i,hi=>by
  show(IF _ ch _ ops).getD i 0=_;have a:(setStep cz ch acc m).length=acc.length:=by
   unfold setStep;split
   .rw[ui]
   .rfl
  rw[NB _ _ (a▸λe he=>hm e (jk _ he)) i (a▸hi)];have c:=hm m eU;by_cases h1:(i:Int)∈ops/\cz i=true
  .rw[cq h1,cq ⟨jk _ h1.1,h1.2⟩]
  .rw[bF h1];unfold setStep;by_cases h2:cz m=true
   .rw[cq h2];by_cases b:m=i
    .subst b;rw[cq ⟨ WA,h2⟩,oo,ox,Fs hi];rfl
    .rw[bF (λz=>by
      obtain e|e:=eu.1 z.1
      .exact b e.symm
      .exact h1 ⟨e,z.2⟩)]
     rw[ox,JP We,← ox]
   .rw[bF h2,bF (λz=>by
     obtain e|e:=eu.1 z.1
     .rw[← e]at h2;exact h2 z.2
     simp_all)]
def ae2{a b:AT}(c:a.length=b.length)(h:∀i:Nat,i<a.length->a.getD i 0=b.getD i 0):a=b:=by
 apply List.ext_getElem c;intro i h1 h2;have:=h i h1;rw[ox,ox,pv h1,pv h2]at this;exact this
theorem uD{isAll:CC}{es ch:AT}(g:fM es):∀(j:Nat) {k:Nat},k<=j->j<es.length->(((k:Int)∈iQ isAll es ch j)↔(k=0\/(es.getD k 0∈iQ isAll es ch j/\(isAll QeV=true\/ch.getD (es.getD k 0).toNat 0=(k:Int)))))
 | 0,k,n,h=>by
  have:k=0:=by lia
  subst this;simp[iQ]
 | j+1,k,n,h=>by
  have mono:∀{x:Int},x∈iQ isAll es ch j->x∈iQ isAll es ch QA:=λ{x} a=>by
   rw[iQ];split
   .exact nv _ a
   .exact a
  have back:∀{x:Int},x<((j+1:Nat):Int)->x∈iQ isAll es ch QA->x∈iQ isAll es ch j:=λ{x} p a=>by
   rw[iQ]at a;split at a
   .obtain z|z:=f9.1 a
    .exact z
    .have:x=((j+1:Nat):Int):=by simpa using z
     lia
   .exact a
  by_cases e:k=j+1
  .subst e;have o:=g QA h;have m:((j+1:Nat):Int)∉iQ isAll es ch j:=λz=>by
    have:=kh j z;lia
   constructor
   .intro z;rw[iQ]at z;split at z
    .rename_i c;exact .inr ⟨mono c.1,c.2⟩
    .exact absurd z m
   .rintro(z|⟨d,b⟩)
    .lia
    .rw[iQ,cq ⟨back We d,b⟩];exact j9 _ WA
  .have f:=uD (isAll:=isAll) (ch:=ch) g j (k:=k) We We;have o:=g k We;constructor
   .intro z;obtain w|⟨l,i⟩:=f.1 (back We z)
    .exact .inl w
    .exact .inr ⟨mono l,i⟩
   .rintro(z|⟨d,b⟩)
    .exact mono (f.2 QcH)
    .exact mono (f.2 (.inr ⟨back We d,b⟩))
theorem kT{isAll:CC}{es ch:AT}:∀j,(iQ isAll es ch j).Pairwise (· < ·)
 | 0=>wz _ _
 | j+1=>by
  rw[iQ];split
  .refine JO.2 ⟨kT j,wz _ _,λa d b c=>?_⟩;have:=kh j d;have:=by simpa using c
   lia
  .exact kT j
theorem Hl:∀{a b:AT},a.Pairwise (· < ·)->b.Pairwise (· < ·)->(∀x,x∈a↔x∈b)->a=b
 | [],[],_,_,_=>rfl
 | [],y::b,_,_,h=>absurd ((h y).2 WA) WA
 | x::a,[],_,_,h=>absurd ((h x).1 eU) WA
 | x::a,y::b,g,f,h=>by
  obtain⟨a1,a2⟩:=o8.1 g;obtain⟨b1,b2⟩:=o8.1 f;have e:x=y:=by
   obtain e|d:=eu.1 ((h x).1 eU)
   .exact e
   .obtain e|c:=eu.1 ((h y).2 eU)
    .exact e.symm
    .have:=a1 y c;have:=b1 x d;lia
  subst e;rw[Hl a2 b2 λz=>⟨λhz=>by
   obtain e|e:=eu.1 ((h z).1 QcF)
   .have:=a1 z hz;lia
   .exact e,λhz=>by
   obtain e|e:=eu.1 ((h z).2 QcF)
   .have:=b1 z hz;lia
   .exact e⟩]
noncomputable def k8(ss mem:AT)(a:Bool)(e:Int):Int:=if a=true/\mem.getD e.toNat 0 ≠ -1 then mem.getD e.toNat 0 else ss.getD e.toNat 0
def QB(aN isAll:CC)(es ss mem:AT)(a:Bool)(m:Int):AT:=if aN m=true then [] else if isAll m=true then jK es m else [k8 ss mem a m]
def ki(aN isAll:CC)(es ss mem:AT)(far:Bool):Nat->Bool->Int->AT
 | 0,_,m=>[m]
 | d+1,near,m=>m::(QB aN isAll es ss mem (far || near) m).flatMap (λp=>ki aN isAll es ss mem far d false p)
structure dX(aN isAll:CC)(es ss mem:AT):Prop where
 pre:nX es
 leaf:∀k:Nat,k<es.length->aN k=true->jK es k=[]
 one:∀k:Nat,k<es.length->aN k=false->isAll k=false->ss.getD k 0∈jK es k/\(mem.getD k 0=-1\/mem.getD k 0∈jK es k)
variable{aN isAll:CC}{mem:AT}
def Yc(h:QaF){u:Bool}{k:Nat}(b:Qdo)(h1:aN k=false)(h2:isAll k=false):k8 ss mem u k∈jK es k:=by
 obtain⟨a,c⟩:=h.one k b h1 h2;unfold k8;split
 .rename_i z;exact c.resolve_left z.2
 .exact a
variable{p:Int}
def tM(h:QaF){u:Bool}{k:Nat}(b:Qdo)(a:p∈QB aN isAll es ss mem u k):p∈jK es k:=by
 unfold QB at a;split at a
 .cases a
 .rename_i h1;split at a
  .exact a
  .rename_i h2;have:=by simpa using a
   exact this▸Yc h b (by simpa using h1) (by simpa using h2)
def ae3(h:QaF){u:Bool}{k:Nat}(c:Qdo)(a:p∈jK es k):p∈QB aN isAll es ss mem u k↔(isAll k=true\/k8 ss mem u k=p):=by
 have b:aN k=false:=by
  cases e:aN k with
  | false=>rfl
  | true=>rw[h.leaf k c e]at a;cases a
 unfold QB;rw[bF (by rw[b];decide)];cases e:isAll k with
 | true=>rw[cq rfl];exact⟨λ_=>.inl rfl,λ_=>a⟩
 | false=>
  rw[bF Wp,n4];exact⟨λz=>.inr z.symm,λz=>z.elim (λz=>by cases z) (λz=>z.symm)⟩
theorem cI(h:nX es)(b:p∈jK es k):0<=p/\p<es.length/\es.getD p.toNat 0=k/\k<p:=by
 have a:=yq b;have:=h.1 p.toNat We;refine⟨a.1,a.2.1,a.2.2,?_⟩;lia
theorem RK(h:QaF){far:Bool}:∀(a c:Nat) {near:Bool} {k:Nat},k<es.length->es.length<=k+a+1->es.length<=k+c+1->ki aN isAll es ss mem far a near k=ki aN isAll es ss mem far c near k
 | 0,0,_,_,_,_,_=>rfl
 | 0,c+1,near,k,d,f,_=>by
  have:QB aN isAll es ss mem (far || near) k=[]:=List.eq_nil_iff_forall_not_mem.2 λp b=>by
   have:=cI h.pre (tM h d b);lia
  rw[ki,ki,this];rfl
 | a+1,0,near,k,d,_,e=>by
  have:QB aN isAll es ss mem (far || near) k=[]:=List.eq_nil_iff_forall_not_mem.2 λp b=>by
   have:=cI h.pre (tM h d b);lia
  rw[ki,ki,this];rfl
 | a+1,c+1,near,k,d,f,e=>by
  rw[ki,ki];congr 1;rw[List.flatMap_def,List.flatMap_def];congr 1;apply tH;intro p b;have g:=cI h.pre (tM h d b);obtain⟨q,rfl⟩:∃q:Nat,p=q:=⟨p.toNat,We⟩;exact RK h a c We We We
theorem ku(h:QaF){far:Bool}:∀(d:Nat) {near:Bool} {k:Nat},k<es.length->es.length<=k+d+1->∀x:Nat,x<es.length →
  ((x:Int)∈ki aN isAll es ss mem far d near k↔(x=k\/(k<x/\es.getD x 0∈ki aN isAll es ss mem far d near k/\(isAll QeW=true\/k8 ss mem (far || (near&&decide (es.getD x 0=(k:Int)))) QeW=(x:Int)))))
 | 0,near,k,i,hd,x,g=>by
  rw[ki,n4];have u:=h.pre.1 x g;constructor
  .intro z;exact .inl We
  .rintro(z|⟨n,b,_⟩)
   .lia
   .lia
 | d+1,near,k,i,hd,x,g=>by
  have u:=h.pre.1 x g;rw[ki,eu,pw];have EY:∀p∈QB aN isAll es ss mem (far || near) k,∀y:Nat,y<es.length->((y:Int)∈ki aN isAll es ss mem far d false p↔((y:Int)=p\/(p<y/\es.getD y 0∈ki aN isAll es ss mem far d false p/\(isAll (es.getD y 0)=true\/k8 ss mem far (es.getD y 0)=(y:Int))))):=λp a y c=>by
   have l:=cI h.pre (tM h i a);obtain⟨q,rfl⟩:∃q:Nat,p=q:=⟨p.toNat,We⟩;have:=ku h (far:=far) d (near:=false) (k:=q) We We y c;rw[this];simp only[Bool.false_and,Bool.or_false];constructor
   .rintro(z|⟨n,b⟩)
    .exact .inl We
    .exact .inr ⟨We,b⟩
   .rintro(z|⟨n,b⟩)
    .exact .inl We
    .exact .inr ⟨We,b⟩
  have f:∀(dd:Nat) (p:Nat),p<es.length->∀y:Int,y∈ki aN isAll es ss mem far dd false p->(p:Int)<=y:=by
   intro dd
   induction dd with
   | zero=>intro p _ y c;rw[ki,n4]at c;lia
   | succ dd t=>
    intro p a y c;rw[ki,eu,pw]at c;obtain e|⟨q,v,c⟩:=c
    .lia
    .have l:=cI h.pre (tM h a v);obtain⟨r,rfl⟩:∃r:Nat,q=r:=⟨q.toNat,We⟩;have:=t r We y c;lia
  constructor
  .rintro(z|⟨p,a,z⟩)
   .exact .inl We
   .have j:=tM h i a;have l:=cI h.pre j;have w:p<=x:=by
     obtain⟨q,rfl⟩:∃q:Nat,p=q:=⟨p.toNat,We⟩;exact f d q We x z
    refine .inr ⟨We,?_⟩;rcases(EY p a x g).1 z with e|⟨e1,e2,A⟩
    .have o:es.getD x 0=(k:Int):=by
      rw[← e,oo]at l;exact l.2.2.1
     rw[o];refine⟨eU,?_⟩;rw[p8 rfl,Jn];have:=(ae3 h i j).1 a;rw[← e]at this;exact this
    .have s:p<=es.getD x 0:=by
      obtain⟨q,rfl⟩:∃q:Nat,p=q:=⟨p.toNat,We⟩;exact f d q We _ e2
     refine⟨jk _ (pw.2 ⟨p,a,e2⟩),?_⟩;rw[qr We,Bool.and_false,Bool.or_false];exact A
  .rintro(z|⟨n,b,m⟩)
   .exact .inl We
   .obtain e|b:=eu.1 b
    .
     have j:(x:Int)∈jK es k:=Nz We We (by rw[oo];exact e);rw[e,p8 rfl,Jn]at m;have a:=(ae3 h i j).2 m;exact .inr ⟨x,a,(EY x a x g).2 Qac⟩
    .obtain⟨p,a,b⟩:=pw.1 b;have j:=tM h i a;have l:=cI h.pre j;have s:p<=es.getD x 0:=by
      obtain⟨q,rfl⟩:∃q:Nat,p=q:=⟨p.toNat,We⟩;exact f d q We _ b
     rw[qr We,Bool.and_false,Bool.or_false]at m;exact .inr ⟨p,a,(EY p a x g).2 (.inr ⟨We,b,m⟩)⟩
theorem b9(h:QaF){far:Bool}:∀(d:Nat) {near:Bool} {k:Nat},k<es.length->∀y∈ki aN isAll es ss mem far d near k,0<=y/\y<es.length/\(y=k\/(k:Int)∈bV es y)
 | 0,near,k,g,y,a=>by
  rw[ki,n4]at a;exact⟨We,We,.inl a⟩
 | d+1,near,k,g,y,a=>by
  rw[ki,eu,pw]at a;obtain e|⟨p,j,a⟩:=a
  .exact⟨We,We,.inl e⟩
  .have l:=cI h.pre (tM h g j);obtain⟨q,rfl⟩:∃q:Nat,p=q:=⟨p.toNat,We⟩;obtain⟨f,c,i⟩:=b9 h d We y a;have b:(k:Int)∈bV es q:=by
    rw[gB h.pre.1 We We,l.2.2.1];simp
   refine⟨f,c,.inr ?_⟩;obtain e|e:=i
   .exact e▸b
   .exact mV h.pre.1 f c e b
theorem qB(h:QaF){far:Bool}:∀(d:Nat) {near:Bool} {k:Nat},k<es.length->(ki aN isAll es ss mem far d near k).Pairwise (· < ·)
 | 0,_,_,_=>by rw[ki];exact wz _ _
 | d+1,near,k,g=>by
  rw[ki];refine o8.2 ⟨λy b=>?_,List.pairwise_flatMap.2 ⟨λp f=>?_,?_⟩⟩
  .obtain⟨p,f,b⟩:=pw.1 b;have s:=cI h.pre (tM h g f);obtain⟨q,rfl⟩:∃q:Nat,p=q:=⟨p.toNat,We⟩;obtain⟨l,j,i⟩:=b9 h d (k:=q) We y b;obtain e|e:=i
   .lia
   .have:=bO h.pre.1 l j e;lia
  .have s:=cI h.pre (tM h g f);obtain⟨q,rfl⟩:∃q:Nat,p=q:=⟨p.toNat,We⟩;exact qB h d We
  .have hs:(QB aN isAll es ss mem (far || near) k).Pairwise (· < ·):=by
    unfold QB;split
    .exact .nil
    .split
     .exact Hh es k
     .exact wz _ _
   refine O0 ?_ hs;intro p r f n v x w y b;have s:=cI h.pre (tM h g f);have o:=cI h.pre (tM h g n);obtain⟨q,rfl⟩:∃q:Nat,p=q:=⟨p.toNat,We⟩;obtain⟨a,rfl⟩:∃a:Nat,r=a:=⟨r.toNat,We⟩;obtain⟨x0,B,t⟩:=b9 h d (k:=q) We x w;obtain⟨l,j,i⟩:=b9 h d (k:=a) We y b;obtain⟨L,S⟩:=U6 h.pre (m:=(q:Int)) We We;have xL:x<(q:Int)+1+L:=by
    obtain e|e:=t
    .lia
    .obtain⟨z,rfl⟩:∃z:Nat,x=z:=⟨x.toNat,We⟩;exact((S.iff z We).1 (.inr e)).2
   have u:¬ ((q:Int)∈bV es a):=λz=>by
    rw[gB h.pre.1 (m:=(a:Int)) We We,o.2.2.1,bF We]at z;obtain e|e:=eu.1 z
    .lia
    .have:=bO h.pre.1 (m:=(k:Int)) We We e;lia
   have A:(q:Int)+1+L<=a:=by
    have:=S.iff a We;by_cases c:(a:Int)<(q:Int)+1+L
    .exact absurd ((this.2 ⟨v,c⟩).resolve_left We) u
    .lia
   have:(a:Int)<=y:=by
    obtain e|e:=i
    .lia
    .have:=bO h.pre.1 l j e;lia
   lia
def Ho(isAll:CC)(es ss mem:AT)(far near:Bool)(k:Nat):Nat->AT
 | 0=>[(k:Int)]
 | j+1=>if es.getD QbS 0∈Ho isAll es ss mem far near k j/\(isAll (es.getD QbS 0)=true\/k8 ss mem (far || (near&&decide (es.getD QbS 0=(k:Int)))) (es.getD QbS 0)=((k+1+j:Nat):Int)) then Ho isAll es ss mem far near k j++[((k+1+j:Nat):Int)] else Ho isAll es ss mem far near k j
theorem yr{far near:Bool}{k:Nat}:∀(j:Nat) {x:Int},x∈Ho isAll es ss mem far near k j->k<=x/\x<=k+j
 | 0,x,h=>by simp_all [Ho]
 | j+1,x,h=>by
  rw[Ho]at h;split at h
  .obtain h|h:=f9.1 h
   .have:=yr j h;lia
   .have:=by simpa using h
    lia
  .have:=yr j h;lia
theorem zY{far near:Bool}{k:Nat}:∀j,(Ho isAll es ss mem far near k j).Pairwise (· < ·)
 | 0=>wz _ _
 | j+1=>by
  rw[Ho];split
  .refine JO.2 ⟨zY j,wz _ _,λa d b c=>?_⟩;have:=yr j d;have:=by simpa using c
   lia
  .exact zY j
theorem U9(h:QaF){far near:Bool}{k d:Nat}(f:Qdo)(hd:es.length<=k+d+1):∀(j:Nat),k+j<es.length->∀x:Nat,x<=k+j->((x:Int)∈Ho isAll es ss mem far near k j↔(x:Int)∈ki aN isAll es ss mem far d near k)
 | 0,o,x,m=>by
  rw[Ho,n4,ku h d f hd x We];constructor
  .intro z;exact .inl We
  .rintro(z|⟨z,_⟩)
   .lia
   .lia
 | j+1,o,x,m=>by
  have g:=U9 h (far:=far) (near:=near) f hd j We;have r:=h.pre.1 QbS We;have mono:∀{y:Int},y∈Ho isAll es ss mem far near k j->y∈Ho isAll es ss mem far near k QA:=λ{y} a=>by
   rw[Ho];split
   .exact nv _ a
   .exact a
  have back:∀{y:Int},y<((k+1+j:Nat):Int)->y∈Ho isAll es ss mem far near k QA->y∈Ho isAll es ss mem far near k j:=λ{y} p a=>by
   rw[Ho]at a;split at a
   .obtain z|z:=f9.1 a
    .exact z
    .have:y=((k+1+j:Nat):Int):=by simpa using z
     lia
   .exact a
  by_cases e:x=k+1+j
  .subst e;rw[ku h d f hd QbS We];have nx:((k+1+j:Nat):Int)∉Ho isAll es ss mem far near k j:=λz=>by
    have:=yr j z;lia
   have b:es.getD QbS 0∈Ho isAll es ss mem far near k j↔es.getD QbS 0∈ki aN isAll es ss mem far d near k:=by
    by_cases e0:es.getD QbS 0=-1
    .rw[e0];constructor
     .intro z;have:=yr j z;lia
     .intro z;have:=b9 h d f _ z;lia
    .obtain⟨q,n⟩:∃q:Nat,es.getD QbS 0=q:=⟨(es.getD QbS 0).toNat,We⟩;rw[n];exact g q We
   constructor
   .intro z;rw[Ho]at z;split at z
    .rename_i c;exact .inr ⟨We,b.1 c.1,c.2⟩
    .exact absurd z nx
   .rintro(z|⟨_,l,i⟩)
    .lia
    .rw[Ho,cq ⟨b.2 l,i⟩];exact j9 _ WA
  .have:=g x We;constructor
   .intro z;exact this.1 (back We z)
   .intro z;exact mono (this.2 z)
variable{far near:Bool}
theorem aaD(h:QaF){k d:Nat}(b:Qdo)(hd:es.length<=k+d+1):ki aN isAll es ss mem far d near k=Ho isAll es ss mem far near k (es.length-1-k):=by
 refine Hl (qB h d b) (zY _) λx=>?_;constructor
 .intro a;have c:=b9 h d b x a;obtain⟨q,rfl⟩:∃q:Nat,x=q:=⟨x.toNat,We⟩;exact(U9 h b hd _ We q We).2 a
 .intro a;have c:=yr _ a;obtain⟨q,rfl⟩:∃q:Nat,x=q:=⟨x.toNat,We⟩;exact(U9 h b hd _ We q We).1 a
def uE(mode:Str):Prop:=mode="new" \/ mode="near" \/ mode="far"
noncomputable def fB(mode:Str):Bool:=decide (mode="far")
noncomputable def iD(mode:Str):Bool:=decide (mode="near")
def J4(ks:At)(es ss mem:AT)(mode:Str)(m:Int):AT:=ki QaB QR es ss mem (fB mode) es.length (iD mode) m
theorem Bg(h:QaF){d k:Nat}(g:Qdo):(ki aN isAll es ss mem far d near k).length<=es.length:=by
 have hs:=qB h (far:=far) d (near:=near) g;have e:=b9 h (far:=far) d (near:=near) g;generalize ki _ _ es ss _ _ d _ k=l at hs e;have go:∀(l:List _) (lo:Int),l.Pairwise (· < ·)->(∀x∈l,lo<=x/\x<es.length)->l.length<=es.length-lo\/l=[]:=by
  intro l
  induction l with
  | nil=>intro lo _ _;exact .inr rfl
  | cons x r i=>
   intro lo h1 h2;obtain⟨a,c⟩:=o8.1 h1;have b:=h2 x eU;rcases i _ c (λy f=>⟨a y f,(h2 y (jk _ f)).2⟩) with z|z
   .left;grind
   .left;rw[z];simp;lia
 rcases go l 0 hs (λx b=>⟨(e x b).1,(e x b).2.1⟩) with z|z
 .lia
 simp_all
def jz(es:AT)(u t x:Int):Prop:=x=t\/(x∈bV es t/\(u=-1\/u∈bV es x))
theorem Hq(h:fM es)(t0:0<=t)(t1:Qbn)(a:QdI)(x:Int):x∈dh es u t↔jz es u t x:=by
 unfold dh jz;rw[IH,eu];refine or_congr Iff.rfl ?_;obtain rfl|a:=a
 .have e:(bV es t).takeWhile (λx=>decide (x ≠ -1))=bV es t:=by
   have:=US (p:=λx=>decide (x≠(-1:Int))) (l₁:=bV es t) (l₂:=[]) (λy b=>by
    have:=bO h t0 t1 b;simp;lia)
   simpa using this
  simp_all
 .have i:=bO h t0 t1 a;constructor
  .intro z;exact⟨(OR _).subset z,.inr (EX h t0 t1 a z)⟩
  .rintro⟨c,f⟩;obtain⟨pre,p1,p2⟩:=tL h (t.toNat+1) t0 t1 We a;have ne:∀y∈pre,decide (y≠u)=true:=λy b=>by
    have g:=bO h t0 t1 (p2 y b).1;have:=bO h (m:=y) We We (p2 y b).2;simp;lia
   have e:(bV es t).takeWhile QcR=pre:=by
    rw[p1,US ne,List.takeWhile_cons,bF WA,n2]
   rw[e];have k:=bO h t0 t1 c;have d:u∈bV es x:=f.resolve_left We;have j:=bO h (m:=x) We We d;rw[p1]at c;obtain z|z:=f9.1 c
   .exact z
   .obtain z|z:=eu.1 z
    .lia
    .have:=bO h (m:=u) We We z;lia
variable{t:Nat}
def Va(aN isAll:CC)(es ss mem:AT)(far near:Bool)(u:Int)(t:Nat)(x:Int):Prop:=
 (jz es u t x/\x≠t)\/x∈ki aN isAll es ss mem far es.length near t\/∃s p,jz es u t s/\s≠t/\isAll s=true/\p∈jK es s/\¬ jz es u t p/\x∈ki aN isAll es ss mem false es.length false p
def Bh(aN isAll:CC)(es ss mem:AT)(far near:Bool)(u:Int)(t:Nat)(e x:Int):Prop:=
 isAll e=true\/(k8 ss mem ((decide (e=t)&&(far || near)) || Qkw) e=x/\(e=t\/¬ jz es u t e))
theorem jW(h:fM es)(b:Qbn)(a:jz es u t x):0<=x/\x<=t:=by
 obtain e|⟨e,_⟩:=a
 .lia
 .have:=bO h We We e;lia
variable{s:Int}
theorem Yd(h:fM es)(c:Qbn)(hs:jz es u t s)(d:p∈jK es s)(a:p∈bV es t\/p=t):jz es u t p:=by
 obtain a|a:=a
 .refine .inr ⟨a,?_⟩;have f:=jW h c hs;have b:=yq d;have pb:=bO h (m:=(t:Int)) We We a;have e:=gB h (m:=p) b.1 b.2.1;rw[b.2.2,bF We]at e;have st:s∈bV es t:=mV h We We a (by rw[e];exact eU);obtain z|⟨_,z|z⟩:=hs
  .have:=bO h (m:=(t:Int)) We We st;lia
  .exact .inl z
  .exact .inr (by rw[e];exact jk _ z)
 .exact .inl a
theorem wC(h:QaF)(d:Qbn)(hs:jz es u t s)(c:s≠t)(f:p∈jK es s)(hpl:¬ jz es u t p)(b:x=p\/p∈bV es x)(x0:0<=x)(g:Qdp):¬ jz es u t x/\¬ (x=t\/(t:Int)∈bV es x):=by
 have a:=h.pre.1;have i:=jW a d hs;have pb:=cI h.pre f;have up:=λz=>hpl (Yd a d hs f z);have key:¬ (x=t\/(t:Int)∈bV es x):=by
  rintro(z|z)
  .rw[z]at b;obtain e|e:=b
   .exact up (.inr e.symm)
   .exact up (.inl e)
  .obtain e|e:=b
   .rw[e,gB a (m:=p) pb.1 pb.2.1,pb.2.2.1,bF We]at z;obtain w|w:=eu.1 z
    .exact c w.symm
    .have:=bO a (m:=s) We We w;lia
   .obtain w|w|w:=uB a x0 g z e
    .exact up (.inr w.symm)
    .rw[gB a (m:=p) pb.1 pb.2.1,pb.2.2.1,bF We]at w;obtain v|v:=eu.1 w
     .exact c v.symm
     .have:=bO a (m:=s) We We v;lia
    .exact up (.inl w)
 refine⟨λz=>?_,key⟩;obtain z|⟨z,_⟩:=z
 .exact key QcH
 .obtain e|e:=b
  .rw[e]at z;exact up QcH
  .exact up (.inl (mV a We We z e))
theorem NC(h:QaF)(c:Qbn)(x:Nat)(g:Qdp) :
  Va aN isAll es ss mem far near u t x↔(jz es u t x\/(Va aN isAll es ss mem far near u t QeW/\¬ jz es u t x/\Bh aN isAll es ss mem far near u t QeW x)):=by
 have i:=h.pre.1;have N:=i x g;have f:=λy F=>b9 h (far:=far) (near:=near) es.length c y F;have GS:(t:Int)∈ki aN isAll es ss mem far es.length near t:=(ku h es.length c We t c).2 Qac;have n:∀y:Int,y∈ki aN isAll es ss mem far es.length near t->y≠t->¬ jz es u t y:=λy F L z=>by
  obtain⟨D,C,B⟩:=f y F;have:=jW i c z;obtain e|e:=B
  .exact L e
  .have:=bO i D C e;lia
 constructor
 .rintro(z|z|⟨s,p,a,l,j,o,A,m⟩)
  .exact .inl z.1
  .by_cases e:(x:Int)=t
   .exact .inl (.inl e)
   .refine .inr ?_;have I:=z;rw[ku h es.length c We x g]at I;obtain⟨r,d,b⟩:=I.resolve_left We;refine⟨.inr (.inl d),n x z e,?_⟩;unfold Bh;obtain b|b:=b
    .exact .inl b
    .refine .inr ⟨?_,?_⟩
     .rw[p8 d,Jn];rw[← b];congr 1;cases far<;>cases near<;>simp
     .by_cases e2:es.getD x 0=t
      .exact .inl e2
      .exact .inr (n _ d e2)
  .have pb:=cI h.pre o;have K:=jW i c a;obtain⟨q,rfl⟩:∃q:Nat,p=q:=⟨p.toNat,We⟩;obtain⟨D,C,B⟩:=b9 h (far:=false) (near:=false) es.length (k:=q) We x m;obtain⟨M,P⟩:=wC h c a l o A B D C;refine .inr ⟨?_,M,?_⟩
   .rw[ku h es.length (k:=q) We We x g]at m;obtain w|⟨_,d,_⟩:=m
    .subst w;have:es.getD x 0=s:=by have:=pb.2.2.1;rwa [oo]at this
     rw[this];exact .inl ⟨a,l⟩
    .exact .inr (.inr ⟨s,q,a,l,j,o,A,d⟩)
   .rw[ku h es.length (k:=q) We We x g]at m;unfold Bh;obtain w|⟨_,d,b⟩:=m
    .subst w;have:es.getD x 0=s:=by have:=pb.2.2.1;rwa [oo]at this
     rw[this];exact .inl j
    .obtain b|b:=b
     .exact .inl b
     .obtain⟨e0,e1,e2⟩:=b9 h (far:=false) (near:=false) es.length (k:=q) We _ d;obtain⟨p1,p2⟩:=wC h c a l o A e2 e0 e1;refine .inr ⟨?_,.inr p1⟩;rw[qr (λz=>p2 QcH),qr Qld];rw[← b];congr 1;simp
 .rintro(z|⟨a,l,j⟩)
  .by_cases e:(x:Int)=t
   .rw[e];exact .inr (.inl GS)
   .exact .inl ⟨z,e⟩
  .unfold Bh at j;obtain a|a|⟨s,p,r,d,b,E,J,w6⟩:=a
   .
    have K:=jW i c a.1;have H:isAll QeW=true:=j.elim id (λw=>w.2.elim (λv=>absurd v a.2) (λv=>absurd a.1 v));have O:(x:Int)∈jK es QeW:=Nz We We (by rw[oo]);exact .inr (.inr ⟨_,x,a.1,a.2,H,O,l,(ku h es.length g We x g).2 Qac⟩)
   .obtain⟨e0,e1,e2⟩:=f _ a;have G:(t:Int)<=es.getD x 0:=by
     obtain e|e:=e2
     .lia
     .have:=bO i e0 e1 e;lia
    refine .inr (.inl ((ku h es.length c We x g).2 (.inr ⟨We,a,?_⟩)));obtain w|⟨w,_⟩:=j
    .exact .inl w
    .refine .inr ?_;rw[← w,p8 a,Jn];congr 1;cases far<;>cases near<;>simp
   .have pb:=cI h.pre E;have K:=jW i c r;obtain⟨q,rfl⟩:∃q:Nat,p=q:=⟨p.toNat,We⟩;obtain⟨e0,e1,e2⟩:=b9 h (far:=false) (near:=false) es.length (k:=q) We _ w6;obtain⟨p1,p2⟩:=wC h c r d E J e2 e0 e1;have G:(q:Int)<=es.getD x 0:=by
     obtain e|e:=e2
     .lia
     .have:=bO i e0 e1 e;lia
    refine .inr (.inr ⟨s,q,r,d,b,E,J,(ku h es.length (k:=q) We We x g).2 (.inr ⟨We,w6,?_⟩)⟩);obtain w|⟨w,_⟩:=j
    .exact .inl w
    .refine .inr ?_;rw[← w,qr (λz=>p2 QcH),qr Qld];congr 1;simp
def vl(aN isAll:CC)(es ss mem:AT)(far near:Bool)(u:Int)(t:Nat):AT:=
 (dh es u t).dropLast++ki aN isAll es ss mem far es.length near t++((dh es u t).dropLast.filter Qkg).flatMap (λs=>((jK es s).filter QiL).flatMap (λp=>ki aN isAll es ss mem false es.length false p))
def CW(es:AT)(u t:Int):(dh es u t).dropLast=((bV es t).takeWhile QcR).reverse:=by
 unfold dh;rw[rh,List.dropLast_concat]
theorem yt(h:fM es)(d:Qbn)(b:x∈(dh es u t).dropLast):x∈dh es u t/\x≠t:=by
 have a:=b;rw[CW,IH]at b;have c:=(OR _).subset b;have:=bO h We We c;exact⟨List.dropLast_subset _ a,We⟩
def Ye(a:x∈dh es u t)(b:x≠t):x∈(dh es u t).dropLast:=by
 rw[CW,IH];unfold dh at a;rw[IH]at a;exact(eu.1 a).resolve_left b
theorem FT(h:QaF)(b:Qbn)(j:QdI)(x:Int):x∈vl aN isAll es ss mem far near u t↔Va aN isAll es ss mem far near u t x:=by
 have li:=Hq h.pre.1 We We j;unfold vl Va;rw[f9,f9,or_assoc];refine or_congr ?_ (or_congr Iff.rfl ?_)
 .constructor
  .intro z;obtain⟨a,c⟩:=yt h.pre.1 b z;simp_all
  .rintro⟨a,c⟩;exact Ye ((li x).2 a) c
 .simp only[pw,oC];constructor
  .rintro⟨s,⟨s1,s2⟩,p,⟨p1,p2⟩,z⟩;obtain⟨a,c⟩:=yt h.pre.1 b s1;refine⟨s,p,(li s).1 a,c,s2,p1,λw=>?_,z⟩;simp_all
  .rintro⟨s,p,i,g,f,e,k,d⟩;refine⟨s,⟨Ye ((li s).2 i) g,f⟩,p,⟨e,?_⟩,d⟩;simp_all
variable{l:AT}
theorem wF(h:l.Pairwise (· < ·)):l.Nodup:=List.Pairwise.imp (λ{a b} c=>by lia) h
theorem CY(h:QaF)(j:Qbn)(Y:QdI):(vl aN isAll es ss mem far near u t).Nodup:=by
 have d:=h.pre.1;have li:=Hq d (u:=u) (t:=(t:Int)) We We Y;have E:(dh es u t).dropLast.Nodup:=by
  rw[CW];have hs:=zX d (t+1) (m:=(t:Int)) We We We;exact List.pairwise_reverse.2 (List.Pairwise.imp (λ{a b} (MY:b<a)=>(by lia:b≠a)) (List.Pairwise.sublist (OR _) hs))
 have side:∀s∈(dh es u t).dropLast.filter Qkg,∀p∈(jK es s).filter QiL,jz es u t s/\s≠t/\p∈jK es s/\¬ jz es u t p:=λs hs p n=>by
  obtain⟨s1,s2⟩:=oC.1 hs;obtain⟨p1,p2⟩:=oC.1 n;obtain⟨a,c⟩:=yt d j s1;refine⟨(li s).1 a,c,p1,λw=>?_⟩;rw[p8 ((li p).2 w)]at p2;cases p2
 have wit:∀s p x,jz es u t s->s≠t->p∈jK es s->¬ jz es u t p->x∈ki aN isAll es ss mem false es.length false p->0<=x/\x<es.length/\(x=p\/p∈bV es x):=λs p x _ _ n _ v=>by
  have pb:=cI h.pre n;have J:∃q:Nat,p=q:=⟨p.toNat,by
   have:=pb.1;lia⟩
  obtain⟨q,rfl⟩:=J;exact b9 h es.length We x v
 unfold vl;refine oT.2 ⟨oT.2 ⟨E,wF (qB h _ j),λa M b B e=>?_⟩,?_,λa M b B e=>?_⟩
 .subst e;obtain⟨a1,a2⟩:=yt d j M;have lb:=jW d j ((li a).1 a1);obtain⟨U,T,S⟩:=b9 h es.length j a B;obtain e|e:=S
  .exact a2 e
  .have:=bO d U T e;lia
 .refine List.pairwise_flatMap.2 ⟨λs hs=>List.pairwise_flatMap.2 ⟨λp n=>?_,?_⟩,?_⟩
  .obtain⟨_,_,p1,_⟩:=side s hs p n;have pb:=cI h.pre p1;have J:∃q:Nat,p=q:=⟨p.toNat,by
    have:=pb.1;lia⟩
   obtain⟨q,rfl⟩:=J;exact wF (qB h _ We)
  .have K:((jK es s).filter QiL).Pairwise (· < ·):=Po _ (Hh es s);refine O0 ?_ K;intro p l n A nB x v y G e;subst e;obtain⟨s1,s2,p1,p2⟩:=side s hs p n;obtain⟨_,_,i,r⟩:=side s hs l A;obtain⟨x0,D,C⟩:=wit s p x s1 s2 p1 p2 v;obtain⟨_,_,k⟩:=wit s l x s1 s2 i r G;have pb:=cI h.pre p1;have f:=cI h.pre i;have N:=jW d j s1;have R:∀z,z∈bV es l->z<=s:=λz hz=>by
    rw[gB d (m:=l) f.1 f.2.1,f.2.2.1,bF We]at hz;obtain w|w:=eu.1 hz
    .lia
    .have:=bO d (m:=s) We We w;lia
   have P:∀z,z∈bV es p->z<=s:=λz hz=>by
    rw[gB d (m:=p) pb.1 pb.2.1,pb.2.2.1,bF We]at hz;obtain w|w:=eu.1 hz
    .lia
    .have:=bO d (m:=s) We We w;lia
   obtain e|e:=C
   .obtain g|g:=k
    .lia
    .rw[e]at g;have:=P _ g;lia
   .obtain g|g:=k
    .rw[g]at e;have:=R _ e;lia
    .obtain w|w|w:=uB d x0 D e g
     .lia
     .have:=R _ w;lia
     .have:=P _ w;lia
  .have L:((dh es u t).dropLast.filter Qkg).Nodup:=Po _ E;refine O0 ?_ L;intro s s' hs Z V x v y G e;subst e;obtain⟨p,n,v⟩:=pw.1 v;obtain⟨l,A,G⟩:=pw.1 G;obtain⟨s1,s2,p1,p2⟩:=side s hs p n;obtain⟨o,I,i,r⟩:=side s' Z l A;obtain⟨x0,D,C⟩:=wit s p x s1 s2 p1 p2 v;obtain⟨_,_,k⟩:=wit s' l x o I i r G;have pb:=cI h.pre p1;have f:=cI h.pre i;have N:=jW d j s1;have H:=jW d j o;have up:∀{s p s':Int},jz es u t s->p∈jK es s->¬ jz es u t p->jz es u t s'->0<=s'->¬ (p=s'\/p∈bV es s'):=λ{s p s'} ls pin np F _ z=>by
    refine np ?_;obtain z|z:=z
    .rw[z];exact F
    .refine Yd d j ls pin (.inl ?_);obtain w|⟨w,_⟩:=F
     .rw[← w];exact z
     .exact mV d We We w z
   have d1:¬ p∈bV es l:=λz=>by
    rw[gB d (m:=l) f.1 f.2.1,f.2.2.1,bF We]at z;exact up s1 p1 p2 o H.1 ((eu.1 z))
   have d2:¬ l∈bV es p:=λz=>by
    rw[gB d (m:=p) pb.1 pb.2.1,pb.2.2.1,bF We]at z;exact up o i r s1 N.1 ((eu.1 z))
   have O:p≠l:=λz=>V (by rw[← pb.2.2.1,← f.2.2.1,z]);obtain e|e:=C
   .obtain g|g:=k
    .exact O (e.symm.trans g)
    .rw[e]at g;exact d2 g
   .obtain g|g:=k
    .rw[g]at e;exact d1 e
    .obtain w|w|w:=uB d x0 D e g
     .exact O w
     .exact d1 w
     .exact d2 w
 .subst e;obtain⟨s,hs,B⟩:=pw.1 B;obtain⟨p,n,B⟩:=pw.1 B;obtain⟨s1,s2,p1,p2⟩:=side s hs p n;obtain⟨x0,D,C⟩:=wit s p a s1 s2 p1 p2 B;obtain⟨X,W⟩:=wC h j s1 s2 p1 p2 C x0 D;obtain z|z:=f9.1 M
  .exact X ((li a).1 (yt d j z).1)
  .exact W ((b9 h es.length j a z).2.2.elim .inl .inr)
def Oy(isAll:CC)(es ss mem:AT)(far near:Bool)(iV:AT)(t:Nat)(r:AT×AT)(k:Nat):Bool:=
 decide ((k:Int)∈iV) || (decide (es.getD k 0∈r.1)&&(isAll QeV || (decide (k8 ss mem ((decide (es.getD k 0=t)&&(far || near)) || (decide (es.getD k 0∈r.2)&&far)) QeV=k)&&(decide (es.getD k 0=t) || !decide (es.getD k 0∈iV)))))
def EZ(isAll:CC)(es ss mem:AT)(far near:Bool)(iV:AT)(t:Nat):Nat->AT×AT
 | 0=>([],[])
 | k+1=>if Oy isAll es ss mem far near iV t Qlv k=true
   then((EZ isAll es ss mem far near iV t k).1++[(k:Int)],if (k:Int)=t\/es.getD k 0∈(EZ isAll es ss mem far near iV t k).2 then(EZ isAll es ss mem far near iV t k).2++[(k:Int)] else(EZ isAll es ss mem far near iV t k).2)
   else EZ isAll es ss mem far near iV t k
theorem Yg{iV:AT}:∀(k:Nat),(∀x∈(EZ isAll es ss mem far near iV t k).1,0<=x/\x<k)/\(∀x∈(EZ isAll es ss mem far near iV t k).2,0<=x/\x<k)/\(EZ isAll es ss mem far near iV t k).1.Pairwise (· < ·)/\(EZ isAll es ss mem far near iV t k).1.length<=k/\(EZ isAll es ss mem far near iV t k).2.length<=k
 | 0=>⟨λx c=>(by cases c),λx c=>(by cases c),List.Pairwise.nil,iP _,iP _⟩
 | k+1=>by
  obtain⟨h1,h2,d,i,h⟩:=Yg (iV:=iV) k;rw[EZ];split
  .have q:∀{l:AT},(∀x∈l,0<=x/\x<(k:Int))->∀x∈l++[(k:Int)],0<=x/\x<((k+1:Nat):Int):=λ{l} e x c=>by
    obtain z|z:=f9.1 c
    .have:=e x z;lia
    .have:x=(k:Int):=by simpa using z
     lia
   refine⟨q h1,?_,JO.2 ⟨d,wz _ _,λa g b f=>?_⟩,by show(_++[_]).length<=_;rw[n6,wy];lia,?_⟩
   .dsimp only;split
    .exact q h2
    .intro x c;have:=h2 x c;lia
   .have:b=(k:Int):=by simpa using f
    have:=h1 a g;lia
   .dsimp only;split
    .rw[n6,wy];lia
    .lia
  .exact⟨λx c=>(by have:=h1 x c;lia),λx c=>(by have:=h2 x c;lia),d,We,We⟩
theorem Vb(h:QaF)(c:Qbn)(M:QdI){iV:AT}(D:∀x,x∈iV↔jz es u t x):∀(k:Nat),k<=es.length->∀x:Nat,x<k →
  (((x:Int)∈(EZ isAll es ss mem far near iV t k).1↔Va aN isAll es ss mem far near u t x)/\((x:Int)∈(EZ isAll es ss mem far near iV t k).2↔(x:Int)∈ki aN isAll es ss mem far es.length near t))
 | 0,_,x,L=>by lia
 | k+1,V,x,L=>by
  have j:=h.pre.1;have v:=Vb h c M D k We;obtain⟨b1,b2,b3,_,_⟩:=Yg (isAll:=isAll) (es:=es) (ss:=ss) (mem:=mem) (far:=far) (near:=near) (iV:=iV) (t:=t) k;have O:=j k We;have b:=λy K=>b9 h (far:=far) (near:=near) es.length c y K;have J:es.getD k 0∈(EZ isAll es ss mem far near iV t k).1↔Va aN isAll es ss mem far near u t QeV:=by
   by_cases e0:es.getD k 0=-1
   .rw[e0];constructor
    .intro z;have:=b1 _ z;lia
    .rintro(z|z|⟨s,p,f,a,R,F,P,E⟩)
     .have:=jW j c z.1;lia
     .have:=b _ z;lia
     .have pb:=cI h.pre F;have d:∃q:Nat,p=q:=⟨p.toNat,by
       have:=pb.1;lia⟩
      obtain⟨q,rfl⟩:=d;have:=b9 h (far:=false) (near:=false) es.length (k:=q) We _ E;lia
   .obtain⟨q,d⟩:∃q:Nat,es.getD k 0=q:=⟨(es.getD k 0).toNat,We⟩;rw[d];exact(v q We).1
  have r:es.getD k 0∈(EZ isAll es ss mem far near iV t k).2↔es.getD k 0∈ki aN isAll es ss mem far es.length near t:=by
   by_cases e0:es.getD k 0=-1
   .rw[e0];constructor
    .intro z;have:=b2 _ z;lia
    .intro z;have:=b _ z;lia
   .obtain⟨q,d⟩:∃q:Nat,es.getD k 0=q:=⟨(es.getD k 0).toNat,We⟩;rw[d];exact(v q We).2
  have l:Oy isAll es ss mem far near iV t Qlv k=true↔Va aN isAll es ss mem far near u t k:=by
   rw[NC h c k We];unfold Oy Bh;simp only[Bool.or_eq_true,oD,FC,Bool.not_eq_true',decide_eq_false_iff_not,D,J];have e1:decide (es.getD k 0∈(EZ isAll es ss mem far near iV t k).2)=decide Qky:=by rw[decide_eq_decide];exact r
   rw[e1,Bool.and_comm (decide Qky) far];constructor
   .rintro(z|⟨f,a⟩)
    .exact .inl z
    .by_cases C:jz es u t k
     .exact .inl C
     .exact .inr ⟨f,C,a⟩
   .rintro(z|⟨f,_,a⟩)
    .exact .inl z
    .exact .inr ⟨f,a⟩
  by_cases e:x=k
  .subst e;have n1:(x:Int)∉(EZ isAll es ss mem far near iV t x).1:=λz=>by have:=b1 _ z;lia
   have B:(x:Int)∉(EZ isAll es ss mem far near iV t x).2:=λz=>by have:=b2 _ z;lia
   have i:(x:Int)∈ki aN isAll es ss mem far es.length near t↔(Va aN isAll es ss mem far near u t x/\((x:Int)=t\/es.getD x 0∈ki aN isAll es ss mem far es.length near t)):=by
    constructor
    .intro z;refine⟨.inr QcH,?_⟩;rw[ku h es.length c We x We]at z;obtain z|z:=z
     .exact .inl We
     .exact .inr z.2.1
    .rintro⟨f,a⟩;obtain a|a:=a
     .rw[ku h es.length c We x We];exact .inl We
     .have N:(t:Int)<=es.getD x 0:=by
       obtain⟨w0,o,n⟩:=b _ a;obtain w|w:=n
       .lia
       .have:=bO j w0 o w;lia
      obtain w|w|⟨s,p,o,n,U,A,H,w6⟩:=f
      .have:=jW j c w.1;lia
      .exact w
      .exfalso;have pb:=cI h.pre A;have d:∃q:Nat,p=q:=⟨p.toNat,by
        have:=pb.1;lia⟩
       obtain⟨q,rfl⟩:=d;obtain⟨v0,v1,v2⟩:=b9 h (far:=false) (near:=false) es.length (k:=q) We _ w6;obtain⟨_,I⟩:=wC h c o n A H v2 v0 v1;refine I (.inr ?_);obtain⟨T,S,G⟩:=b _ a;rw[gB j (m:=(x:Int)) We We,oo,bF We];obtain y|y:=G
       .rw[y];exact eU
       .exact jk _ y
   rw[EZ];by_cases g:Oy isAll es ss mem far near iV t (EZ isAll es ss mem far near iV t x) x=true
   .rw[cq g];refine⟨⟨λ_=>l.1 g,λ_=>j9 _ WA⟩,?_⟩;rw[i];dsimp only;by_cases hd:(x:Int)=t\/es.getD x 0∈(EZ isAll es ss mem far near iV t x).2
    .rw[cq hd];exact⟨λ_=>⟨l.1 g,hd.imp id r.1⟩,λ_=>j9 _ WA⟩
    .rw[bF hd];exact⟨λz=>absurd z B,λz=>absurd (z.2.imp id r.2) hd⟩
   .rw[bF g];exact⟨⟨λz=>absurd z n1,λz=>absurd (l.2 z) g⟩,⟨λz=>absurd z B,λz=>absurd (l.2 (i.1 z).1) g⟩⟩
  .have:=v x We;rw[EZ];split
   .constructor
    .rw[← this.1];constructor
     .intro z;obtain w|w:=f9.1 z
      .exact w
      .have:(x:Int)=k:=by simpa using w
       lia
     .intro z;exact nv _ z
    .rw[← this.2];dsimp only;split
     .constructor
      .intro z;obtain w|w:=f9.1 z
       .exact w
       .have:(x:Int)=k:=by simpa using w
        lia
      .intro z;exact nv _ z
     .exact Iff.rfl
   .exact this
theorem Tx(h:QaF)(a:Qbn)(c:Va aN isAll es ss mem far near u t x):0<=x/\x<es.length:=by
 obtain z|z|⟨s,p,i,g,f,b,e,w6⟩:=c
 .have:=jW h.pre.1 a z.1;lia
 .have:=b9 h _ a x z;lia
 .have pb:=cI h.pre b;have d:∃q:Nat,p=q:=⟨p.toNat,by
   have:=pb.1;lia⟩
  obtain⟨q,rfl⟩:=d;have:=b9 h _ We _ w6;lia
theorem ae6(h:QaF)(a:Qbn)(b:QdI){iV:AT}(c:∀x,x∈iV↔jz es u t x):((EZ isAll es ss mem far near iV t es.length).1).Perm (vl aN isAll es ss mem far near u t):=by
 obtain⟨b1,_,b3,_,_⟩:=Yg _;refine(List.perm_ext_iff_of_nodup (wF b3) (CY h a b)).2 λx=>?_;rw[FT h a b];constructor
 .intro z;have:=b1 x z;obtain⟨q,rfl⟩:∃q:Nat,x=q:=⟨x.toNat,We⟩;exact(Vb h a b c _ WA q We).1.1 z
 .intro z;have:=Tx h a z;obtain⟨q,rfl⟩:∃q:Nat,x=q:=⟨x.toNat,We⟩;exact(Vb h a b c _ WA q We).1.2 z
theorem Bj{α:Type}{f:α->AT}{c:Nat}:∀{l:QT},(∀x∈l,(f x).length<=c)->(l.flatMap f).length<=l.length*c
 | [],_=>by simp
 | x::l,h=>by
  rw[w3,n6,o1];have:=Bj λy a=>h y (jk _ a);have:=h x eU;lia
variable{α:Type}
theorem aaE(l:QT):cutD l none (some (-1))=l.dropLast:=by
 unfold cutD;have e1:HT.JD l.length 0 none=0:=rfl;have e2:HT.JD l.length l.length (some (-1))=l.length-1:=by
  unfold HT.JD;lia
 rw[e1,e2,List.drop_zero,Nat.sub_zero,List.dropLast_eq_take]
def NF(h:cM ks x=true):aF ks x=false:=by
 have h:=n8 h;unfold aF;rw[h];rfl
variable{ch:AT}
theorem aaF{some:AT}(g:fM es)(q:es.length=n)(p:0<n)(hm:mem.length=n)(s:ch.length=n)(j:∀k:Nat,k<n->ks.getD k Str.empty="one"->ch.getD k 0∈jK es k)
  (hs:∀x∈some,x∈iQ QR es ch QcB):U7 QaC es some mem Qhd=IF QaC ch mem some:=by
 have o:∀m∈iQ QR es ch QcB,0<=m/\m<n:=λm a=>by
  have:=kh _ a;lia
 have b:∀m∈some,0<=m/\m<mem.length:=λm a=>by
  have:=o m (hs m a);lia
 have key:∀m∈iQ QR es ch QcB,∀e,es.getD m.toNat 0=e->cM ks e=true->0<=e->ch.getD e.toNat 0=m:=λm a e he d e0=>by
  have r:=o m a;obtain⟨k,rfl⟩:∃k:Nat,m=k:=⟨m.toNat,We⟩;rw[oo]at he;rcases(uD g (n-1) (k:=k) We We).1 a with z|⟨_,z⟩
  .subst z;have:=g 0 We;lia
  .rw[he]at z;obtain z|z:=z
   .rw[NF d]at z;cases z
   .exact z
 apply ae2
 .rw[FQ,Hj]
 .intro i hi;rw[FQ]at hi;rw[NB some mem b i hi];have h1:=ae1 (cz:=λx=>cM ks x&&decide (0<=x)) (es:=es) (gC:=some) (ch:=ch) Qhd mem (λm a e he d=>by
   rw[oD,FC]at d;exact key m a e he d.1 d.2) b i hi
  have h2:U7 (λx=>cM ks x&&decide (0<=x)) es some mem Qhd=U7 QaC es some mem Qhd:=by
   unfold U7;congr 1;funext acc m;unfold uC;by_cases h:es.getD m.toNat 0∈some
   .have:=b _ h;simp only[p8 this.1,Jn]
   .rw[bF (λz=>h z.1),bF (λz=>h z.1)]
  rw[← h2,h1];by_cases c:(i:Int)∈some/\cM ks i=true
  .rw[cq c,cq ?_];refine⟨c.1,by rw[c.2,p8 We];rfl,?_⟩;have f:=yq (j i We (by have:=n8 c.2;rwa [oo]at this));obtain⟨k,l⟩:∃k:Nat,ch.getD i 0=k:=⟨(ch.getD i 0).toNat,We⟩;rw[l]at f;rw[oo]at f;refine⟨(k:Int),(uD g QcB (k:=k) We We).2 (.inr ⟨by rw[f.2.2];exact hs _ c.1,.inr (by rw[f.2.2,oo,l])⟩),by rw[oo];exact f.2.2⟩
  .rw[bF c,bF (λz=>c ⟨z.1,by have:=z.2.1;rw[oD]at this;exact this.1⟩)]
theorem Yh{isAll:CC}{es ss mem:AT}:∀j,Ho isAll es ss mem false false 0 j=iQ isAll es ss j
 | 0=>rfl
 | j+1=>by
  rw[Ho,Yh j];have e:0+1+j=j+1:=by lia
  rw[e];rfl
def Hr(cz:CC)(es ch:AT):Prop:=∀k:Nat,k<es.length->cz k=true->ch.getD k 0∈jK es k
def NK(aN cz isAll:CC)(es:AT):Prop:=∀k:Nat,k<es.length->(aN k=true/\cz k=false/\isAll k=false/\jK es k=[])\/(aN k=false/\cz k=true/\isAll k=false)\/(aN k=false/\cz k=false/\isAll k=true)
theorem Yi(b:fM es):∀(f:Nat) {t e:Int},0<=t->t<es.length->t<f->e∈bV es t->∃y:Int,(y=t\/y∈bV es t)/\0<=y/\y<es.length/\es.getD y.toNat 0=e
 | 0,t,e,h0,_,hf,_=>by lia
 | f+1,t,e,h0,h1,hf,he=>by
  have a:=gB b h0 h1;have i:=b.at h0 h1;by_cases e1:es.getD t.toNat 0=-1
  .rw[a,cq e1]at he;cases he
  .rw[bF e1]at a;rw[a]at he;obtain z|z:=eu.1 he
   .exact⟨t,.inl rfl,h0,h1,z.symm⟩
   .obtain⟨y,h,g,d,c⟩:=Yi b f We We We z;refine⟨y,.inr ?_,g,d,c⟩;rw[a];obtain z|z:=h
    .exact z▸eU
    .exact jk _ z
theorem aaG(h:fM es){t:Int}(t0:0<=t)(t1:Qbn)(x0:0<=x)(e:Qdp)(d:0<=y)(b:y<es.length)(he:es.getD x.toNat 0=es.getD y.toNat 0)(g:x=t\/x∈bV es t)(f:y=t\/y∈bV es t):x=y:=by
 have no:∀a c:Int,0<=a->a<es.length->0<=c->c<es.length->es.getD a.toNat 0=es.getD c.toNat 0->¬ a∈bV es c:=λa c a0 a1 c0 i j hm=>by
  have k:=h.at a0 a1;rw[gB h c0 i]at hm;by_cases e1:es.getD c.toNat 0=-1
  .rw[cq e1]at hm;cases hm
  .rw[bF e1]at hm;obtain z|z:=eu.1 hm
   .lia
   .have:=bO h We We z;lia
 obtain rfl|g:=g<;>obtain rfl|f:=f
 .rfl
 .exact absurd f (no _ _ d b x0 e he.symm)
 .exact absurd g (no _ _ x0 e d b he)
 .obtain z|z|z:=uB h t0 t1 g f
  .exact z
  .exact absurd z (no _ _ x0 e d b he)
  .exact absurd z (no _ _ d b x0 e he.symm)
theorem zZ(h:nX es):∀(f t:Nat),t<f->t<es.length->t=0\/(0:Int)∈bV es t
 | 0,t,hf,_=>by lia
 | f+1,t,hf,a=>by
  by_cases e:t=0
  .exact .inl e
  .obtain⟨s,rfl⟩:∃s,t=s+1:=⟨t-1,We⟩;have d:=h.1 _ a;have h2:0<=es.getD (s+1) 0:=by
    obtain z|z:=h.2 s a
    .lia
    .have:=bO h.1 We We z;lia
   have b:=gB h.1 (m:=((s+1:Nat))) We We;rw[oo]at b;refine .inr ?_;rw[b];obtain⟨q,c⟩:∃q:Nat,es.getD (s+1) 0=q:=⟨(es.getD (s+1) 0).toNat,We⟩;rw[c];obtain z|z:=zZ h f q We We
   .rw[z];simp
   simp_all
def Bk(es:AT)(u x:Int):Prop:=u=-1\/u∈bV es x
def NP(c:fM es)(x0:0<=x)(a:Qdp)(b:y∈bV es x)(d:Bk es u y):Bk es u x:=by
 obtain z|z:=d
 .exact .inl z
 .exact .inr (mV c x0 a b z)
def Hs(b:QdI)(a:jz es u t x):Bk es u x:=by
 obtain rfl|z:=a
 .exact b
 .exact z.2
theorem Bl(h:QaF)(f:Qbn)(c:QdI)(i:Va aN isAll es ss mem far near u t x):Bk es u x:=by
 have a:=h.pre.1;obtain z|z|⟨s,p,hs,_,_,e,_,z⟩:=i
 .exact Hs c z.1
 .obtain⟨x0,d,y⟩:=b9 h _ f x z;obtain rfl|y:=y
  .exact c
  .exact NP a x0 d y c
 .have b:=cI h.pre e;have j:=jW a f hs;obtain⟨q,rfl⟩:∃q:Nat,p=q:=⟨p.toNat,We⟩;have g:=NP a b.1 b.2.1 (b.2.2.1▸LK a b.1 b.2.1 We) (Hs c hs);obtain⟨x0,d,y⟩:=b9 h _ We x z;obtain rfl|y:=y
  .exact g
  .exact NP a x0 d y g
theorem AH(X:NK aN cz isAll es)(hc:Hr cz es ch)(h:QaF)(p:Qbn)
  (O:u=-1\/(u∈bV es t/\cz u=true/\u∈iQ isAll es ch Q2)) :
  ∃M:AT,M.length=es.length/\Hr cz es M ∧
   (iQ isAll es M Q2).Perm ((iQ isAll es ch Q2).filter (λx=>!(decide (u=-1) || decide (u∈bV es x)))++vl aN isAll es ss mem far near u t)/\(t:Int)∈iQ isAll es M Q2:=by
 classical
 have n:=h.pre.1;have hn:0<es.length:=by lia
 have d:u=-1\/u∈bV es t:=O.imp id (·.1);have F:∀e:Int,∃y:Int,e∈bV es t->(y=t\/y∈bV es t)/\0<=y/\y<es.length/\es.getD y.toNat 0=e:=λe=>by
  by_cases z:e∈bV es t
  .obtain⟨y,hy⟩:=Yi n (t+1) (t:=(t:Int)) We We We z;exact⟨y,λ_=>hy⟩
  .exact⟨0,λy=>absurd y z⟩
 obtain⟨st,F⟩:∃st:Int->Int,∀e:Int,e∈bV es t->(st e=t\/st e∈bV es t)/\0<=st e/\st e<es.length/\es.getD (st e).toNat 0=e:=⟨λe=>Classical.choose (F e),λe=>Classical.choose_spec (F e)⟩
 let D:Int->Bool:=λe=>(decide (e=t)&&(far || near)) || Qkw
 let c:Nat->Int:=λk=>if (k:Int)=u\/(jz es u t k/\(k:Int)≠t) then st k else if Bk es u k then k8 ss mem (D k) k else ch.getD k 0
 have EK:∀k:Nat,k<es.length->((List.range es.length).map c).getD k 0=c k:=λk o=>by
  rw[ox,o2,uh o];rfl
 have L:∀e:Int,jz es u t e->Va aN isAll es ss mem far near u t e:=λe he=>by
  have Y:=jW n p he;obtain⟨q,rfl⟩:∃q:Nat,e=q:=⟨e.toNat,We⟩;exact(NC h p q We).2 (.inl he)
 let N:Int->Prop:=λx=>(x∈iQ isAll es ch Q2/\¬ Bk es u x)\/Va aN isAll es ss mem far near u t x
 have K:∀x,N x->0<=x/\x<es.length:=λx hx=>by
  obtain z|z:=hx
  .have:=kh _ z.1;lia
  .exact Tx h p z
 have hN:∀k:Nat,k<es.length->(N k↔(k=0\/(N QeV/\(isAll QeV=true\/c (es.getD k 0).toNat=(k:Int))))):=by
  intro k o;have J:=n k o;have l:=gB n (m:=(k:Int)) We We;rw[oo]at l;by_cases k0:k=0
  .subst k0;rw[cq We]at l;refine⟨λ_=>.inl rfl,λ_=>?_⟩;obtain z|z:=O
   .refine .inr (L _ ?_);obtain y|y:=zZ h.pre (t+1) t We p
    .exact .inl We
    .exact .inr ⟨y,.inl z⟩
   .refine .inl ⟨(uD n Q2 (k:=0) We We).2 Qac,?_⟩;rintro(y|y)
    .have:=kh _ z.2.2;lia
    .rw[l]at y;cases y
  .have e0:es.getD k 0 ≠ -1:=by
    obtain y|y:=zZ h.pre (k+1) k We o
    .exact absurd y k0
    .intro z;rw[l,cq z]at y;cases y
   rw[bF e0]at l;have T:=uD (isAll:=isAll) (ch:=ch) n Q2 (k:=k) We We;have U:=NC (far:=far) (near:=near) (u:=u) h p k o;obtain⟨e,he⟩:∃e:Nat,es.getD k 0=e:=⟨(es.getD k 0).toNat,We⟩;rw[he]at l T U J ⊢;rw[oo]at T ⊢;have V:e<es.length:=by lia
   have eb:Bk es u e->Bk es u k:=λz=>NP n We We (by rw[l];exact eU) z;have self:∀x:Int,0<=x->x<es.length->¬ x∈bV es x:=λx a0 a1 z=>by
    have:=bO n a0 a1 z;lia
   have B:(e:Int)∈bV es t->(st e=k↔((k:Int)=t\/(k:Int)∈bV es t)):=λz=>by
    obtain⟨s1,s2,s3,s4⟩:=F e z;constructor
    .intro y;rw[← y];exact s1
    .intro y;exact aaG n (t:=(t:Int)) We We s2 s3 We We (by rw[s4,oo,he]) s1 y
   by_cases v:Bk es u k
   .by_cases i:(e:Int)=u
    .have g:=O.resolve_left We;rw[← i]at g;have I:¬ Bk es u e:=by
      rintro(z|z)
      .lia
      .rw[i]at z;exact self u We We z
     have P:¬ isAll e=true:=λz=>by
      obtain y|y|y:=X e V
      .rw[y.2.1]at g;cases g.2.1
      .rw[y.2.2]at z;cases z
      .rw[y.2.1]at g;cases g.2.1
     have j:c e=st e:=cq (.inl i);rw[j];have R:¬ Va aN isAll es ss mem far near u t e:=λz=>I (Bl h p d z);constructor
     .rintro(z|z)
      .exact absurd v z.2
      .obtain y|y:=U.1 z
       .refine .inr ⟨.inl ⟨g.2.2,I⟩,.inr ((B g.1).2 ?_)⟩;obtain y|y:=y
        .exact .inl y
        .exact .inr y.1
       .exact absurd y.1 R
     .rintro(z|⟨_,z|z⟩)
      .exact absurd z k0
      .exact absurd z P
      .refine .inr (L _ ?_);rcases(B g.1).1 z with y|y
       .exact .inl y
       .exact .inr ⟨y,v⟩
    .have s:Bk es u e:=by
      obtain z|z:=v
      .exact .inl z
      .rw[l]at z;obtain y|y:=eu.1 z
       .exact absurd y.symm i
       .exact .inr y
     have W:N k↔Va aN isAll es ss mem far near u t k:=⟨λz=>z.resolve_left (λy=>y.2 v),.inr⟩;have L2:N e↔Va aN isAll es ss mem far near u t e:=⟨λz=>z.resolve_left (λy=>y.2 s),.inr⟩;rw[W,L2,U];by_cases r:jz es u t e/\(e:Int)≠t
     .have j:c e=st e:=cq (.inr r);rw[j];have het:(e:Int)∈bV es t:=by
       obtain y|y:=r.1
       .exact absurd y r.2
       .exact y.1
      have hm:Bh aN isAll es ss mem far near u t e k↔isAll e=true:=by
       unfold Bh;constructor
       .rintro(z|z)
        .exact z
        .obtain y|y:=z.2
         .exact absurd y r.2
         .exact absurd r.1 y
       .exact .inl
      rw[hm,B het];constructor
      .rintro(z|z)
       .refine .inr ⟨L _ r.1,.inr ?_⟩;obtain y|y:=z
        .exact .inl y
        .exact .inr y.1
       .exact .inr ⟨z.1,.inl z.2.2⟩
      .rintro(z|⟨z1,E⟩)
       .exact absurd z k0
       .by_cases C:jz es u t k
        .exact .inl C
        .obtain E|E:=E
         .exact .inr ⟨z1,C,E⟩
         .refine absurd ?_ C;obtain y|y:=E
          .exact .inl y
          .exact .inr ⟨y,v⟩
     .have j:c e=k8 ss mem (D e) e:=by
       show Qkj=_;rw[bF (λz=>z.elim i r),cq s]
      rw[j];have H:¬ jz es u t k:=by
       rintro(z|z)
       .refine r ⟨.inr ⟨?_,s⟩,We⟩;rw[← z,l];exact eU
       .have:=bO n (m:=(t:Int)) We We z.1;exact r ⟨.inr ⟨mV n We We z.1 (by rw[l];exact eU),s⟩,We⟩
      have hm:Bh aN isAll es ss mem far near u t e k↔(isAll e=true\/k8 ss mem (D e) e=k):=by
       have:(e:Int)=t\/¬ jz es u t e:=by
        by_cases y:(e:Int)=t
        .exact .inl y
        .exact .inr (λw=>r ⟨w,y⟩)
       unfold Bh;constructor
       .rintro(z|z)
        .exact .inl z
        .exact .inr z.1
       .rintro(z|z)
        .exact .inl z
        .exact .inr ⟨z,this⟩
      rw[hm];constructor
      .rintro(z|z)
       .exact absurd z H
       .exact .inr ⟨z.1,z.2.2⟩
      .rintro(z|z)
       .exact absurd z k0
       .exact .inr ⟨z.1,H,z.2⟩
   .have A:¬ Bk es u e:=λz=>v (eb z);have i:(e:Int)≠u:=λz=>v (.inr (by rw[l,z];exact eU));have j:c e=ch.getD e 0:=by
     show Qkj=_;rw[bF (λz=>z.elim i (λy=>A (Hs d y.1))),bF A]
    rw[j];have W:N k↔(k:Int)∈iQ isAll es ch Q2:=⟨λz=>z.elim (·.1) (λy=>absurd (Bl h p d y) v),λz=>.inl ⟨z,v⟩⟩;have L2:N e↔(e:Int)∈iQ isAll es ch Q2:=⟨λz=>z.elim (·.1) (λy=>absurd (Bl h p d y) A),λz=>.inl ⟨z,A⟩⟩;rw[W,L2];exact T
 have Z:∀x,x∈iQ isAll es ((List.range es.length).map c) Q2↔N x:=by
  have key:∀(f k:Nat),k<f->k<es.length->((k:Int)∈iQ isAll es ((List.range es.length).map c) Q2↔N k):=by
   intro f
   induction f with
   | zero=>intro k h;lia
   | succ f ih=>
    intro k aa o;rw[uD n Q2 We We,hN k o];have J:=n k o;by_cases e:es.getD k 0=-1
    .rw[e];constructor
     .rintro(z|z)
      .exact .inl z
      .have:=kh _ z.1;lia
     .rintro(z|z)
      .exact .inl z
      .have:=K _ z.1;lia
    .obtain⟨q,l⟩:∃q:Nat,es.getD k 0=q:=⟨(es.getD k 0).toNat,We⟩;rw[l,ih q We We,oo,EK q We]
  intro x;constructor
  .intro z;have:=kh _ z;obtain⟨q,rfl⟩:∃q:Nat,x=q:=⟨x.toNat,We⟩;exact(key (q+1) q We We).1 z
  .intro z;have:=K _ z;obtain⟨q,rfl⟩:∃q:Nat,x=q:=⟨x.toNat,We⟩;exact(key (q+1) q We We).2 z
 have bb:∀x:Int,((!(decide (u=-1) || decide (u∈bV es x)))=true↔¬ Bk es u x):=λx=>by
  unfold Bk;simp
 refine⟨(List.range es.length).map c,WA,λk o G=>?_,?_,(Z _).2 (.inr (L _ Qac))⟩
 .rw[EK k o];show(if (k:Int)=u\/(jz es u t k/\(k:Int)≠t) then st k else if Bk es u k then k8 ss mem (D k) k else ch.getD k 0)∈_;by_cases z:(k:Int)=u\/(jz es u t k/\(k:Int)≠t)
  .rw[cq z];have S:(k:Int)∈bV es t:=by
    obtain y|y:=z
    .rw[y];exact d.resolve_left We
    .exact(y.1.resolve_left y.2).1
   obtain⟨_,s2,s3,s4⟩:=F k S;exact Nz s2 s3 s4
  .rw[bF z];by_cases y:Bk es u k
   .rw[cq y];obtain w|w|w:=X k o
    .rw[w.2.1]at G;cases G
    .exact Yc h o w.1 w.2.2
    .rw[w.2.1]at G;cases G
   .rw[bF y];exact hc k o G
 .refine(List.perm_ext_iff_of_nodup (wF (kT _)) ?_).2 λx=>?_
  .rw[oT];refine⟨Po _ (wF (kT _)),CY h p d,λa ha b Y MY=>?_⟩;subst MY;exact(bb a).1 (oC.1 ha).2 (Bl h p d ((FT h p d a).1 Y))
  .rw[Z,f9,oC,FT h p d,bb]
abbrev Nl:=AT×AT×AT
inductive J where
 | out (m:Int)|UD (m:Int)|keep (m p q:Int)|put (x p q:Int)|XS (w:Str) (ds:BB)
noncomputable def J.w:J->Str
 | .out _=>"out"
 | .UD _=>"in"
 | .keep _ _ _=>"keep"
 | .put _ _ _=>"put"
 | .XS w _=>w
noncomputable def J.ds:J->BB
 | .out m=>[.int m]
 | .UD m=>[.int m]
 | .keep m p q=>[.int m,.int p,.int q]
 | .put x p q=>[.int x,.int p,.int q]
 | .XS _ ds=>ds
def J.d(r:J):D:=.tup (.str r.w::r.ds)
def Of:At:=["sign","way","call","say","rest"]
def amj(d:D):Prop:=(∃i,d=.int i)\/∃x,d=.str x
def J.ok(s:Nl):J->Prop
 | .keep m _ _=>0<=m/\m<s.2.1.length
 | .put x _ _=>0<=x/\x<s.2.2.length
 | .XS w ds=>w∈Of/\ds.length<=3/\∀d∈ds,amj d
 | _=>True
def NR(back:Bool)(r:J)(bs:AT):AT:=match r with
 | .put x p q=>bs.set x.toNat Qlq
 | _=>bs
def Right(n:Nat)(s:Nl):J->Prop
 | .out m=>m∈s.1
 | .UD m=>m∉s.1/\0<=m/\m<n
 | .keep m p _=>0<=m/\m<s.2.1.length/\s.2.1.getD m.toNat 0=p
 | .put x p _=>0<=x/\x<s.2.2.length/\s.2.2.getD x.toNat 0=p
 | .XS w ds=>w∈Of/\ds.length<=3/\∀d∈ds,amj d
theorem Right.ok{s:Nl}{r:J}(h:Right n s r):r.ok s:=by
 cases r with
 | out m=>trivial
 | UD m=>trivial
 | keep m p q=>exact⟨h.1,h.2.1⟩
 | put m p q=>exact⟨h.1,h.2.1⟩
 | XS w ds=>exact h
theorem ae7{n:Nat}:∀{l:AT} {lo:Int},l.Pairwise (· < ·)->(∀x∈l,lo<=x/\x<n)->0<=lo->l.length<=((n:Int)-lo).toNat
 | [],_,_,_,_=>nZ _
 | y::l,lo,c,b,h0=>by
  have d:=b y WA;obtain⟨h1,h2⟩:=o8.1 c;have:=ae7 (lo:=y+1) h2 (λx a=>⟨by have:=h1 x a;lia,(b x (jk _ a)).2⟩) We;simp;lia
theorem Ht(h:l.Pairwise (· <= ·))(nd:l.Nodup):l.Pairwise (· < ·):=by
 induction l with
 | nil=>exact .nil
 | cons y l c=>
  obtain⟨h1,h2⟩:=o8.1 h;obtain⟨n1,b⟩:=si.1 nd;refine o8.2 ⟨λx a=>?_,c h2 b⟩;have:=h1 x a;have:y≠x:=λe=>n1 (e▸a);lia
theorem ae8(h:l.Pairwise (· < ·)):l.Nodup:=h.imp We
theorem ath(h:l.Pairwise (· < ·)):l.Pairwise (· <= ·):=h.imp λh=>by lia
noncomputable def J.ati:J->Bool
 | .put _ _ _=>true
 | _=>false
def aoN{w:Str}(h:w∈Of):¬ w="put" /\ ¬ w="keep" /\ ¬ w="in" /\ ¬ w="out":=by
 have:∀w∈Of,¬ w="put" /\ ¬ w="keep" /\ ¬ w="in" /\ ¬ w="out":=by decide +kernel
 exact this w h
theorem axJ{s:Nl}{r:J}(h:r.ok s):decide (r.w="put")=r.ati:=by
 cases r with
 | XS w ds=>exact qr (aoN h.1).1
 | _=>first|exact decide_eq_true rfl|(apply decide_eq_false;dsimp [J.w];decide +kernel)
def axK(r:J):za (D.str r.w::r.ds) 0=some (.str r.w):=fD rfl
def ae9(back:Bool)(r:J)(l:AT):(NR back r l).length=l.length:=by
 cases r<;>first|rfl|exact ui
noncomputable def iE(bs nm:BB)(tr:D)(is os ws:BB):D:=.ins "Chart" [("boxes",.lst bs),("names",.lst nm),("tree",tr),("ins",.lst is),("outs",.lst os),("ways",.lst ws)]
variable{bs nm is os ws:BB}{tr:D}
def RM:List.lookup ("boxes":Str) [(("boxes":Str),D.lst bs),("names",.lst nm),("tree",tr),("ins",.lst is),("outs",.lst os),("ways",.lst ws)]=some (.lst bs):=M0
def RN:List.lookup ("names":Str) [(("boxes":Str),D.lst bs),("names",.lst nm),("tree",tr),("ins",.lst is),("outs",.lst os),("ways",.lst ws)]=some (.lst nm):=rfl
def gD:List.lookup ("tree":Str) [(("boxes":Str),D.lst bs),("names",.lst nm),("tree",tr),("ins",.lst is),("outs",.lst os),("ways",.lst ws)]=some tr:=rfl
def aaH:List.lookup ("ins":Str) [(("boxes":Str),D.lst bs),("names",.lst nm),("tree",tr),("ins",.lst is),("outs",.lst os),("ways",.lst ws)]=some (.lst is):=rfl
def Vd:List.lookup ("outs":Str) [(("boxes":Str),D.lst bs),("names",.lst nm),("tree",tr),("ins",.lst is),("outs",.lst os),("ways",.lst ws)]=some (.lst os):=rfl
def iW:List.lookup ("ways":Str) [(("boxes":Str),D.lst bs),("names",.lst nm),("tree",tr),("ins",.lst is),("outs",.lst os),("ways",.lst ws)]=some (.lst ws):=rfl
noncomputable def Hu(bs nm:BB):B1:=[("boxes",.lst (bs.map T.sh)),("names",.lst (nm.map T.sh))]
noncomputable def NS(is os ws:BB):B1:=[("ins",.lst (is.map T.sh)),("outs",.lst (os.map T.sh)),("ways",.lst (ws.map T.sh))]
def CZ(bs nm:BB)(t:T)(is os ws:BB):B1:=Hu bs nm++(("tree":Str),t)::NS is os ws
def Ve(bs nm:BB)(t:T)(is os ws:BB):T.gM (.ins "Chart" (CZ bs nm t is os ws))=iE bs nm t.gM is os ws:=by
 unfold CZ Hu NS;rw[uj,uj,wA,T.gM,T.vO,T.vO,T.vO,T.vO,T.vO,T.vO,dF,dF,dF,dF,dF];rfl
def eB{ds:BB}(h:QbX):(T.lst Qbf).clean=true:=by
 rw[yg]
 induction ds with
 | nil=>rfl
 | cons d ds a=>
  rw[D.ck,oD]at h;rw[og,T.cZ,a h.2,T.clean,h.1];rfl
def NT(h1:D.ck bs=true)(h2:D.ck nm=true):T.fY (Hu bs nm)=true:=by
 unfold Hu;rw[T.fY,T.fY,eB h1,eB h2];rfl
def NW(h1:D.ck is=true)(h2:D.ck os=true)(a:D.ck ws=true):T.fY (NS is os ws)=true:=by
 unfold NS;rw[T.fY,T.fY,T.fY,eB h1,eB h2,eB a];rfl
noncomputable def C1(p:Str×Int):D:=.tup [.str p.1,.int p.2]
def ajr{l:QT}{f:α->D}{g:D->T}{h:α->T}(e:∀a∈l,g (f a)=h a):T.lst (((l.map f).filter λ_=>true).map g)=T.lst (l.map h):=by
 rw[rE,n7];exact congrArg _ (tH e)
structure cg where
 src:Int
 sign:Str
 asks:BB
 Eu:BB
 nN:Int
 mode:Str
def jL(w:cg):D:=.tup [.int w.src,.str w.sign,.tup w.asks,.tup w.Eu,.int w.nN,.str w.mode]
noncomputable def w0:cg:=⟨0,Str.empty,[],[],0,Str.empty⟩
def iy(ws:QM)(i:Int):cg:=ws.getD i.toNat w0
theorem uF{ws:QM}{i:Int}(h0:0<=i)(h1:i<ws.length):iy ws i∈ws:=by
 unfold iy;simp_all
def i7(ks:At)(es:AT)(w:cg):Int:=Ny QaC es w.src w.nN
def J5(es:AT)(u x:Int):Bool:=decide (u=-1) || decide (u∈bV es x)
def Hv:J5 es u x=true↔Bk es u x:=by
 unfold J5 Bk;simp
def zl(es ops:AT)(u:Int):AT:=(ops.filter (λm=>decide (u=-1) || decide (u∈bV es m))).reverse
def Ap(es:AT)(u v:Int):Prop:=u ≠ -1/\v ≠ -1/\u≠v/\u∉bV es v/\v∉bV es u
theorem Ap.symm{v:Int}(h:Ap es u v):Ap es v u:=⟨h.2.1,h.1,λe=>h.2.2.1 e.symm,h.2.2.2.2,h.2.2.2.1⟩
def LN(b:fM es){v:Int}(x0:0<=x)(a:Qdp)(ap:Ap es u v)(h:Bk es u x):¬ Bk es v x:=λk=>by
 have h:=h.resolve_left ap.1;have k:=k.resolve_left ap.2.1;obtain e|e|e:=uB b x0 a h k
 .exact ap.2.2.1 e
 .exact ap.2.2.2.1 e
 .exact ap.2.2.2.2 e
theorem C2(nd:l.Nodup)(b:∀x∈l,0<=x/\x<n):l.length<=n:=by
 have:=ae7 (Ht (pL l) ((sortI_perm l).nodup_iff.2 nd)) (λx a=>b x (qh.1 a)) WA;rw[qi]at this;lia
theorem z7{α:Type}{es:AT}(h:fM es){top:α->Int}{f:α->AT}:∀{gs:QT},gs.Pairwise (λa c=>Ap es (top a) (top c))->(∀a∈gs,(f a).Nodup/\∀x∈f a,QhF/\Bk es (top a) x) →
  (gs.flatMap f).Nodup/\∀x∈gs.flatMap f,QhF/\∃a∈gs,Bk es (top a) x
 | [],_,_=>⟨WA,λx b=>by simp at b⟩
 | a::gs,j,hf=>by
  obtain⟨h1,h2⟩:=o8.1 j;obtain⟨i1,i2⟩:=z7 h h2 (λc d=>hf c (jk _ d));obtain⟨f1,f2⟩:=hf a WA;refine⟨oT.2 ⟨f1,i1,λx b y i e=>?_⟩,λx b=>?_⟩
  .subst e;obtain⟨b1,c,d,g⟩:=i2 x i;exact LN h b1.1 b1.2 (h1 c d) (f2 x b).2 g
  .obtain b|b:=f9.1 b
   .exact⟨(f2 x b).1,a,eU,(f2 x b).2⟩
   .obtain⟨b1,c,d,g⟩:=i2 x b;exact⟨b1,c,jk _ d,g⟩
theorem Vf{isAll:CC}{es ch:AT}(d:fM es):∀(f:Nat) {x y:Int},x<f->x∈iQ isAll es ch Q2->y∈bV es x->y∈iQ isAll es ch Q2
 | 0,x,y,hf,b,a=>by
  have:=(kh _ b).1;lia
 | f+1,x,y,hf,b,a=>by
  have i:=kh _ b;by_cases g:es.length=0
  .have e:=List.eq_nil_of_length_eq_zero g;subst e;have x0:x=0:=by simpa [iQ] using b
   simp[bV,FN]at a;lia
  .obtain⟨k,rfl⟩:∃k:Nat,x=k:=⟨x.toNat,We⟩;have h:k<es.length:=by lia
   have e:=gB d (m:=(k:Int)) We We;rw[oo]at e;have j:=d k h;by_cases hz:es.getD k 0=-1
   .rw[e,cq hz]at a;cases a
   .rw[e,bF hz]at a;have c:es.getD k 0∈iQ isAll es ch Q2:=by
     rcases(uD d _ (k:=k) We We).1 b with z|z
     .lia
     .exact z.1
    obtain rfl|a:=eu.1 a
    .exact c
    .exact Vf d f We c a
def QC(ks:At)(es ss mem:AT)(w:cg):AT:=vl QaB QR es ss mem (fB w.mode) (iD w.mode) QaM w.nN.toNat
def Goes(ks:At)(es ops:AT)(w:cg):Prop:=(0<=w.nN/\w.nN<es.length)/\(i7 ks es w=-1\/(i7 ks es w∈bV es w.nN.toNat/\cM ks QaM=true/\i7 ks es w∈ops))
variable{ops:AT}
theorem Goes.up{w:cg}(h:Goes ks es ops w):i7 ks es w=-1\/i7 ks es w∈bV es w.nN.toNat:=h.2.imp id (·.1)
theorem afa(b:Qhe){w:cg}(h:Goes ks es ops w):(QC ks es ss mem w).Nodup/\∀x∈QC ks es ss mem w,QhF/\Bk es QaM x:=by
 have a:w.nN.toNat<es.length:=by have:=h.1;lia
 refine⟨CY b a h.up,λx c=>?_⟩;have hi:=(FT b a h.up x).1 c;exact⟨Tx b a hi,Bl b a h.up hi⟩
theorem amk{ks:At}{es ss mem:AT}(h:NK QaB QaC QR es)(b:Qhe)(p:0<es.length):∀{gs:QM} {ch:AT},ch.length=es.length->Hr QaC es ch->gs.Pairwise Qig →
  (∀w∈gs,Goes ks es QaY w) →
  ∃f:AT,f.length=es.length/\Hr QaC es f/\(iQ QR es f Q2).Perm ((iQ QR es ch Q2).filter Qgy++gs.flatMap Qc2)
 | [],ch,g,d,_,_=>⟨ch,g,d,by simp[rE]⟩
 | w::gs,ch,g,d,r,i=>by
  obtain⟨h1,h2⟩:=o8.1 r;have e:=i w eU;have o:w.nN.toNat<es.length:=by have:=e.1;lia
  obtain⟨t,m,k1,p1,_⟩:=AH (far:=fB w.mode) (near:=iD w.mode) h d b o e.2;have g1:∀v∈gs,Goes ks es (iQ QR es t Q2) v:=λv hv=>by
   have j:=i v (jk _ hv);refine⟨j.1,j.2.imp id λz=>⟨z.1,z.2.1,p1.mem_iff.2 (nv _ (oC.2 ⟨z.2.2,?_⟩))⟩⟩;have ap:=h1 v hv;have e1:¬ (i7 ks es w=-1\/i7 ks es w∈bV es (i7 ks es v)):=λq=>q.elim ap.1 ap.2.2.2.1;simp_all
  obtain⟨s,l,k2,p2⟩:=amk h b p m k1 h2 g1;refine⟨s,l,k2,p2.trans ?_⟩;have k:=(p1.filter Qgy).append_right (gs.flatMap Qc2);refine k.trans ?_;rw[tq,List.filter_filter,w3,← nr];have e1:(vl QaB QR es ss mem (fB w.mode) (iD w.mode) QaM w.nN.toNat).filter Qgy=QC ks es ss mem w:=by
   refine List.filter_eq_self.2 λx n=>?_;obtain⟨b1,b2⟩:=(afa b e).2 x n;rw[Bool.not_eq_true',List.any_eq_false];intro v hv q;exact LN b.pre.1 b1.1 b1.2 (h1 v hv) b2 (Hv.1 q)
  have e2:(iQ QR es ch Q2).filter (λa=>(!(gs.any λw=>J5 es QaM a)) && !(decide (i7 ks es w=-1) || decide (i7 ks es w∈bV es a)))=(iQ QR es ch Q2).filter (λx=>!((w::gs).any λw=>J5 es QaM x)):=by
   refine List.filter_congr λx _=>?_;show((!(gs.any λw=>J5 es QaM x)) && !(J5 es QaM x))=_;rw[vx,Bool.not_or,Bool.and_comm]
  rw[e1,e2]
def pN(ks:At)(es ops:AT)(gs:QM):AT:=(sortI (gs.flatMap λw=>zl es ops QaM)).reverse
noncomputable def LQ(h:l.Nodup):l.reverse.Nodup:=List.pairwise_reverse.2 (h.imp λh e=>h e.symm)
def wG:x∈zl es ops u↔x∈ops/\Bk es u x:=by
 unfold zl Bk;simp
variable{gs:QM}
def FU:x∈pN ks es ops gs↔x∈ops/\∃w∈gs,Bk es QaM x:=by
 unfold pN;rw[IH,qh,pw];constructor
 .rintro⟨w,hw,a⟩;exact⟨(wG.1 a).1,w,hw,(wG.1 a).2⟩
 .rintro⟨a,w,hw,b⟩;exact⟨w,hw,wG.2 ⟨a,b⟩⟩
def RP(d:fM es)(e:ops.Pairwise (· < ·))(f:∀x∈ops,0<=x/\x<es.length)(g:QhT) :
  (gs.flatMap λw=>zl es ops QaM).Nodup/\(gs.flatMap λw=>zl es ops QaM).length<=es.length:=by
 have h:=z7 d g (λw _=>⟨by
  exact LQ ((ae8 e).filter _),λx b=>⟨f x (wG.1 b).1,(wG.1 b).2⟩⟩)
 exact⟨h.1,C2 h.1 λx b=>(h.2 x b).1⟩
def LR(b:fM es)(d:ops.Pairwise (· < ·))(e:∀x∈ops,0<=x/\x<es.length)(f:QhT):(pN ks es ops gs).Nodup/\(pN ks es ops gs).length<=es.length:=by
 obtain⟨h1,h2⟩:=RP b d e f;unfold pN;exact⟨LQ ((sortI_perm _).nodup_iff.2 h1),by rw[x7,qi];exact h2⟩
def LV{a c:AT}(h:a.Perm c):sortI a=sortI c:=A6 ((sortI_perm a).trans h) (pL a)
def z8(ks:At)(es ss mem:AT)(gs:QM):AT:=sortI (gs.flatMap Qc2)
def RQ(b:Qhe)(f:QhT)(e:∀w∈gs,Goes ks es ops w) :
  (gs.flatMap Qc2).Nodup/\(gs.flatMap Qc2).length<=es.length/\∀x∈gs.flatMap Qc2,QhF/\∃w∈gs,Bk es QaM x:=by
 have h:=z7 b.pre.1 f (λw hw=>afa b (e w hw));exact⟨h.1,C2 h.1 λx d=>(h.2 x d).1,h.2⟩
def N0(ks:At)(es ss mem ops:AT)(gs:QM):AT:=sortI (ops.filter (λx=>!decide (x∈pN ks es ops gs))++z8 ks es ss mem gs)
theorem RT(k:NK QaB QaC QR es)(n:Qhe)(i:0<es.length)(j:ch.length=es.length)(m:Hr QaC es ch)
  (o:QhT) (l:∀w∈gs,Goes ks es QaY w) :
  ∃d:AT,d.length=es.length/\Hr QaC es d/\N0 ks es ss mem QaY gs=iQ QR es d Q2/\((iQ QR es ch Q2).filter Qk5++z8 ks es ss mem gs).length<=es.length:=by
 obtain⟨f,g,k2,p2⟩:=amk k n i j m o l;have e1:(iQ QR es ch Q2).filter Qk5=(iQ QR es ch Q2).filter Qgy:=by
  refine List.filter_congr λx h=>?_;congr 1;rw[M9,decide_eq_true_iff,FU,List.any_eq_true];constructor
  .rintro⟨_,w,hw,b⟩;exact⟨w,hw,Hv.2 b⟩
  .rintro⟨w,hw,b⟩;exact⟨h,w,hw,Hv.1 b⟩
 have e:((iQ _ es ch _).filter _++z8 ks es ss _ gs).Perm _:=e1▸(yd _ (sortI_perm _)).trans p2.symm;refine⟨f,g,k2,?_,?_⟩
 .unfold N0;exact LV e▸adW (ath (kT _))
 .rw[e.length_eq];have:=FP (isAll:=aF ks) (es:=es) (ch:=f) Q2;lia
def pP(ws:QM)(i:Int):Bool:=!decide ((iy ws i).nN=-1)
def rZ(ws:QM)(some:AT):List cg:=(some.filter QcD).map QbF
theorem r6{β:Type}{f:α->List β}(l:QT)(j:Nat):((l.take j).flatMap f).length<=(l.flatMap f).length:=by
 have h2:=MI j l
 conv=>rhs;rw[← h2]
 rw[IS,n6];lia
theorem C3{α:Type}{f:α->AT}:∀l:List α,(l.flatMap λa=>sortI (f a)).Perm (l.flatMap f)
 | []=>.refl _
 | a::l=>(sortI_perm _).append (C3 l)
def JU(n:Nat)(w:cg):Prop:=(0<=w.src/\w.src<n)/\(w.nN=-1\/(0<=w.nN/\w.nN<n))/\uE w.mode/\w.Eu.length<=2/\D.ck w.Eu=true/\D.ck w.asks=true
def LW(es:AT)(m:Int)(w:cg):Bool:=(!decide (w.mode="new")&&decide (w.nN=m)) || (decide (w.mode="far")&&(decide (w.nN=-1) || decide (w.nN∈bV es m)))
def mP(ks:At)(es:AT)(ws:QM)(m:Int):Bool:=cM ks m&&ws.any (LW es m)
abbrev _root_.Ee:=List BB
noncomputable def inR(is:Ee)(a:AT):BB:=a.flatMap λm=>D.tup [.str "in",.int m]::is.getD m.toNat []
def uG(is:Ee):Prop:=∀l∈is,l.length<=2/\D.ck l=true
noncomputable def NX(E1:CC)(os:Ee)(mem bh gone:AT):BB:=gone.flatMap λm=>D.tup [.str "out",.int m]::(Qkl++os.getD m.toNat [])
def NZ(ws:QM)(some:AT):BB:=some.flatMap λi=>D.tup [.str "way",.int i]::(iy ws i).Eu
theorem uG.get{is:Ee}(h:uG is)(k:Nat):(is.getD k []).length<=2/\D.ck (is.getD k [])=true:=by
 by_cases a:k<is.length
 .rw[ox,pv a];exact h _ WA
 .rw[ox,Fn We];exact⟨WA,rfl⟩
theorem yu{α β:Type}{f:α->List β}{c:Nat}:∀l:List α,(∀a∈l,(f a).length<=c)->(l.flatMap f).length<=c*l.length
 | [],_=>by simp
 | a::l,h=>by
  have h1:=h a eU;have h2:=yu l (λb d=>h b (jk _ d));rw[w3,n6,o1];lia
def C4{f:α->BB}{l:QT}(h:∀a∈l,D.ck (f a)=true):D.ck (l.flatMap f)=true:=jo λd hd=>by
 obtain⟨a,b,hd⟩:=pw.1 hd;exact jH (h a b) d hd
def RV{a c:BB}(h1:D.ck a=true)(h2:D.ck c=true):D.ck (a++c)=true:=jo λd hd=>(f9.1 hd).elim (jH h1 d) (jH h2 d)
theorem N1{E1:CC}{os:Ee}{bh:AT}(h:uG os)(gone:AT):(NX E1 os mem bh gone).length<=4*gone.length/\D.ck (NX E1 os mem bh gone)=true:=by
 refine⟨yu _ λm _=>?_,C4 λm _=>?_⟩
 .have:=(h.get m.toNat).1;have h1:(if E1 m=true then [D.tup [.str "keep",.int m,.int QjW,.int Qkb]] else []).length<=1:=by split<;>simp
  rw[o1,n6];lia
 .refine RV ?_ (h.get _).2;split<;>rfl
theorem Hw{is:Ee}(h:uG is)(a:AT):(inR is a).length<=3*a.length/\D.ck (inR is a)=true:=by
 refine⟨yu _ λm _=>?_,C4 λm _=>?_⟩
 .have:=(h.get m.toNat).1;simp_all
 .exact(h.get _).2
theorem N2{ws:QM}{some:AT}(h:∀i∈some,JU n QbP):(NZ ws some).length<=3*some.length/\D.ck (NZ ws some)=true:=by
 refine⟨yu _ λm hm=>?_,C4 λm hm=>?_⟩
 .have:=(h m hm).2.2.2.1;simp;lia
 .exact(h m hm).2.2.2.2.1
def aaI(E1:CC)(os:Ee)(mem bh gone:AT)(m:Int):NX E1 os mem bh (gone++[m])=NX E1 os mem bh gone++(D.tup [.str "out",.int m]::(Qkl++os.getD m.toNat [])):=by
 unfold NX;simp
def aaJ(ws:QM)(some:AT)(i:Int):NZ ws (some++[i])=NZ ws some++(D.tup [.str "way",.int i]::(iy ws i).Eu):=by
 unfold NZ;simp
def afb(is:Ee)(a:AT)(m:Int):inR is (a++[m])=inR is a++(D.tup [.str "in",.int m]::is.getD m.toNat []):=by
 unfold inR;simp
def r8(ks:At)(es:AT)(ws:QM)(mem ops:AT)(gs:QM):AT:=U7 QaC es ((pN ks es ops gs).filter QdV) mem ops
def NY(ks:At)(es ss:AT)(is os:Ee)(ws:QM)(mem ops some:AT):BB:=
 NX QdV os mem (r8 ks es ws mem ops (rZ ws some)) (pN ks es ops (rZ ws some))++NZ ws some++inR is (z8 ks es ss (r8 ks es ws mem ops (rZ ws some)) (rZ ws some))
def LX(ks:At)(es mem:AT):Prop:=mem.length=es.length/\∀k:Nat,k<es.length->cM ks k=true->mem.getD k 0=-1\/mem.getD k 0∈jK es k
structure nE(ks:At)(es ss:AT)(is os:Ee)(ws:QM):Prop where
 n0:0<es.length
 n1:es.length<=40
 kl:ks.length=es.length
 sl:ss.length=es.length
 il:is.length=es.length
 ol:os.length=es.length
 kd:NK QaB QaC QR es
 pre:nX es
 st:Hr QaC es ss
 ir:uG is
 or:uG os
 wo:∀w∈ws,JU es.length w
 wl:ws.length<=8
structure uH(ks:At)(es:AT)(ws:QM)(ops some:AT):Prop where
 i:∀i∈some,Qez/\(iy ws i).src∈ops
 l:some.length<=8
 ap:(rZ ws some).Pairwise Qig
section
variable{is os:Ee}{ws:QM}{some:AT}
theorem nE.tree(h:QeC)(hm:LX ks es mem):dX QaB QR es ss mem:=⟨h.pre,(λk a e=>by
  obtain⟨_,_,_,z⟩|⟨z,_⟩|⟨z,_⟩:=h.kd k a
  .exact z
  .rw[z]at e;cases e
  simp_all),λk a e1 e2=>by
  obtain⟨z,_⟩|⟨_,z,_⟩|⟨_,_,z⟩:=h.kd k a
  .rw[z]at e1;cases e1
  .exact⟨h.st k a z,hm.2 k a z⟩
  simp_all⟩
theorem nE.kinds(h:QeC):∀k:Nat,k<es.length->bE ks k=true\/aF ks k=true\/ks.getD k Str.empty="one":=λk a=>by
 obtain⟨z,_⟩|⟨_,z,_⟩|⟨_,_,z⟩:=h.kd k a
 .exact .inl z
 .refine .inr (.inr ?_);have:=n8 z;assumption
 .exact .inr QcH
theorem RW(b:0<es.length)(a:x∈iQ QR es ch Q2):0<=x/\x<es.length:=by
 have:=kh _ a;lia
def aoO{w:cg}(hw:w∈rZ ws some):∃i∈some,w=iy ws i/\w.nN ≠ -1:=by
 obtain⟨i,hi,rfl⟩:=n3.1 hw;obtain⟨h1,h2⟩:=oC.1 hi;refine⟨i,h1,rfl,?_⟩;unfold pP at h2;simpa using h2
theorem uH.Lu(h:QeC)(hs:uH ks es ws QaY some):∀w∈rZ ws some,Goes ks es QaY w:=λw hw=>by
 obtain⟨i,hi,rfl,d⟩:=aoO hw;obtain⟨⟨c,i1⟩,b⟩:=hs.i i hi;have GG:=h.wo _ (uF c i1);have a:=GG.2.1.resolve_left d;refine⟨a,?_⟩;have e:((iy ws i).nN.toNat)=(iy ws i).nN:=by lia
 obtain z|z:=ajd h.pre.1 GG.1.1 GG.1.2
 .exact .inl z.1
 .refine .inr ⟨ e▸z.2.1,z.2.2.1,?_⟩;exact Vf h.pre.1 ((iy ws i).src.toNat+1) We b z.1
theorem uH.GG(h:QeC)(hs:uH ks es ws ops some):∀i∈some,JU es.length QbP:=λi hi=>h.wo _ (uF (hs.i i hi).1.1 (hs.i i hi).1.2)
def atj(h:QeC)(c:Hr QaC es ch)(d:ch.length=es.length)(hm:mem.length=es.length)(gs:QM):r8 ks es ws mem QaY gs=IF QaC ch mem ((pN ks es QaY gs).filter QdV):=by
 refine aaF h.pre.1 rfl h.n0 hm d (λk b e=>c k b ?_) (λx a=>(FU.1 (oC.1 a).1).1);exact p8 e
def Ta(h:QeC)(c:Hr QaC es ch)(d:ch.length=es.length)(hm:LX ks es mem)(gs:QM):LX ks es (r8 ks es ws mem QaY gs):=by
 rw[atj h c d hm.1];refine⟨by rw[Hj];exact hm.1,λk a b=>?_⟩;rw[NB _ _ (λe he=>?_) k (hm.1▸a)]
 .split
  .exact .inr (c k a b)
  .exact hm.2 k a b
 .exact hm.1▸RW h.n0 (FU.1 (oC.1 he).1).1
end
def RX{p:α->Bool}{l:QT}{j:Nat}{x:α}(h:l[j]? = some x)(a:p x=true):l.any p=true:=List.any_eq_true.2 ⟨x,qz h,a⟩
theorem any_none{p:α->Bool}{l:QT}(h:∀(j:Nat) (x:α),l[j]? = some x->p x=false):l.any p=false:=by
 rw[List.any_eq_false];intro x a;obtain⟨j,b,e⟩:=List.getElem_of_mem a;rw[h j x WD];decide
noncomputable def qC(a mo:Int)(bs:AT):Int:=if a=-1 then mo else bs.getD a.toNat 0+mo
inductive fP where
 | put (x b m:Int)
 | call (s:Str)
 | say (s:Str) (b m:Int)
noncomputable def fP.w:fP->Str
 | .put _ _ _=>"put"
 | .call _=>"call"
 | .say _ _ _=>"say"
noncomputable def fP.ds:fP->BB
 | .put x b m=>[.int x,.tup [.int b,.int m]]
 | .call s=>[.str s]
 | .say s b m=>[.str s,.tup [.int b,.int m]]
def fP.d(q:fP):D:=.tup (.str q.w::q.ds)
def G1(bs:AT)(b:Int):Prop:=b=-1\/(0<=b/\b<bs.length)
def fP.ok(bs:AT):fP->Prop
 | .put x b _=>(0<=x/\x<bs.length)/\G1 bs b
 | .call _=>True
 | .say _ b _=>G1 bs b
def fP.row(bs:AT):fP->J
 | .put x b m=>.put x (bs.getD x.toNat 0) (qC b m bs)
 | .call s=>.XS "call" [.str s]
 | .say s b m=>.XS "say" [.str s,.int (qC b m bs)]
theorem aaL{s:Nl}{q:fP}(h:q.ok s.2.2):Right n s (q.row s.2.2):=by
 cases q with
 | put x b m=>exact⟨h.1.1,h.1.2,rfl⟩
 | call s=>exact⟨Wl,WA,λd hd=>by simp at hd;exact .inr ⟨_,hd⟩⟩
 | say s b m=>exact⟨Wl,by show 2<=3;decide,λd hd=>by
   simp at hd;obtain e|e:=hd
   .exact .inr ⟨_,e⟩
   .exact .inl ⟨_,e⟩⟩
def aoP{bs:AT}{q:fP}(h:q.ok bs):∃o m,(q.row bs).ok (o,m,bs):=⟨[],[],(aaL (n:=0) (s:=([],[],bs)) h).ok⟩
def FW(bs:AT)(q:fP):(q.row bs).d.tF=true:=by cases q<;>rfl
def tN(q:fP):q.d.tF=true:=by cases q<;>rfl
def aft(bs:AT)(q:fP):AT:=NR false (q.row bs) bs
def Yk(bs:AT)(q:fP):(aft bs q).length=bs.length:=ae9 ..
theorem afd(a:List fP):∀bs:AT,(a.foldl aft bs).length=bs.length:=by
 induction a with
 | nil=>intro bs;rfl
 | cons q a b=>intro bs;rw[A0,b,Yk]
def tO:List fP->AT->List J
 | [],_=>[]
 | q::a,bs=>q.row bs::tO a (aft bs q)
noncomputable def LY:fP->Option Str
 | .call s=>some s
 | _=>none
def wH(a:List fP):At:=a.filterMap LY
theorem afe(a:List fP)(q:fP):∀bs:AT,tO (a++[q]) bs=tO a bs++[q.row (a.foldl aft bs)]:=by
 induction a with
 | nil=>intro bs;rfl
 | cons p a b=>intro bs;rw[uj,tO,b,tO,A0,uj]
theorem afg(a:List fP):∀bs:AT,(tO a bs).length=a.length:=by
 induction a with
 | nil=>intro bs;rfl
 | cons p a b=>intro bs;rw[tO,o1,b,o1]
theorem Yl{bs b2:AT}(h:b2.length=bs.length)(q:fP)(a:q.ok bs):q.ok b2:=by
 cases q with
 | put x b m=>
  have a:=a;show(0<=x/\x<b2.length)/\G1 b2 b;unfold G1 at a ⊢;rw[h];exact a
 | call s=>trivial
 | say s b m=>
  have a:=a;show G1 b2 b;unfold G1 at a ⊢;rw[h];exact a
def mW{l:QT}{j:Nat}{x:α}(h:l[j]? = some x):l.take QA=l.take j++[x]:=by rw[x3,h];rfl
inductive It where
 | out (m:Int)|keep (m p q:Int)|way (i:Int)|UD (m:Int)|pQ (q:fP)
def It.sj:It->J
 | .out m=>.out m
 | .keep m p q=>.keep m p q
 | .way i=>.XS "way" [.int i]
 | .UD m=>.UD m
 | .pQ q=>.XS q.w q.ds
def It.d(x:It):D:=x.sj.d
def It.j(bs:AT):It->J
 | .pQ q=>q.row bs
 | x=>x.sj
def It.ok(bs:AT):It->Prop
 | .pQ q=>q.ok bs
 | _=>True
def It.af(bs:AT):It->AT
 | .pQ q=>aft bs q
 | _=>bs
def It.call:It->Option Str
 | .pQ q=>LY q
 | _=>none
noncomputable def It.told:It->Bool
 | .pQ _=>true
 | _=>false
noncomputable def N3:At:=["out","keep","way","in"]
theorem aju(x:It):decide (x.sj.w∈N3)=!x.told:=by
 cases x with
 | pQ q=>
  cases q with
  | put x b m=>rfl
  | call s=>rfl
  | say s b m=>rfl
 | out m=>rfl
 | keep m p q=>rfl
 | way i=>rfl
 | UD m=>rfl
theorem N4(x:It):x.d.tF=true:=by
 cases x with
 | pQ q=>exact tN q
 | _=>rfl
theorem afh(bs:AT)(x:It):(x.j bs).d.tF=true:=by
 cases x with
 | pQ q=>exact FW bs q
 | _=>rfl
theorem aaM(bs:AT)(x:It):(x.af bs).length=bs.length:=by
 cases x with
 | pQ q=>exact Yk bs q
 | _=>rfl
theorem uI(xs:QcL):∀bs:AT,(xs.foldl It.af bs).length=bs.length:=by
 induction xs with
 | nil=>intro bs;rfl
 | cons x xs a=>intro bs;rw[A0,a,aaM]
def Hx:List It->AT->List J
 | [],_=>[]
 | x::xs,bs=>x.j bs::Hx xs (x.af bs)
def dY(xs:QcL):At:=xs.filterMap It.call
theorem ajv(xs:QcL)(ys:QcL):∀bs:AT,Hx (xs++ys) bs=Hx xs bs++Hx ys (xs.foldl It.af bs):=by
 induction xs with
 | nil=>intro bs;rfl
 | cons p xs a=>intro bs;rw[uj,Hx,a,Hx,A0,uj]
theorem Bm(xs:QcL):∀bs:AT,(Hx xs bs).length=xs.length:=by
 induction xs with
 | nil=>intro bs;rfl
 | cons p xs a=>intro bs;rw[Hx,o1,a,o1]
theorem FY(xs:QcL):∀bs:AT,D.ck ((Hx xs bs).map J.d)=true:=by
 induction xs with
 | nil=>intro bs;rfl
 | cons x xs a=>intro bs;rw[Hx,og,D.ck,afh,a];rfl
theorem LZ(a:List fP):∀bs:AT,D.ck ((tO a bs).map J.d)=true:=by
 induction a with
 | nil=>intro bs;rfl
 | cons q a b=>intro bs;rw[tO,og,D.ck,FW,b];rfl
def RZ(xs:QcL)(x:It):dY (xs++[x])=dY xs++x.call.toList:=by
 unfold dY;simp;congr 1
theorem ajw{bs b2:AT}(h:b2.length=bs.length)(x:It)(a:x.ok bs):x.ok b2:=by
 cases x with
 | pQ q=>exact Yl h q a
 | _=>trivial
theorem Hy:∀{ds:BB},D.ck ds=true->T.cZ Qbf=true
 | [],_=>rfl
 | d::ds,h=>by simp_all [D.ck,T.cZ,Hy,T.clean]
def axM(c b a:BB):(T.tup [.lst (c.map T.sh),.lst (b.map T.sh),.lst (a.map T.sh)]).gM=.tup [.lst c,.lst b,.lst a]:=by simp[T.gM,T.fO,lu]
theorem N5{c b a:BB}(h1:D.ck c=true)(h2:D.ck b=true)(d:D.ck a=true):(T.tup [.lst (c.map T.sh),.lst (b.map T.sh),.lst (a.map T.sh)]).clean=true:=by simp_all [T.clean,T.cZ,Hy]
def Vg(bs a:AT)(q:fP):(T.tup [.lst ((a.map D.int).map T.sh),.sh (q.row bs).d]).clean=true:=by
 rw[T.clean,T.cZ,T.cZ,T.clean,T.clean,rH,FW];rfl
def aml{d:D}{ds:BB}:za (d::ds) 0=some d:=fD rfl
def afi(n:Nat):(List.replicate n [D.int (-1)]).flatten=(List.replicate n (-1:Int)).map D.int:=by simp
noncomputable def ic(ns:AT)(k:Int):Int:=if k<ns.length then ns.getD k.toNat 0 else 0
noncomputable def w6:At:=["out","put","say","shut","then","to"]
def Bo(l:AT):rW 60 (.lst Qb2):=.lst λd hd=>by
 obtain⟨i,_,rfl⟩:=n3.1 hd;exact .int _ _
def Vh(mk:Str)(i j:Int):Bool:=if mk="<" then decide (i<j) else if mk="<=" then decide (i<=j) else if mk="=" then decide (i=j) else !decide (i=j)
inductive vP where
 | Hz (op:Bool) (m:Int)
 | num (mk:Str) (b1 m1 b2 m2:Int)
noncomputable def uJ:vP->D
 | .Hz op m=>.tup [.str (if op then "open" else "shut"),.int m]
 | .num mk b1 m1 b2 m2=>.tup [.str mk,.tup [.int b1,.int m1],.tup [.int b2,.int m2]]
noncomputable def Vi:At:=["<","<=","=","!="]
def vP.Ok(n:Nat)(bs:AT):vP->Prop
 | .Hz _ m=>0<=m/\m<n
 | .num mk b1 _ b2 _=>mk∈Vi/\(b1=-1\/(0<=b1/\b1<bs.length))/\(b2=-1\/(0<=b2/\b2<bs.length))
def HB(a:vP):(uJ a).tF=true:=by cases a<;>rfl
def L0(es:AT)(t u:Int):Bool:=decide (t=u) || (decide (t=-1) || decide (u=-1)) || (decide (u∈bV es t) || decide (t∈bV es u))
variable{c:Int}
theorem afj{a:Int}:Ny cz es a c=-1\/Ny cz es a c∈bV es a:=by
 unfold Ny;cases e:(bV es a).find? _ with
 | none=>exact .inl rfl
 | some x=>exact .inr (List.mem_of_find?_eq_some e)
def RI(ks:At)(es:AT)(w v:cg):Bool:=(!decide (w.nN=-1) && !decide (v.nN=-1))&&L0 es QaM (i7 ks es v)
def atk(w v:cg):RI ks es w v=RI ks es v w:=by
 unfold RI L0;simp[Bool.and_comm (!decide (w.nN=-1))];have e1:decide (i7 ks es w=i7 ks es v)=decide (i7 ks es v=i7 ks es w):=by simp[eq_comm]
 rw[e1,Bool.or_comm (decide (i7 ks es w=-1)),Bool.or_comm (decide (i7 ks es v∈bV es _))]
noncomputable def aBb:D->Int
 | .tup (_::_::_::_::.int t::_)=>t
 | _=>0
noncomputable def C5(ln:AT)(y:Int):Nat:=ln.findIdx (λz=>decide (z=y))
variable{ln:AT}
noncomputable def afk(h:y∈ln):C5 ln y<ln.length:=List.findIdx_lt_length_of_exists ⟨y,h,WA⟩
def N6(h:y∈ln):ln[C5 ln y]? = some y:=by
 have a:=afk h;have:=List.findIdx_getElem (w:=a);exact pv a▸congrArg _ (n8 this)
def aoQ{i:Nat}(h:i<C5 ln y):ln[i]? ≠ some y:=λe=>by
 have:=List.not_of_lt_findIdx h;rw[(pd.1 e).2]at this;simp at this
def ajx(nd:ln.Nodup){i:Nat}(a:y∈ln):C5 ln y=i↔ln[i]? = some y:=by
 constructor
 .rintro rfl;exact N6 a
 .intro e;have h1:=N6 a;have b:=afk a;have hi:=(pd.1 e).1;rw[pv b]at h1;rw[pv hi]at e;have c:=(o7 h1).trans (o7 e).symm;have np:=List.pairwise_iff_getElem.1 nd;obtain z|z|z:=Nat.lt_trichotomy _ i
  .exact absurd c (np _ _ b hi z)
  .exact z
  .exact absurd c.symm (np _ _ hi b z)
noncomputable def ID(ops:AT):D->Bool
 | .tup [.str k,.int m]=>if k="open" then decide (m∈ops) else if k="shut" then !decide (m∈ops) else true
 | _=>true
def L5(ops:AT)(l:BB):Bool:=l.all (ID ops)
def vP.RU:vP->Prop
 | .Hz _ _=>True
 | .num mk _ _ _ _=>mk∈Vi
theorem vP.Ok.mk{bs:AT}{a:vP}(h:a.Ok n bs):a.RU:=by
 cases a with
 | Hz op m=>trivial
 | num mk b1 m1 b2 m2=>exact h.1
def ajy{mk:Str}(h:mk∈Vi):mk≠"open" /\ mk≠"shut":=by
 have:∀x∈Vi,x≠"open" /\ x≠"shut":=by decide +kernel
 exact this mk h
def afl(ops:AT)(op:Bool)(m:Int):ID ops (uJ (.Hz op m))=if op then decide (m∈ops) else !decide (m∈ops):=by
 cases op
 .rfl
 rfl
def zi(ops:AT)(sg:Str)(ln:AT)(w:cg):Bool:=decide (w.sign=sg)&&(decide (w.src∈ln)&&L5 ops w.asks)
def zp(ws:QM)(ops:AT)(sg:Str)(ln:AT)(n:Nat):CU:=(List.range n).filter λk=>zi ops sg ln (ws.getD k w0)
def Hc(ws:QM)(ops:AT)(sg:Str)(ln:AT):AT:=e9 (λk:Int=>(C5 ln (ws.getD k.toNat w0).src:Int)) ((zp ws ops sg ln ws.length).map λ(k:Nat)=>(k:Int))
def Ym(ws:QM)(ops:AT)(sg:Str)(ln:AT)(n:Nat):(zp ws ops sg ln n).length<=n:=by
 have:=vw (λk=>zi ops sg ln (ws.getD k w0)) (List.range n);rw[sm]at this;exact this
def afm(ws:QM)(ops:AT)(sg:Str)(ln:AT)(n:Nat):zp ws ops sg ln (n+1)=zp ws ops sg ln n++(if zi ops sg ln (ws.getD n w0)=true then [n] else []):=by
 unfold zp;rw[M1,tq,List.filter_cons,z6]
def afn(ws:QM):Prop:=∀w∈ws,∃l:List vP,w.asks=l.map uJ/\∀a∈l,a.RU
abbrev Ask:=Str×Int×Int×Int×Int
noncomputable def LI(q:Ask):D:=.tup [.str q.1,.tup [.int q.2.1,.int q.2.2.1],.tup [.int q.2.2.2.1,.int q.2.2.2.2]]
def XX(bs:AT)(q:Ask):Prop:=(q.2.1=-1\/(0<=q.2.1/\q.2.1<bs.length))/\(q.2.2.2.1=-1\/(0<=q.2.2.2.1/\q.2.2.2.1<bs.length))
def hQ(bs:AT)(q:Ask):Bool:=Vh q.1 (qC q.2.1 q.2.2.1 bs) (qC q.2.2.2.1 q.2.2.2.2 bs)
def RS(l:BB):BB:=l.filter λd=>!decide (d.ub.toS∈(["open","shut"]:At))
noncomputable def NU:vP->List Ask
 | .Hz _ _=>[]
 | .num mk b1 m1 b2 m2=>[(mk,b1,m1,b2,m2)]
theorem ajA{bs:AT}{l:List vP}(h:∀a∈l,a.Ok n bs):RS (l.map uJ)=(l.flatMap NU).map LI:=by
 unfold RS
 induction l with
 | nil=>rfl
 | cons a l b=>
  have b:=b λq c=>h q (jk _ c);have d:=h a eU;rw[og,w3,nH,← b];cases a with
  | Hz op m=>
   rw[Nb]
   .rfl
   .show ¬ (!decide ((if op=true then("open":Str) else "shut")∈(["open","shut"]:At)))=true;grind
  | num mk b1 m1 b2 m2=>
   rw[Fu]
   .rfl
   .have:∀x∈Vi,(!decide (x∈(["open","shut"]:At)))=true:=by decide +kernel
    exact this mk d.1
theorem ajB{bs:AT}{l:List vP}(h:∀a∈l,a.Ok n bs):∀q∈l.flatMap NU,XX bs q:=λq b=>by
 obtain⟨a,d,b⟩:=pw.1 b;have c:=h a d;cases a with
 | Hz op m=>cases b
 | num mk b1 m1 b2 m2=>
  exact n4.1 b▸c.2
def hD(vs:AT):D->Bool
 | .tup [.str mk,.tup [.int b1,.int m1],.tup [.int b2,.int m2]]=>Vh mk (qC b1 m1 vs) (qC b2 m2 vs)
 | _=>true
def KI(vs:AT)(w:cg):Bool:=w.asks.all (hD vs)
variable{vs:AT}
theorem aoV{bs:AT}{l:List vP}(h:∀a∈l,a.Ok n bs):(l.map uJ).all (hD vs)=(l.flatMap NU).all (hQ vs):=by
 induction l with
 | nil=>rfl
 | cons a l b=>
  have b:=b λq c=>h q (jk _ c);rw[og,JE,w3,List.all_append];congr 1;cases a with
  | Hz op m=>rfl
  | num mk b1 m1 b2 m2=>exact(Jn _).symm
def FZ(n:Nat)(bs:AT)(ws:QM):Prop:=∀w∈ws,∃l:List vP,w.asks=l.map uJ/\l.length<=2/\∀a∈l,a.Ok n bs
theorem FZ.ok{bs:AT}{ws:QM}(h:FZ n bs ws):afn ws:=λw hw=>by
 obtain⟨l,e,_,b⟩:=h w hw;exact⟨l,e,λa c=>(b a c).mk⟩
noncomputable def J6(l:AT)(s:Int):AT:=if s∈l then l else l++[s]
noncomputable def tJ(l:AT):List (Key×D):=l.map λs=>((Sum.inl s:Key),D.bl true)
theorem ajC(l:AT)(s:Int):((tJ l).any λa=>decide (a.1=Sum.inl s))=decide (s∈l):=by
 unfold tJ
 induction l with
 | nil=>rfl
 | cons y l b=>
  by_cases h:y=s
  .subst h;simp
  .have h':¬ s=y:=λe=>h e.symm;simp_all
def ajD(l:AT)(s:Int):Ls (tJ l) (.inl s) Qbh=tJ (J6 l s):=by
 unfold Ls;rw[ajC];unfold J6;by_cases h:s∈l
 .rw[cq (p8 h),cq h];unfold tJ;rw[n7];refine tH λy _=>?_;simp
 .rw[if_neg (by simpa using h),if_neg h];unfold tJ;rw[nH];rfl
def afq(l:AT):((tJ l).map (·.1)).map ZV=l.map D.int:=by
 unfold tJ;rw[n7,n7];rfl
def afr(l:AT)(s:Int):(J6 l s).length<=l.length+1:=by
 unfold J6;split<;>simp
def NL(ws:QM)(ops vs:AT)(sg:Str)(es:AT)(leaf:Int):AT:=(Hc ws ops sg (leaf::bV es leaf)).filter λk=>KI vs (ws.getD k.toNat w0)
def vb(ws:QM)(ops vs:AT)(sg:Str)(es:AT)(acc:AT)(leaf:Int):AT:=match NL ws ops vs sg es leaf with
 | []=>acc
 | k::_=>J6 acc k
noncomputable def Yj(ks:At)(x:Int):Bool:=decide (ks.getD x.toNat Str.empty="leaf")
def rA(ks:At)(ops:AT):AT:=ops.filter (Yj ks)
def QD(ws:QM)(ops vs:AT)(sg:Str)(es:AT)(l:AT):AT:=l.foldl Qhw []
theorem ajE(ws:QM)(ops vs:AT)(sg:Str)(es:AT)(acc:AT)(leaf:Int):(vb ws ops vs sg es acc leaf).length<=acc.length+1:=by
 unfold vb;split
 .lia
 .exact afr _ _
theorem Yn(ws:QM)(ops vs:AT)(sg:Str)(es:AT):∀l:AT,(QD ws ops vs sg es l).length<=l.length:=by
 have gen:∀(l acc:List _),(l.foldl Qhw acc).length<=acc.length+l.length:=by
  intro l
  induction l with
  | nil=>simp
  | cons y l a=>
   intro acc;have h1:=ajE ws ops vs sg es acc y;have:=a (vb ws ops vs sg es acc y);simp;lia
 intro l;have:=gen l [];simpa [QD] using this
def afs(ws:QM)(ops vs:AT)(sg:Str)(es:AT)(l:AT)(x:Int):QD ws ops vs sg es (l++[x])=vb ws ops vs sg es (QD ws ops vs sg es l) x:=by simp[QD]
variable{sg:Str}
theorem N7{ws:QM}(h:k∈Hc ws ops sg ln):0<=k/\k<ws.length:=by
 obtain⟨i,hi,rfl⟩:=n3.1 (mR.1 h);have:=rb.1 (oC.1 hi).1;lia
variable{j:Nat}
def aaP{p:α->Bool}{l:QT}{x:α}(h:l[j]? = some x)(b:p x=true)(c:∀y∈l.take j,p y=false):∃r,l.filter p=x::r:=by
 have d:=(pd.1 h).1;have e:=by
  have h2:=MI j l;rw[O3 d,(pd.1 h).2]at h2;exact h2.symm
 refine⟨(l.drop QA).filter p,?_⟩
 conv=>lhs;rw[e]
 rw[tq,List.filter_eq_nil_iff.2 (λy a=>by rw[c y a];decide),Fu b];rfl
noncomputable def rF(h:CC)(tp:Qfb)(tm:QfN)(s:AT×AT)(k:Int):AT×AT:=
 if h k=true then(if s.2.any (tm (tp k))=true then s else(s.1++[k],s.2++[tp k])) else(s.1++[k],s.2)
structure P8(h:CC)(tp:Qfb)(tm:QfN)(R:QhU)(P:AT)(s:AT×AT):Prop where
 sub:s.1.Sublist P
 Bp:s.2=(s.1.filter h).map tp
 apart:∀a∈s.1,∀b∈s.1,a≠b->h a=true->h b=true->tm (tp a) (tp b)=false
 over:∀x∈P,x∉s.1->h x=true/\∃y∈s.1,R y x/\h y=true/\tm (tp x) (tp y)=true
theorem amm{h:CC}{tp:Qfb}{tm:QfN}{R:QhU}(r:∀a b,tm a b=tm b a):∀(l P:AT) (s:AT×AT),(P++l).Nodup->(P++l).Pairwise R->P8 h tp tm R P s->P8 h tp tm R (P++l) (l.foldl (rF h tp tm) s)
 | [],P,s,_,_,I=>by rw[n2];exact I
 | x::l,P,s,nd,pr,I=>by
  have e:P++x::l=(P++[x])++l:=by simp
  rw[e]at nd pr ⊢;rw[A0];refine amm r l (P++[x]) _ nd pr ?_;have nx:x∉P:=λc=>by
   have:=(oT.1 (oT.1 nd).1).2.2 x c x WA;exact this rfl
  have u:∀y∈P,R y x:=λy g=>(JO.1 (JO.1 pr).1).2.2 y g x WA;have v:x∉s.1:=λc=>nx (I.sub.subset c);have keep:(∀z∈s.1,h x=true->h z=true->tm (tp x) (tp z)=false)->(h x=true->(s.1++[x],s.2++[tp x])=(s.1++[x],((s.1++[x]).filter h).map tp))->∀t,t=((s.1++[x]).filter h).map tp->P8 h tp tm R (P++[x]) (s.1++[x],t):=λhz _ t o=>by
   refine⟨I.sub.append (tj _),o,λa d b f ne n m=>?_,λy g p=>?_⟩
   .obtain d|d:=f9.1 d
    .obtain f|f:=f9.1 f
     .exact I.apart a d b f ne n m
     .rw[n4.1 f]at m ⊢;rw[r];exact hz a d m n
    .rw[n4.1 d]at n ne ⊢;obtain f|f:=f9.1 f
     .exact hz b f n m
     .exact absurd (n4.1 f).symm ne
   .have j:y∉s.1/\y≠x:=⟨λz=>p (nv _ z),λz=>p (j9 _ (by rw[z];simp))⟩;obtain g|g:=f9.1 g
    .obtain⟨h1,z,hz,h2⟩:=I.over y g j.1;exact⟨h1,z,nv _ hz,h2⟩
    .exact absurd (n4.1 g) j.2
  unfold rF;by_cases c:h x=true
  .rw[cq c];by_cases d:s.2.any (tm (tp x))=true
   .rw[cq d];obtain⟨t,o,hm⟩:=List.any_eq_true.1 d;rw[I.Bp]at o;obtain⟨y,g,rfl⟩:=n3.1 o;obtain⟨i,q⟩:=oC.1 g;refine⟨I.sub.trans (T1 _ _),I.Bp,I.apart,λz hz p=>?_⟩;obtain hz|hz:=f9.1 hz
    .exact I.over z hz p
    .rw[n4.1 hz];exact⟨c,y,i,u y (I.sub.subset i),q,hm⟩
   .rw[bF d];refine keep (λz hz _ k=>?_) (λ_=>by rw[tq,Fu c];simp[I.Bp]) _ ?_
    .cases e:tm (tp x) (tp z) with
     | false=>rfl
     | true=>exact absurd (List.any_eq_true.2 ⟨tp z,by rw[I.Bp];exact n3.2 ⟨z,oC.2 ⟨hz,k⟩,rfl⟩,e⟩) d
    .rw[tq,Fu c];simp[I.Bp]
  .rw[bF c];refine keep (λz hz k _=>absurd k c) (λk=>absurd k c) _ ?_;rw[tq,Nb c];simp[I.Bp]
theorem R0{g:Qfb}(nd:l.Nodup):(e9 g l).Pairwise λa c=>g a<g c\/(g a=g c/\C5 l a<C5 l c):=by
 have f:l=(List.range _).map _:=FF λi=>by
  simp;by_cases hi:i<l.length
  .rw[uh hi];show _=some (l.getD i 0);rw[ox,pv hi];rfl
  .rw[Fn We,Fn WD];rfl
 have b:=λi hi=>by
  have e:l[i]? = some (l.getD i 0):=by rw[ox,pv hi];rfl
  exact(ajx nd (qz e)).2 e
 have h1:e9 g l=(e9 (λi=>g (l.getD i 0)) (List.range l.length)).map λi=>l.getD i 0:=by
  conv=>lhs;rw[f]
  exact qk _ _
 rw[h1];refine List.pairwise_map.2 ((CP OT).imp_of_mem λ{i j} hi d h=>?_);have hi:=rb.1 (mR.1 hi);have d:=rb.1 (mR.1 d);rw[b i hi,b j d];exact h
def afu(es:AT)(t u:Int):L0 es t u=L0 es u t:=by
 unfold L0;have e1:decide (t=u)=decide (u=t):=by simp[eq_comm]
 rw[e1,Bool.or_comm (decide (t=-1)),Bool.or_comm (decide (u∈bV es t))]
def HC(es:AT)(ws:QM)(k:Int):Int:=-((bV es (iy ws k).src).length:Nat)
def sT(ks:At)(es:AT)(ws:QM)(l:AT):AT×AT:=l.foldl QgZ ([],[])
def afv(ks:At)(es:AT)(ws:QM)(l:AT)(k:Int):sT ks es ws (l++[k])=rF QcD Qgo (L0 es) (sT ks es ws l) k:=by
 unfold sT;simp
theorem ajF{h:CC}{tp:Qfb}{tm:QfN}(s:AT×AT)(k:Int):(rF h tp tm s k).1.length<=s.1.length+1/\(rF h tp tm s k).2.length<=s.2.length+1:=by
 unfold rF;split
 .split
  .lia
  .simp
 .simp
theorem Yo(ks:At)(es:AT)(ws:QM):∀l:AT,(sT ks es ws l).1.length<=l.length/\(sT ks es ws l).2.length<=l.length:=by
 have gen:∀(l:List _) (s:List _×List _),(l.foldl QgZ s).1.length<=s.1.length+l.length/\(l.foldl QgZ s).2.length<=s.2.length+l.length:=by
  intro l
  induction l with
  | nil=>simp
  | cons k l a=>
   intro s;have h1:=ajF (h:=pP ws) (tp:=λk=>i7 ks es QdJ) (tm:=L0 es) s k;have h2:=a (rF QcD Qgo (L0 es) s k);simp;lia
 intro l;have:=gen l ([],[]);simpa [sT] using this
def ajG{ws:QM}{row:AT}(nd:row.Nodup) :
  P8 QcD Qgo (L0 es) (λa c=>HC es ws a<HC es ws c\/(HC es ws a=HC es ws c/\C5 row a<C5 row c)) QfT (sT ks es ws QfT):=by
 have:=amm (h:=pP ws) (tp:=λk=>i7 ks es QdJ) (R:=λa c=>HC es ws a<HC es ws c\/(HC es ws a=HC es ws c/\C5 row a<C5 row c)) (afu es) QfT [] ([],[]) (by rw[wA];exact(jI row).nodup_iff.2 nd) (by rw[wA];exact R0 nd) ⟨.slnil,rfl,λa d=>(by cases d),λx b=>(by cases b)⟩;rw[wA]at this;exact this
def amn(ks:At)(es:AT)(ws:QM)(row:AT):AT:=sortI (sT ks es ws QfT).1
def LB(ws:QM)(ops vs:AT)(sg:Str)(es l:AT):AT:=l.flatMap λleaf=>(NL ws ops vs sg es leaf).take 1
def afw:x∈J6 l s↔x∈l\/x=s:=by
 unfold J6;split
 .constructor
  .exact .inl
  .rintro(h|rfl)
   .exact h
   .assumption
 .rw[f9,n4]
def Vj(h:l.Nodup):(J6 l s).Nodup:=by
 unfold J6;split
 .exact h
 .rename_i c;exact oT.2 ⟨h,WA,λa f b d e=>c (by rw[← n4.1 d,← e];exact f)⟩
theorem F0(ws:QM)(ops vs:AT)(sg:Str)(es:AT):∀(l acc:AT),acc.Nodup->(l.foldl Qhw acc).Nodup/\∀x,x∈l.foldl Qhw acc↔x∈acc\/x∈LB ws ops vs sg es l
 | [],acc,h=>⟨h,λx=>⟨.inl,λz=>by
   obtain z|z:=z
   .exact z
   .cases z⟩⟩
 | y::l,acc,h=>by
  simp;have e:LB ws _ vs sg es (y::l)=(NL ws ops vs sg es y).take 1++LB ws _ vs sg es l:=rfl;rw[e];unfold vb;generalize NL ws _ vs sg es y=f;cases f with
  | nil=>
   obtain⟨a,c⟩:=F0 ws _ vs sg es l _ h;exact⟨a,‹_› ⟩
  | cons k f=>
   obtain⟨a,c⟩:=F0 ws _ vs sg es l _ (Vj h);refine⟨a,λx=>(c x).trans ?_⟩;rw[afw,List.take_succ_cons,List.take_zero,f9,n4,or_assoc]
noncomputable def afx(ws:QM)(ops vs:AT)(sg:Str)(es l:AT):(QD ws ops vs sg es l).Nodup:=(F0 ws _ vs sg es l [] WA).1
theorem afy{ws:QM}:x∈QD ws ops vs sg es l↔x∈LB ws ops vs sg es l:=by
 have:=(F0 ws ops vs sg es l [] WA).2 x;unfold QD;simp_all
structure Yf(ws:QM)(ops vs:AT)(sg:Str)(es:AT)(k:Int):Prop where
 k0:0<=k
 k1:k<ws.length
 sign:(iy ws k).sign=sg
 src:(iy ws k).src∈ops
 fit:L5 ops (iy ws k).asks=true
 hold:KI vs QdJ=true
theorem amo{es ops:AT}(c:fM es)(up:∀x∈ops,x=0\/es.getD x.toNat 0∈ops)(d:∀x∈ops,0<=x/\x<es.length):∀(n:Nat) {x y:Int},x<n->x∈ops->y∈bV es x->y∈ops
 | 0,x,y,f,b,_=>absurd (d x b).1 We
 | n+1,x,y,f,b,a=>by
  obtain⟨x0,e⟩:=d x b;rw[gB c x0 e]at a;split at a
  .cases a
  .have g:=c.at x0 e;have he:=(up x b).resolve_left λz=>by subst z;lia
   obtain rfl|a:=eu.1 a
   .exact he
   .exact amo c up d n We he a
theorem atq{ws:QM}(f:fM es)(up:∀x∈ops,x=0\/es.getD x.toNat 0∈ops)(e:∀x∈ops,0<=x/\x<es.length)(c:∀x∈l,x∈ops)(h:k∈LB ws ops vs sg es l):Yf ws ops vs sg es k:=by
 obtain⟨leaf,hm,a⟩:=pw.1 h;have a:=w7 a;obtain⟨d,g⟩:=oC.1 a;obtain⟨k0,k1⟩:=N7 d;obtain⟨i,hi,rfl⟩:=n3.1 (mR.1 d);have b:=(oC.1 hi).2;unfold zi at b;rw[oD,oD]at b;obtain⟨g1,g2,g3⟩:=b;refine⟨k0,k1,n8 g1,?_,g3,g⟩;obtain z|z:=eu.1 (n8 g2)
 .show(ws.getD i w0).src∈ops;rw[z];simp_all
 .obtain⟨m,j⟩:=e _ (c _ hm);exact amo f up e es.length We (c _ hm) z
noncomputable def R1(cd pl:D)(pa:BB)(bs:AT)(ex:B1):B1:=("chart",.sh cd)::("place",.sh pl)::("past",.lst (pa.map T.sh))::("boxes",.sh Qep)::ex
noncomputable def oO(cd pl:D)(pa:BB)(bs:AT)(ex:Cs):Cs:=("chart",cd)::("place",pl)::("past",.lst pa)::("boxes",.lst Qbz)::ex
noncomputable def C6:Dx->B1
 | none=>[]
 | some r=>[("first_rows",.lst (r.map T.sh))]
noncomputable def JK:Dx->Cs
 | none=>[]
 | some r=>[("first_rows",.lst r)]
variable{cd pl:D}{pa:BB}{bs:AT}{ex:Cs}{eo:Dx}{m:Str}
def C7:List.lookup ("chart":Str) QeE=some cd:=M0
def tP:List.lookup ("place":Str) QeE=some pl:=rfl
def Bq:List.lookup ("past":Str) QeE=some (.lst pa):=rfl
def yw:List.lookup ("boxes":Str) QeE=some Qep:=rfl
def aaR{r:BB}:List.lookup ("first_rows":Str) (oO cd pl pa bs (JK (some r)))=some (.lst r):=rfl
theorem C8(h1:Qjw)(h2:Qjx)(c:QjB)(b:Qjy)(a:Qi6):(oO cd pl pa bs (JK eo)).lookup m=none:=by
 unfold oO;rw[iU h1,iU h2,iU c,iU b];cases eo with
 | none=>rfl
 | some r=>
  unfold JK;rw[iU a];rfl
theorem ajH(h1:Qjw)(h2:Qjx)(c:QjB)(b:Qjy)(a:Qi6):(R1 cd pl pa bs Qbt).lookup m=none:=by
 unfold R1;rw[iU h1,iU h2,iU c,iU b];cases eo with
 | none=>rfl
 | some r=>
  unfold C6;rw[iU a];rfl
theorem afz(cd pl:D)(pa:BB)(bs:AT)(eo:Dx):(R1 cd pl pa bs Qbt).length<1000:=by
 cases eo with
 | none=>exact k6 rfl
 | some r=>exact k6 rfl
noncomputable def jA(cd pl:D)(pt:Bi)(bs:AT)(ex:B1):B1:=("chart",.sh cd)::("place",.sh pl)::("past",.lst pt)::("boxes",.sh Qep)::ex
abbrev Pl:=AT×AT
noncomputable def vI(p:Pl):D:=.tup [.lst (p.1.map .int),.lst (p.2.map .int)]
abbrev vR:=Pl×AT×BB
def j6(l:QaD):Bi:=l.map λq=>.tup [.sh (vI q.1),.sh (.lst Qh1),.lst QfQ]
variable{p:D}{pt:Bi}{et:B1}{y:Addr}
theorem R3:T.gM Qln=.ins "NestRun" (oO cd pl (T.fO pt) bs (JK eo)):=by
 cases eo with
 | none=>
  rfl
 | some r=>
  unfold jA oO C6 JK;rw[T.gM,T.vO,T.vO,T.vO,T.vO,T.vO,T.vO,T.gM,T.gM,T.gM,T.gM,dF]
def C9:T.gM (.pin y Qln)=.ins "NestRun" (oO cd pl (T.fO pt) bs (JK eo)):=by
 rw[T.gM,R3]
theorem yx(h1:Qjw)(h2:Qjx)(c:QjB)(b:Qjy)(a:Qi6):(jA cd pl pt bs Qbt).lookup m=none:=by
 unfold jA;rw[iU h1,iU h2,iU c,iU b];cases eo with
 | none=>rfl
 | some r=>
  unfold C6;rw[iU a];rfl
def Vk:List.lookup ("place":Str) Qel=some (.sh pl):=rfl
def Dc:List.lookup ("past":Str) Qel=some (.lst pt):=rfl
def Vl:List.lookup ("boxes":Str) Qel=some Qdi:=rfl
def Vm:zS "place" (.sh p) Qel=jA cd p pt bs et:=rfl
def Vo{b2:AT}:zS "boxes" (.sh (.lst (b2.map .int))) Qel=jA cd pl pt b2 et:=rfl
def Vp:T.oN [.fld "place"] QgK=some (.sh pl):=rfl
def Vq:T.oN [.fld "boxes"] QgK=some Qdi:=rfl
def De:T.oN [.fld "past"] QgK=some (.lst pt):=rfl
def Vr{t2:Bi}:T.wu [.fld "past"] (.lst t2) QgK=.pin y (.ins "NestRun" (jA cd pl t2 bs et)):=rfl
def L6{a b t:T}:T.Nu [.fld "past",.ix pt.length,.ix 2] (.pin y (.ins "NestRun" QiJ))=some t:=by
 show(List.lookup ("past":Str) QiJ).bind (T.Nu [.ix pt.length,.ix 2])=_;rw[Dc];show((pt++[T.tup [a,b,t]])[pt.length]?).bind (T.Nu [.ix 2])=_;rw[Nf (iP _),Nat.sub_self];rfl
def aaS{a b t u:T}:T.U4 [.fld "past",.ix pt.length,.ix 2] u (.pin y (.ins "NestRun" QiJ))=.pin y (.ins "NestRun" (jA cd pl (pt++[T.tup [a,b,u]]) bs et)):=by
 have e2:T.r0 (.ix pt.length) (.lst (pt++[T.tup [a,b,t]]))=some (.tup [a,b,t]):=by
  show(pt++[T.tup _])[pt.length]? = _;rw[Nf WA,Nat.sub_self];rfl
 show T.pin y _=_;rw[T.U4,show T.core QdB=.lst _ from rfl,e2];show T.pin y (.ins _ (zS _ QdB _))=_;rw[List.set_append_right _ _ (iP _),Nat.sub_self];rfl
theorem Br(cd pl:D)(pt:Bi)(bs:AT)(eo:Dx):(jA cd pl pt bs Qbt).length<1000:=by
 cases eo with
 | none=>exact k6 rfl
 | some r=>exact k6 rfl
def HD(l:QaD)(q:vR):j6 (l++[q])=j6 l++[.tup [.sh (vI q.1),.sh (.lst Qh1),.lst QfQ]]:=by
 unfold j6;rw[nH];rfl
def at4:D->D
 | .tup (_::_::_::d::_)=>d
 | _=>.non
def LH:D->D
 | .tup (_::_::d::_)=>d
 | _=>.non
def Iy(d:D):It:=if d.ub.toS="out" then .out d.at2.zj else if d.ub.toS="keep" then .keep d.at2.zj (LH d).zj (at4 d).zj else if d.ub.toS="way" then .way d.at2.zj else if d.ub.toS="in" then .UD d.at2.zj
 else if d.ub.toS="put" then .pQ (.put d.at2.zj (LH d).ub.zj (LH d).at2.zj) else if d.ub.toS="call" then .pQ (.call d.at2.toS) else .pQ (.say d.at2.toS (LH d).ub.zj (LH d).at2.zj)
theorem afA(x:It):Iy x.d=x:=by
 cases x with
 | out m=>rfl
 | keep m p q=>rfl
 | way i=>rfl
 | UD m=>rfl
 | pQ q=>
  cases q with
  | put i a c=>rfl
  | call s=>rfl
  | say s a c=>rfl
def pO(m:Nat)(a:Int):Prop:=a=-1\/(0<=a/\a<(m:Int))
def uu(m:Nat):It->Prop
 | .pQ (.put i a _)=>(0<=i/\i<(m:Int))/\pO m a
 | .pQ (.say s a _)=>PyData.strOk s=true/\pO m a
 | .pQ (.call s)=>PyData.strOk s=true
 | _=>True
theorem afC{m:Nat}{x:It}(h:uu m x)(b:bs.length=m):x.ok bs:=by
 subst b;cases x with
 | pQ q=>
  cases q with
  | put i a c=>exact h
  | say s a c=>exact h.2
  | call s=>trivial
 | _=>trivial
def xc(m:Nat)(d:D):Prop:=∃q:fP,d=q.d/\uu m (.pQ q)
def XB(m:Nat)(d:D):Prop:=∃x:It,d=x.d/\uu m x
theorem xc.it{m:Nat}{d:D}(h:xc m d):XB m d:=by
 obtain⟨q,rfl,a⟩:=h;exact⟨ _,rfl,a⟩
def afD{m:Nat}{l:BB}(h:∀d∈l,XB m d):(l.map Iy).map It.d=l/\∀x∈l.map Iy,uu m x:=by
 refine⟨?_,λx a=>?_⟩
 .simp;refine(tH λd hd=>?_).trans (List.map_id _);obtain⟨x,rfl,_⟩:=h d hd;show(Iy _).d=x.d;rw[afA]
 .obtain⟨d,hd,rfl⟩:=n3.1 a;obtain⟨x,rfl,g⟩:=h d hd;rw[afA];exact g
theorem N8{P:D->Prop}{l:Ee}(h:∀a∈l,∀d∈a,P d)(k:Nat):∀d∈l.getD k [],P d:=λd hd=>by
 simp at hd;cases e:l[k]? with
 | none=>rw[e]at hd;cases hd
 | some a=>rw[e]at hd;exact h a (qz e) d hd
structure CH where
 bs:List (Str×Int)
 nm:BB
 ks:At
 es:AT
 ss:AT
 is:Ee
 os:Ee
 ws:List cg
def CH.d(c:CH):D:=iE (c.bs.map C1) c.nm (eO c.ks c.es c.ss) (c.is.map .tup) (c.os.map .tup) (c.ws.map jL)
structure CH.Ok(c:CH):Prop where
 k:nE c.ks c.es c.ss c.is c.os c.ws
 q:∀bs:AT,bs.length=c.bs.length->FZ c.es.length bs c.ws
 i:∀l∈c.is,∀d∈l,xc c.bs.length d
 o:∀l∈c.os,∀d∈l,xc c.bs.length d
 w:∀w∈c.ws,∀d∈w.Eu,xc c.bs.length d
 nl:c.nm.length=c.es.length
 bl:c.bs.length<=1000
def Gd(c:CH)(p:Pl):Prop:=∃ch:AT,(ch.length=c.es.length/\Hr (cM c.ks) c.es ch)/\p.1=iQ (aF c.ks) c.es ch (c.es.length-1)/\LX c.ks c.es p.2
def sy(c:CH)(ops bs:AT)(sg:Str):AT:=amn c.ks c.es c.ws (QD c.ws ops bs sg c.es (rA c.ks ops))
def y5(c:CH)(p:Pl)(a:AT):BB:=NY c.ks c.es c.ss c.is c.os c.ws p.2 p.1 a
def toN(c:CH)(p:Pl)(a:AT):Pl:=(N0 c.ks c.es c.ss (r8 c.ks c.es c.ws p.2 p.1 (rZ c.ws a)) p.1 (rZ c.ws a),r8 c.ks c.es c.ws p.2 p.1 (rZ c.ws a))
def goN(c:CH)(p:Pl)(sg:Str)(bs:AT):List It×Pl:=((y5 c p Qc5).map Iy,toN c p Qc5)
theorem aoX(h:nX es)(x0:0<=x)(a:Qdp)(e:x≠0):es.getD x.toNat 0 ≠ -1:=by
 obtain⟨k,b⟩:∃k:Nat,x.toNat=k+1:=⟨x.toNat-1,We⟩;obtain z|z:=h.2 k We
 .lia
 .have:=(bO h.1 We We z).1;lia
def ats{t:Int}(h:L0 es t u=false):Ap es t u:=by
 unfold L0 at h;simp at h;exact⟨h.1.2.1,h.1.2.2,h.1.1,h.2.2,h.2.1⟩
theorem att{c:CH}(h:c.Ok){p:Pl}(g:Gd c p)(bs:AT)(sg:Str):uH c.ks c.es c.ws p.1 Qc5:=by
 obtain⟨ch,⟨v,u⟩,r,t⟩:=g;have n0:=h.k.n0;have q:∀x∈p.1,0<=x/\x<c.es.length:=r▸λx a=>RW n0 a;have up:∀x∈p.1,x=0\/c.es.getD _ 0∈p.1:=λx a=>by
  obtain⟨x0,d⟩:=q x a;by_cases e:x=0
  .exact .inl e
  .right;rw[r]at a ⊢;exact Vf h.k.pre.1 _ d a (LK h.k.pre.1 x0 d (aoX h.k.pre x0 d e))
 have nd:(QD c.ws p.1 bs sg c.es (rA c.ks p.1)).Nodup:=afx ..;have b:∀k∈QD _ _ bs sg _ (rA c.ks _),Yf c.ws _ bs sg _ k:=λk o=>atq h.k.pre.1 up q (λx a=>(oC.1 a).1) (afy.1 o);have f:=ajG (ks:=c.ks) (es:=c.es) (ws:=c.ws) nd;have sub:∀k∈sy c _ bs sg,k∈QD _ _ bs sg _ _:=λk o=>(jI _).mem_iff.1 (f.sub.subset (qh.1 o));have snd:(sy c _ bs sg).Nodup:=(sortI_perm _).nodup_iff.2 (List.Nodup.sublist f.sub ((jI _).nodup_iff.2 nd));refine⟨λi hi=>⟨⟨(b i (sub i hi)).k0,(b i (sub i hi)).k1⟩,(b i (sub i hi)).src⟩,?_,?_⟩
 .have:=C2 snd λx a=>⟨(b x (sub x a)).k0,(b x (sub x a)).k1⟩;have:=h.k.wl;lia
 .unfold rZ;rw[List.pairwise_map];have:=snd;refine((this.sublist WA).imp_of_mem λ{x y} a s e=>?_);obtain⟨n,m⟩:=oC.1 a;obtain⟨l,j⟩:=oC.1 s;exact ats (f.apart x (qh.1 n) y (qh.1 l) e m j)
def aoY{c:CH}(h:c.Ok){p:Pl}{a:AT}(hs:uH c.ks c.es c.ws p.1 a):∀d∈y5 c p a,XB c.bs.length d:=λd hd=>by
 obtain z|z:=f9.1 hd
 .obtain z|z:=f9.1 z
  .obtain⟨m,_,z⟩:=pw.1 z;obtain rfl|z:=eu.1 z
   .exact⟨.out m,rfl,trivial⟩
   .obtain z|z:=f9.1 z
    .split at z
     .exact n4.1 z▸⟨.keep m _ _,rfl,trivial⟩
     .cases z
    .exact(N8 h.o _ d z).it
  .obtain⟨i,hi,z⟩:=pw.1 z;obtain rfl|z:=eu.1 z
   .exact⟨.way i,rfl,trivial⟩
   .exact(h.w _ (uF (hs.i i hi).1.1 (hs.i i hi).1.2) d z).it
 .obtain⟨m,_,z⟩:=pw.1 z;obtain rfl|z:=eu.1 z
  .exact⟨.UD m,rfl,trivial⟩
  .exact(N8 h.i _ d z).it
theorem ajJ{c:CH}(h:c.Ok){p:Pl}(g:Gd c p){b:AT}(hs:uH c.ks c.es c.ws p.1 b):(y5 c p b).length<=400/\Gd c (toN c p b):=by
 obtain⟨ch,⟨n,j⟩,e,hm⟩:=g;obtain⟨ops,mem⟩:=p;subst e;have a:=h.k;have t:∀x∈iQ (aF c.ks) c.es ch _,0<=x/\x<c.es.length:=λx o=>RW a.n0 o;have i:=kT (isAll:=aF c.ks) (es:=c.es) (ch:=ch) (c.es.length-1);have m:=hs.Lu a;have d:=Ta a j n hm QeZ;have f:=a.tree d;obtain⟨_,g2⟩:=LR a.pre.1 i t hs.ap;obtain⟨_,r,_⟩:=RQ f hs.ap m;obtain⟨s,d1,d2,q,_⟩:=RT a.kd f a.n0 n j hs.ap m;have n1:=a.n1;have sl:=hs.l;refine⟨?_,s,⟨d1,d2⟩,q,d⟩;unfold y5 NY;rw[n6,n6];have y:=(N1 (E1:=mP c.ks c.es c.ws) (mem:=mem) (bh:=r8 c.ks c.es c.ws mem Qin QeZ) a.or (pN c.ks c.es Qin QeZ)).1;have w:=(N2 (hs.GG a)).1;have v:=(Hw a.ir (z8 c.ks c.es c.ss Qlr QeZ)).1;have u:(z8 c.ks c.es c.ss Qlr QeZ).length<=c.es.length:=by unfold z8;rw[qi];exact r
 lia
structure axP(c:CH)(p:Pl)(sg:Str)(bs:AT):Prop where
 s:uH c.ks c.es c.ws p.1 Qc5
 d:(goN c p sg bs).1.map It.d=y5 c p Qc5
 g:∀x∈(goN c p sg bs).1,uu c.bs.length x
 l:(goN c p sg bs).1.length<=400
 n:Gd c (goN c p sg bs).2
def N9{c:CH}(h:c.Ok){p:Pl}(g:Gd c p)(sg:Str)(bs:AT):axP c p sg bs:=by
 have s:=att h g bs sg;obtain⟨l,n⟩:=ajJ h g s;obtain⟨i1,i2⟩:=afD (aoY h s);exact⟨s,i1,i2,by show(List.map _ _).length<=400;rw[dm];exact l,n⟩
abbrev yB:=At×Pl×AT
def zm(c:CH):Nat->yB->BB×yB
 | 0,s=>([],s)
 | j+1,s=>match zm c j s with
  | (rs,[],p)=>(rs,[],p)
  | (rs,sg::w,a,bs)=>(rs++QkH,w++dY (goN c a sg bs).1,(goN c a sg bs).2,(goN c a sg bs).1.foldl It.af bs)
def Ew(c:CH)(s:yB):BB:=(zm c 8 s).1++(if (zm c 8 s).2.1=[] then [] else [.tup [.str "rest",.int (((zm c 8 s).2.1.length:Nat):Int)]])
def r4(c:CH)(s:yB):Pl:=(zm c 8 s).2.2.1
def r3(c:CH)(s:yB):AT:=(zm c 8 s).2.2.2
def Vs(d:D):Prop:=∃w r,d=.tup (.str w::r)/\PyData.strOk w=true/\∀x∈r,(∃i,x=.int i)\/∃s,x=.str s/\PyData.strOk s=true
variable{d:D}
theorem Vs.dep(h:Vs d)(k:Nat):rW Qau d:=by
 obtain⟨w,r,rfl,hw,b⟩:=h;refine .tup λx a=>?_;obtain rfl|a:=eu.1 a
 .exact .str _ _ hw
 .obtain⟨i,rfl⟩|⟨s,rfl,hs⟩:=b x a
  .exact .int _ _
  .exact .str _ _ hs
def wI{l:BB}(h:∀d∈l,Vs d):D.ck l=true:=jo λd hd=>by
 obtain⟨w,r,rfl,_,b⟩:=h d hd;refine jo λx a=>?_;obtain rfl|a:=eu.1 a
 .rfl
 .obtain⟨i,rfl⟩|⟨s,rfl,_⟩:=b x a
  .rfl
  .rfl
def ju{l:BB}(h:∀d∈l,Vs d){k:Nat}:rW (k+2) (.lst l):=.lst λd hd=>(h d hd).dep k
theorem atv{m:Nat}{x:It}(h:uu m x)(bs:AT):Vs (x.j bs).d:=by
 cases x with
 | pQ q=>
  cases q with
  | put i a c=>exact⟨"put",[.int _,.int _,.int _],rfl,Wl,λx b=>.inl (by simp only[eu,oe,or_false]at b;obtain rfl|rfl|rfl:=b<;>exact⟨_,rfl⟩)⟩
  | say s a c=>exact⟨"say",[.str s,.int _],rfl,Wl,λx b=>by
    simp at b;obtain rfl|rfl:=b
    .exact .inr ⟨_,rfl,h.1⟩
    .exact .inl WA ⟩
  | call s=>exact⟨"call",_,rfl,Wl,λx b=>.inr ⟨s,n4.1 b,h⟩⟩
 | out i=>exact⟨"out",[.int i],rfl,Wl,λx b=>.inl ⟨i,n4.1 b⟩⟩
 | keep i p q=>exact⟨"keep",[.int i,.int p,.int q],rfl,Wl,λx b=>.inl (by simp at b;obtain rfl|rfl|rfl:=b<;>exact⟨_,rfl⟩)⟩
 | way i=>exact⟨"way",[.int i],rfl,Wl,λx b=>.inl ⟨i,n4.1 b⟩⟩
 | UD i=>exact⟨"in",[.int i],rfl,Wl,λx b=>.inl ⟨i,n4.1 b⟩⟩
theorem Vt{m:Nat}:∀{xs:QcL} (bs:AT),(∀x∈xs,uu m x)->∀d∈(Hx xs bs).map J.d,Vs d
 | [],_,_,d,hd=>by cases hd
 | x::xs,bs,h,d,hd=>by
  obtain rfl|hd:=eu.1 hd
  .exact atv (h x eU) bs
  .exact Vt _ (λy a=>h y (jk _ a)) d hd
theorem R4{m:Nat}{xs:QcL}(h:∀x∈xs,uu m x):∀x∈dY xs,PyData.strOk x=true:=λx b=>by
 obtain⟨i,hi,he⟩:=Pe.1 b;have d:=h i hi;cases i with
 | pQ q=>
  cases q with
  | call s=>cases he;exact d
  | put i a c=>cases he
  | say s a c=>cases he
 | _=>cases he
section
variable{c:CH}
theorem R5{s:yB}{j:Nat}(h:(zm c j s).2.1=[]):∀k,zm c (j+k) s=zm c j s
 | 0=>rfl
 | k+1=>by
  rw[← Nat.add_assoc,zm,R5 h k];generalize zm c j s=r at h ⊢;obtain⟨rs,w,p⟩:=r;simp_all
def HF{s:yB}{j:Nat}{rs:BB}{sg:Str}{w:At}{a:Pl}{bs:AT}(h:zm c j s=(rs,sg::w,a,bs)) :
  zm c QA s=(rs++QkH,w++dY (goN c a sg bs).1,(goN c a sg bs).2,(goN c a sg bs).1.foldl It.af bs):=by
 rw[zm,h]
structure axQ(c:CH)(n:Nat)(j:Nat)(r:BB×yB):Prop where
 a:r.1.length<=401*j
 w:r.2.1.length<=n+400*j
 g:Gd c r.2.2.1
 b:r.2.2.2.length=c.bs.length
 i:D.ck r.1=true
theorem Df(h:c.Ok){cs:At}{a:Pl}{bs:AT}(m:Gd c a)(k:Qhu):∀j,axQ c cs.length j (zm c j (cs,a,bs))
 | 0=>⟨nZ _,iP _,m,k,rfl⟩
 | j+1=>by
  obtain⟨h1,h2,b,i,f⟩:=Df h (cs:=cs) m k j;cases e:zm c j (cs,a,bs) with
  | mk rs r=>
   obtain⟨w,a2,b2⟩:=r;rw[e]at h1 h2 i f b;dsimp only at h1 h2 i f b;cases w with
   | nil=>
    rw[zm,e];exact⟨by dsimp only;lia,WA,b,i,f⟩
   | cons sg w=>
    rw[HF e];have g:=N9 h b sg b2;have s1:=g.l;have s3:(dY (goN c a2 sg b2).1).length<=(goN c a2 sg b2).1.length:=JJ _ _;rw[o1]at h2;refine⟨?_,?_,g.n,?_,?_⟩
    .dsimp only;rw[n6,o1,dm,Bm];lia
    .dsimp only;rw[n6];lia
    .exact(uI _ _).trans i
    .refine jo λd hd=>?_;obtain z|z:=f9.1 hd
     .exact jH f d z
     .obtain rfl|z:=eu.1 z
      .rfl
      .exact jH (FY _ _) d z
theorem Oa(h:c.Ok){cs:At}{a:Pl}(e:Gd c a)(b:Qhu):(Ew c (cs,a,bs)).length<=4000/\D.ck (Ew c (cs,a,bs))=true:=by
 obtain⟨h1,h2,g,i,f⟩:=Df h (cs:=cs) e b 8;unfold Ew;refine⟨?_,jo λd hd=>?_⟩
 .split<;>simp<;>lia
 .obtain z|z:=f9.1 hd
  .exact jH f d z
  .split at z
   .cases z
   .rw[n4.1 z];rfl
theorem afE(h:c.Ok){cs:At}{a:Pl}{bs:AT}(n:Gd c a)(m:Qhu)(l:∀x∈cs,PyData.strOk x=true):∀j,(∀x∈(zm c j (cs,a,bs)).2.1,PyData.strOk x=true)/\∀d∈(zm c j (cs,a,bs)).1,Vs d
 | 0=>⟨l,λd hd=>absurd hd oe⟩
 | j+1=>by
  obtain⟨b,f⟩:=afE h n m l j;obtain⟨_,_,o,_,_⟩:=Df h n m j;cases e:zm c j _ with
  | mk rs r=>
   obtain⟨w,a2,b2⟩:=r;rw[e]at f o b;cases w with
   | nil=>
    rw[zm,e];exact⟨b,f⟩
   | cons sg w=>
    rw[HF e];have k:=(N9 h o sg b2).g;refine⟨λx i=>?_,λd hd=>?_⟩
    .obtain z|z:=f9.1 i
     .exact b x (jk _ z)
     .exact R4 k x z
    .obtain z|z:=f9.1 hd
     .exact f d z
     .obtain rfl|z:=eu.1 z
      .exact⟨ _,_,rfl,Wl,λx i=>.inr ⟨sg,n4.1 i,b sg WA ⟩⟩
      .exact Vt b2 k d z
def Yp(h:c.Ok){cs:At}{a:Pl}(g:Gd c a)(f:Qhu)(e:∀x∈cs,PyData.strOk x=true):∀d∈Ew c (cs,a,bs),Vs d:=λd hd=>by
 obtain z|z:=f9.1 hd
 .exact(afE h g f e 8).2 d z
 .split at z
  .cases z
  .exact n4.1 z▸⟨ _,_,rfl,Wl,λx b=>.inl ⟨_,n4.1 b⟩⟩
end
def T4(c:CH):Pl:=(J4 c.ks c.es c.ss (List.replicate c.es.length (-1)) "new" 0,List.replicate c.es.length (-1))
def Bs(c:CH):List It:=(inR c.is (T4 c).1).map Iy
theorem ajK(a:dX QaB QR es ss Qek)(h0:0<es.length):J4 ks es ss Qek "new" 0=iQ QR es ss Q2:=by
 have b:=aaD a (far:=false) (near:=false) (d:=es.length) h0 We;rw[Yh]at b;assumption
noncomputable def Yq(ks:At)(es:AT):LX ks es Qek:=⟨Fh ..,λk a _=>.inl (by rw[ox,TZ,cq a];rfl)⟩
def R6{c:CH}(h:c.Ok):dX (bE c.ks) (aF c.ks) c.es c.ss (List.replicate c.es.length (-1)):=h.k.tree (Yq ..)
theorem afF{c:CH}(h:c.Ok):Gd c (T4 c)/\(Bs c).map It.d=inR c.is (T4 c).1/\(∀x∈Bs c,uu c.bs.length x)/\(Bs c).length<=200:=by
 have a:=R6 h;have n0:=h.k.n0;have n1:=h.k.n1;have b:=Bg a (far:=fB "new") (near:=iD "new") (d:=c.es.length) n0;have e:=ajK a n0;have f:=(Hw h.k.ir (T4 c).1).1;have hlen:(T4 c).1.length<=c.es.length:=b;obtain⟨i1,i2⟩:=afD (l:=inR _ _) λd hd=>by
  obtain⟨m,_,z⟩:=pw.1 hd;obtain rfl|z:=eu.1 z
  .exact⟨.UD m,rfl,trivial⟩
  .exact(N8 h.i _ d z).it
 exact⟨⟨ _,⟨h.k.sl,h.k.st⟩,e,Yq ..⟩,i1,i2,by show(List.map _ _).length<=200;simp;lia⟩
def aoZ{ws:QM}:∀k∈QD ws ops vs sg es l,0<=k/\k<ws.length:=λk a=>by
 obtain⟨leaf,_,z⟩:=pw.1 (afy.1 a);exact N7 (oC.1 (w7 z)).1
def gE(es:AT)(k:Nat):AT:=if (12:Int)<(([(k:Int)]++bV es k).length:Nat) then cutD ([(k:Int)]++bV es k) (some 1) none else [(k:Int)]++bV es k
theorem Ex{k:Nat}(h:fM es)(f:k+1=es.length):0<(gE es k).length/\(gE es k).length<=es.length+2/\∀x∈gE es k,0<=x/\x<es.length:=by
 have hm:∀x∈[(k:Int)]++bV es k,0<=x/\x<es.length:=λx a=>by
  obtain h1|h1:=f9.1 a
  .have:x=k:=by simp_all
   lia
  .have d:=h.at (k:=k) We We;have:=Nx h _ d.1 We h1;lia
 have c:([(k:Int)]++bV es k).length<=es.length+2:=by
  have:=yp QeU es (es.getD (k:Int).toNat 0);rw[n6];unfold bV;simp only[o1,List.length_nil];lia
 unfold gE;split
 .have e:cutD ([(k:Int)]++bV es k) (some 1) none=bV es k:=by simp[cutD,HT.JD]
  rw[e];have b:=n6 (as:=[(k:Int)]) (bs:=bV es k);simp only[o1,List.length_nil]at b;exact⟨We,We,λx a=>hm x (j9 _ a)⟩
 .exact⟨WA,c,hm⟩
theorem getD_mem(h:n<l.length):l.getD n 0∈l:=by simp_all
theorem Ob{k:Nat}(a:x∈gE es k):x=k\/x∈bV es k:=by
 have hm:=by
  unfold gE at a;split at a
  .exact List.mem_of_mem_drop (w7 a)
  .exact a
 simp_all
def ajL:nX [-1]:=⟨λk a=>by
  have:=by simpa using a
  subst this;exact⟨Int.le_refl _,Wp⟩,λk a=>by simp at a⟩
def wd(m:Nat)(p:Int):Int:=p % ((m:Int)+1)-1
noncomputable def GI(m:Nat)(p:Int):Int:=p / ((m:Int)+1) / 3
def y2(m:Nat)(p:Int):Int:=if p / ((m:Int)+1) % 3=0 then GI m p % (2*10 ^ (9:Int).toNat+1)-10 ^ (9:Int).toNat else GI m p % 7-3
def u6(m:Nat)(p:Int):Int:=if p / ((m:Int)+1) % 3=0 then GI m p / (2*10 ^ (9:Int).toNat+1) else GI m p / 7
def wN(k:Int):Str:=("w":Str)++(toString k:Str)
theorem pR{n:Int}(a:0<n)(c:n<4294967296):0<n/\n.natAbs.log2<9000:=⟨a,by
 have:n.natAbs≠0:=by lia
 rw[Nat.log2_lt this];grind⟩
def Lo(s es:AT)(k:Nat):Int:=(gE es k).getD (ic s ((k:Int)+1) % ((gE es k).length:Nat)).toNat 0
def Yr(s:AT):Nat->AT
 | 0=>[-1]
 | j+1=>Yr s j++[Lo s (Yr s j) j]
theorem Vu(s:AT):∀j,(Yr s j).length=j+1/\nX (Yr s j)
 | 0=>⟨rfl,ajL⟩
 | j+1=>by
  obtain⟨h1,h2⟩:=Vu s j;obtain⟨e,d,c⟩:=Ex h2.1 h1.symm;refine⟨by show(Yr s j++_).length=_;simp_all,?_⟩;have a:=getD_mem (l:=gE (Yr s j) j) (n:=(ic s QA % ((gE (Yr s j) j).length)).toNat) (by
   have:=o4 (ic s QA) (b:=((gE (Yr s j) j).length)) We;lia)
  exact h2.snoc h1.symm (Ob a)
noncomputable def E7:AT:=[-1,0,1,1,0,4,4]
def J7(s:AT)(n st:Nat):AT:=if st=1 then E7 else Yr s QcB
theorem atx:nX E7:=by
 refine⟨λk a=>?_,λk a=>?_⟩
 .have:∀k,k<7->-1<=E7.getD k 0/\E7.getD k 0<k:=by decide +kernel
  exact this k a
 .have a:k<6:=by have:k+1<7:=a;lia
  have:∀k,k<6->E7.getD Qau 0=k\/E7.getD Qau 0∈bV E7 k:=by decide +kernel
  exact this k a
theorem afG(s:AT){st:Nat}(a:1<=n):(J7 s n st).length=(if st=1 then 7 else n)/\nX Qgd:=by
 unfold J7;split
 .exact⟨rfl,atx⟩
 .have:=Vu s QcB;simp_all
noncomputable def zd:At:=["one","one","all"]
def T5(s:AT)(st:Nat)(es:AT)(k:Nat):Str:=if jK es (k:Int)=[] then "leaf" else if st=1 then(if k=0 then "all" else "one") else(["one","all",zd.getD st Str.empty]:At).getD (ic s (k:Nat) / 60 % 3).toNat Str.empty
def Xi(s:AT)(st:Nat)(es:AT)(k:Nat):Int:=if T5 s st es k="one" then(jK es (k:Int)).getD (ic s (k:Nat) / 180 % ((jK es (k:Int)).length:Nat)).toNat 0 else -1
theorem afH{s:AT}{st:Nat}(h:st<3)(es:AT)(k:Nat):(T5 s st es k="leaf" /\ jK es k=[])\/((T5 s st es k="one" \/ T5 s st es k="all")/\jK es k≠[]):=by
 unfold T5;by_cases e:jK es k=[]
 .exact cq e ▸ .inl ⟨rfl,e⟩
 .rw[bF e];refine .inr ⟨?_,e⟩;split
  .split
   .exact .inr rfl
   simp
  .have:∀st,st<3->∀j,j<3->(["one","all",zd.getD st Str.empty]:At).getD j Str.empty="one" \/ (["one","all",zd.getD st Str.empty]:At).getD j Str.empty="all":=by decide +kernel
   exact this st h _ We
def F2(s:AT)(st:Nat)(es:AT)(n:Nat):At:=(List.range n).map (T5 s st es)
def L7(s:AT)(st:Nat)(es:AT)(n:Nat):AT:=(List.range n).map (Xi s st es)
def afI{s:AT}{st:Nat}{k:Nat}(h:k<n):(F2 s st es n).getD k Str.empty=T5 s st es k:=by
 unfold F2;rw[ox,o2,uh h];rfl
def ao2{s:AT}{st:Nat}{k:Nat}(h:k<n):(L7 s st es n).getD k 0=Xi s st es k:=by
 unfold L7;rw[ox,o2,uh h];rfl
theorem afJ{s:AT}{st:Nat}(h:st<3){k:Nat}(e:T5 s st es k="one"):Xi s st es k∈jK es k:=by
 have a:jK es k≠[]:=by
  obtain z|z:=afH h es k
  .rw[z.1]at e;exact absurd e Wl
  .exact z.2
 have c:=List.length_pos_iff.2 a;unfold Xi;have h1:=o4 (ic s k / 180) (b:=((jK es k).length)) We;simp_all
def aty(es:AT)(k:Int):((gj 0 ((es.length:Nat):Int).toNat).filter λd=>decide (es.getD d.zj.toNat 0=k)).map (λd=>T.sh d)=((jK es k).map D.int).map T.sh:=by
 unfold jK gj;rw[yl,n7,n7,n7];have e:((λd=>decide (es.getD d.zj.toNat 0=k))∘λ(i:Nat)=>D.int (0+i))=λi=>decide (es.getD i 0=k):=by
  funext i;show decide (es.getD (0+(i:Int)).toNat 0=k)=_;rw[Eb,oo]
 rw[e];exact tH λi _=>by simp
theorem Ys(h:j<n):My n (j:Int)=some j:=by simp_all [My]
def Oc{l:QT}{a b:α}(h:l.length=j):(l++[a]).set j b=l++[b]:=by
 subst h;rw[List.set_append_right _ _ (iP _),Nat.sub_self];rfl
def R7(s:AT)(st:Nat)(es:AT)(j:Nat):((F2 s st es j).map D.str).map T.sh++[T.sh (.str (T5 s st es j))]=((F2 s st es QA).map D.str).map T.sh:=by
 unfold F2;rw[M1,nH,nH,nH];rfl
def R8(s:AT)(st:Nat)(es:AT)(j:Nat):((L7 s st es j).map D.int).map T.sh++[T.sh (.int (Xi s st es j))]=((L7 s st es QA).map D.int).map T.sh:=by
 unfold L7;rw[M1,nH,nH,nH];rfl
def Ha(s:AT)(st:Nat)(es:AT)(k:Nat):Str:=if jK es (k:Int)=[] then "leaf" else(["one","all",zd.getD st Str.empty]:At).getD (ic s (k:Nat) / 60 % 3).toNat Str.empty
def vr(m:Nat)(hs:At)(p:Int):fP:=
 if p % 5<2/\0<m then .put (p / 5 % (m:Int)) (wd m (p / 5 / (m:Int))) (y2 m (p / 5 / (m:Int)))
 else if p % 5<4 then .say (wN (p / 5 % 3)) (wd m (p / 5 / 3)) (y2 m (p / 5 / 3))
 else .call (hs.getD (p / 5 % (hs.length:Int)).toNat Str.empty)
def LF(m:Nat)(hs:At)(p:Int):Int:=
 if p % 5<2/\0<m then u6 m (p / 5 / (m:Int)) else if p % 5<4 then u6 m (p / 5 / 3) else p / 5 / (hs.length:Int)
def wq(m:Nat)(hs:At)(p:Int):Nat->Int
 | 0=>p
 | j+1=>LF m hs (wq m hs p j)
def tc(m:Nat)(hs:At)(p:Int)(n:Nat):List fP:=(List.range n).map λj=>vr m hs (wq m hs p j)
def NH(c:Int)(m:Nat)(hs:At):List fP:=tc m hs (c % 10 ^ (64:Int).toNat / 13 / 4) ([0,1,0,2].getD (c % 10 ^ (64:Int).toNat / 13 % 4).toNat 0)
theorem Yt(m:Nat)(p:Int):pO m (wd m p):=by
 have h0:=pj p (b:=m+1) We;have h1:=o4 p (b:=m+1) We;unfold pO wd;lia
def atA:∀k:Nat,k<3->PyData.strOk (wN (k:Int))=true:=by decide +kernel
variable{hs:At}
theorem ao3{m:Nat}(h0:0<hs.length)(a:∀x∈hs,PyData.strOk x=true)(p:Int):uu m (.pQ (vr m hs p)):=by
 unfold vr;split
 .exact⟨⟨pj _ We,o4 _ We⟩,Yt _ _⟩
 .split
  .refine⟨?_,Yt _ _⟩;have:=atA (p / 5 % 3).toNat We;grind
  .have b:=o4 (p / 5) (b:=hs.length) We;apply a _;simp_all
def afK{m:Nat}(h0:0<hs.length)(b:∀x∈hs,PyData.strOk x=true)(p:Int)(n:Nat):(tc m hs p n).length=n/\D.ck ((tc m hs p n).map fP.d)=true/\∀d∈(tc m hs p n).map fP.d,xc m d:=by
 refine⟨by unfold tc;simp,eZ tN _,λd hd=>?_⟩;obtain⟨q,a,rfl⟩:=n3.1 hd;obtain⟨j,_,rfl⟩:=n3.1 a;exact⟨_,rfl,ao3 h0 b _⟩
def xV(m n:Nat)(p:Int):vP:=if p % 6<2 then .Hz (decide (p % 6=0)) (p / 6 % (n:Int)) else .num (Vi.getD (p % 6-2).toNat Str.empty) (wd m (p / 6)) (y2 m (p / 6)) (wd m (u6 m (p / 6))) (y2 m (u6 m (p / 6)))
def OM(m n:Nat)(p:Int):Int:=if p % 6<2 then p / 6 / (n:Int) else u6 m (u6 m (p / 6))
def x1(m n:Nat)(p:Int):Nat->Int
 | 0=>p
 | j+1=>OM m n (x1 m n p j)
def Me(m n:Nat)(p:Int)(k:Nat):List vP:=(List.range k).map λj=>xV m n (x1 m n p j)
theorem ao4{m:Nat}(b:0<n)(a:bs.length=m)(p:Int):(xV m n p).Ok n bs:=by
 subst a;unfold xV;split
 .exact⟨pj _ We,o4 _ We⟩
 .refine⟨?_,Yt _ _,Yt _ _⟩;have c:(p % 6-2).toNat<Vi.length:=by show _<4;lia
  simp_all
noncomputable def xl:AT:=[2,5,3,6]
noncomputable def Lm:At:=["new","near","far"]
def ON:CU:=[0,1,1,2]
section
variable(c:Int)(n m:Nat)(hs:At)(st:Nat)
noncomputable def F1:Int:=c % 10 ^ (64:Int).toNat / (n:Int)
def y0:Int:=F1 c n / (hs.length:Int)
def FX:Int:=y0 c n hs / ((n:Int)+1)
def FV:Int:=FX c n hs / 3
def y1:Nat:=ON.getD (FV c n hs % 4).toNat 0
def Kt:Int:=FV c n hs / 4
def Kk:Int:=x1 m n (Kt c n hs) (y1 c n hs)
def KA:Nat:=(Kk c n m hs % 3).toNat
def sv:Int:=if st=1 then xl.getD (c % 10 ^ (64:Int).toNat % (n:Int) % 4).toNat 0 else c % 10 ^ (64:Int).toNat % (n:Int)
def u5:Int:=y0 c n hs % ((n:Int)+1)-1
def xI(x:Int):AT:=((List.range 7).filter λ(a:Nat)=>decide (E7.getD a 0=E7.getD x.toNat 0)).map λ(a:Nat)=>(a:Int)
def u4:Int:=if st=1/\u5 c n hs % 2=0 then(xI (sv c n st)).getD (u5 c n hs / 2 % 2).toNat 0 else u5 c n hs
def Gr:Str:=if u4 c n hs st=-1 then "new" else Lm.getD (FX c n hs % 3).toNat Str.empty
def xk:cg:=⟨sv c n st,hs.getD (F1 c n % (hs.length:Int)).toNat Str.empty,(Me m n (Kt c n hs) (y1 c n hs)).map uJ,(tc m hs (Kk c n m hs / 3) (KA c n m hs)).map fP.d,u4 c n hs st,Gr c n hs st⟩
end
def afL:∀k:Nat,k<4->0<=xl.getD k 0/\xl.getD k 0<7/\(xI (xl.getD k 0)).length=2/\∀x∈xI (xl.getD k 0),0<=x/\x<7:=by decide +kernel
theorem afM{st:Nat}(a:0<n)(h:st=1->n=7):0<=sv c n st/\sv c n st<n:=by
 unfold sv;split
 .have:=afL (c % 10 ^ (64:Int).toNat % n % 4).toNat We;lia
 .exact⟨pj _ We,o4 _ We⟩
theorem afN{st:Nat}(e:st=1)(k:Int):(xI (sv c n st)).length=2/\∀x∈xI (sv c n st),0<=x/\x<7:=by
 unfold sv;exact cq e▸(afL _ We).2.2
theorem ao7{st:Nat}(d:0<n)(h:st=1->n=7):u4 c n hs st=-1\/(0<=u4 c n hs st/\u4 c n hs st<n):=by
 unfold u4;split
 .rename_i e;have:=h e.1;obtain⟨b1,b2⟩:=afN (c:=c) (n:=n) e.1 0;have b:=o4 (u5 c n hs / 2) (b:=2) Wp;simp_all
 .have a:=pj (y0 c n hs) (b:=n+1) We;have b:=o4 (y0 c n hs) (b:=n+1) We;unfold u5;lia
def ao8:∀k:Nat,k<3->uE (Lm.getD k Str.empty):=by
 intro k a
 match k,a with
 | 0,_=>exact .inl rfl
 | 1,_=>exact .inr Qac
 | 2,_=>exact .inr QaK
noncomputable def we:At:=["go","go2","ago"]
noncomputable def NJ:AT:=[5,10 ^ (30:Int).toNat]
def Hn(s:AT)(k:Nat):Str×Int:=(("b":Str)++(toString (k:Int):Str),ic s (10+(k:Int)) % 10 ^ (30:Int).toNat % NJ.getD (k % 2) 0-2)
noncomputable def Ll(k:Nat):Str:=("m":Str)++(toString (k:Int):Str)
section
variable(SL:CU)(mm:Nat)(s:AT)
def zv:Int:=ic s 0 % 10 ^ (9:Int).toNat
def cst:Nat:=SL.getD (zv s % 8).toNat 0
def xt:Int:=zv s / 8
def cmd:Nat:=(1+xt s % (mm:Int)).toNat
def Hk:Int:=xt s / (mm:Int)
def Yu:Nat:=(Hk mm s % 4).toNat
def He:Int:=Hk mm s / 4
def xn:Nat:=(1+He mm s % 8).toNat
def Hd:Int:=He mm s / 8
def LG:At:=we.take (1+Hd mm s % 3).toNat
def xp:Int:=Hd mm s / 3
def t5:At:=if cst SL s=1/\0<xp mm s % 3 then ["go"] else LG mm s
def NO:Int:=if cst SL s=1 then xp mm s / 3 else xp mm s
def zO:Nat:=if cst SL s=2 then(11+NO SL mm s % 20).toNat else cmd mm s
def vQ:AT:=J7 s (zO SL mm s) Qd4
def zt:List cg:=e9 cg.src ((List.range (xn mm s)).map λ(k:Nat)=>xk QhH (vQ SL mm s).length (Yu mm s) (t5 SL mm s) Qd4)
def wt(j:Int):Ee:=(List.range (vQ SL mm s).length).map λ(k:Nat)=>(NH (ic s (j+(k:Int))) (Yu mm s) (t5 SL mm s)).map fP.d
def Hm:CH:=⟨(List.range (Yu mm s)).map (Hn s),((List.range (vQ SL mm s).length).map Ll).map .str,F2 s Qd4 Qe2 (vQ SL mm s).length,vQ SL mm s,L7 s Qd4 Qe2 (vQ SL mm s).length,wt SL mm s 1,wt SL mm s 2,zt SL mm s⟩
end
section
variable{SL:CU}{mm:Nat}{s:AT}
theorem afP(h:∀x∈SL,x<3):cst SL s<3:=by
 unfold cst;simp;cases e:SL[(zv s % 8).toNat]? with
 | none=>decide
 | some x=>exact h x (qz e)
theorem Vv:0<(t5 SL mm s).length/\(t5 SL mm s).length<=3/\∀x∈t5 SL mm s,PyData.strOk x=true:=by
 have c:∀x∈we,PyData.strOk x=true:=by decide +kernel
 have b:we.length=3:=rfl;unfold t5;split
 .refine⟨Wp,Wp,λx a=>?_⟩;rw[n4.1 a];decide +kernel
 .unfold LG;grind
theorem amA(h:1<=mm/\mm<=10):1<=zO SL mm s/\zO SL mm s<=30:=by
 have c:=pj (xt s) (b:=mm) We;have d:=o4 (xt s) (b:=mm) We;unfold zO cmd;lia
theorem Vw(h:1<=mm/\mm<=10):(1<=(vQ SL mm s).length/\(vQ SL mm s).length<=30)/\nX Qe2/\(cst SL s=1->vQ SL mm s=E7):=by
 have a:=amA (SL:=SL) (s:=s) h;obtain⟨h1,h2⟩:=afG s a.1;refine⟨?_,h2,λe=>?_⟩
 .show 1<=(J7 _ _ _).length/\(J7 _ _ _).length<=30;rw[h1];split<;>lia
 .unfold vQ J7;rw[cq e]
theorem amB:Yu mm s<=3:=by
 unfold Yu;lia
theorem amC:1<=xn mm s/\xn mm s<=8:=by
 unfold xn;lia
theorem Od(j:Int):(wt SL mm s j).length=(vQ SL mm s).length/\∀l∈wt SL mm s j,(l.length<=2/\D.ck l=true)/\∀d∈l,xc (Yu mm s) d:=by
 refine⟨by unfold wt;simp,λl a=>?_⟩;obtain⟨k,_,rfl⟩:=n3.1 a;obtain⟨e,f,c⟩:=Vv;obtain⟨d1,d2,b⟩:=afK e c _ _;refine⟨⟨?_,d2⟩,b⟩;simp;show(tc _ _ _ _).length<=2;rw[d1];have:∀j,j<4->[0,1,0,2].getD j 0<=2:=by decide +kernel
 exact this _ We
structure WyG(n m:Nat)(hs:At)(w:cg):Prop where
 i:JU n w
 q:∀bs:AT,bs.length=m->∃l:List vP,w.asks=l.map uJ/\l.length<=2/\∀a∈l,a.Ok n bs
 d:∀d∈w.Eu,xc m d
 s:w.sign∈hs
theorem Vx{m:Nat}{st:Nat}(d:0<n)(e:st=1->n=7)(h0:0<hs.length)(h1:∀x∈hs,PyData.strOk x=true):WyG n m hs (xk c n m hs st):=by
 obtain⟨d1,d2,h⟩:=afK h0 h1 _ _;have g1:=o4 (F1 c n) (b:=hs.length) We;have i:y1 c n hs<=2:=by
  have:∀j,j<4->ON.getD j 0<=2:=by decide +kernel
  exact this _ We
 refine⟨⟨afM d e,ao7 d e,?_,?_,d2,eZ HB _⟩,λbs f=>⟨_,rfl,?_,λa g=>?_⟩,h,?_⟩
 .show uE (Gr c n hs st);unfold Gr;split
  .exact .inl rfl
  .exact ao8 _ We
 .show((tc _ _ _ _).map _).length<=2;rw[dm,d1];unfold KA;lia
 .unfold Me;simp_all
 .obtain⟨j,_,rfl⟩:=n3.1 g;exact ao4 d f _
 .show hs.getD _ _∈hs;simp_all
theorem afQ(h:1<=mm/\mm<=10):(zt SL mm s).length<=8/\∀w∈zt SL mm s,WyG (vQ SL mm s).length (Yu mm s) (t5 SL mm s) w:=by
 obtain⟨d,c,b⟩:=Vw (SL:=SL) (s:=s) h;obtain⟨d1,d2,a⟩:=Vv;refine⟨?_,λw hw=>?_⟩
 .unfold zt;rw[(jI _).length_eq,dm,sm];exact amC.2
 .obtain⟨k,_,rfl⟩:=n3.1 ((jI _).mem_iff.1 hw);exact Vx We (λe=>by rw[b e];rfl) d1 a
theorem apc(p:∀x∈SL,x<3)(h:1<=mm/\mm<=10):(Hm SL mm s).Ok:=by
 obtain⟨n,r,t⟩:=Vw (SL:=SL) (s:=s) h;obtain⟨o,g⟩:=afQ (SL:=SL) (s:=s) h;have i1:=Od (SL:=SL) (mm:=mm) (s:=s) 1;have i2:=Od (SL:=SL) (mm:=mm) (s:=s) 2;have j:=afP (SL:=SL) (s:=s) p;have c:(Hm SL mm s).bs.length=Yu mm s:=by show(List.map _ _).length=_;rw[dm,sm]
 have a:∀f:Nat->Str,((List.range (vQ SL mm s).length).map f).length=(vQ SL mm s).length:=λf=>by rw[dm,sm]
 refine⟨⟨n.1,by have:=n.2;show(vQ SL mm s).length<=40;lia,a _,by show(List.map _ _).length=_;rw[dm,sm];rfl,i1.1,i2.1,λk b=>?_,r,λk b e=>?_,λl a=>(i1.2 l a).1,λl a=>(i2.2 l a).1,λw hw=>(g w hw).i,o⟩,λbs m w hw=>?_,?_,?_,?_,by show(List.map _ _).length=_;rw[dm];exact a _,?_⟩
 .have b:k<(vQ SL mm s).length:=b;have e:=afI (s:=s) (st:=cst SL s) (es:=vQ SL mm s) b;have e:(Hm SL mm s).ks.getD ((k:Int)).toNat Str.empty=T5 s Qd4 Qe2 k:=by rw[oo];exact e
  unfold bE cM aF;rw[e];rcases afH j (vQ SL mm s) k (s:=s) with z|⟨z|z,_⟩
  .rw[z.1];exact .inl ⟨Wl,Wl,Wl,z.2⟩
  .rw[z];exact .inr (.inl ⟨Wl,Wl,Wl⟩)
  .rw[z];exact .inr (.inr ⟨Wl,Wl,Wl⟩)
 .have b:k<(vQ SL mm s).length:=b;have e1:=afI (s:=s) (st:=cst SL s) (es:=vQ SL mm s) b;have e2:T5 s Qd4 Qe2 k="one":=by
   rw[← e1];unfold cM at e;rw[oo]at e;exact n8 e
  show(L7 s Qd4 Qe2 (vQ SL mm s).length).getD k 0∈_;rw[ao2 b];exact afJ j e2
 .rw[c]at m;exact(g w hw).q bs m
 .rw[c];exactλl a=>(i1.2 l a).2
 .rw[c];exactλl a=>(i2.2 l a).2
 .rw[c];exactλw hw=>(g w hw).d
 .rw[c];have:=amB (mm:=mm) (s:=s);lia
end
def HG{w:cg}(h:JU n w):(jL w).tF=true:=by
 obtain⟨_,_,_,_,h1,h2⟩:=h;unfold jL;rw[D.tF,D.ck,D.ck,D.ck,D.ck,D.tF,D.tF,h1,h2];rfl
seal L3.dW L3.Ut L3.cY L3.dU L3.ye L3.MH L3.Xx
abbrev Dg:=top 73
abbrev Dh:=AT×Int
abbrev L8:At:=["script","k"]
def nY:Dh->BB:=λ(ns,j)=>[.lst (ns.map .int),.int j]
def n5:Dh->Prop:=λ(ns,j)=>0<=j
def n9:Dh->T:=λ(ns,j)=>(.sh (.int (ic ns j)):T)
structure aaW(X:Cx)(CL:BC):Prop extends bN X where
 cy:Ln X 0 "script"
 T6:Ln X 1 "k"
 ig:Gl X "len"
 iu:mK X "len"
variable{X:Cx}{CL:BC}{b:Bx}
def aaX(E:aaW X CL) :
  mO X CL b Dg L8 nY n5 n9:=by
 rintro⟨ns,j⟩ h;refine fK (Lj Qcy (aQ (Fx E.iu Qdl E.ig))).1 (λa=>?_) (λa=>?_)
 .have e:=by simpa using of_decide_eq_true a
  apply bG (dB (bY Qdl Qcy (g8 h e)) rfl);show T.sh _=T.sh _;rw[ic,cq e]
 .have e:¬ j<ns.length:=by simpa using of_decide_eq_false a
  refine ak (bG bM ?_);show T.sh _=T.sh _;rw[ic,bF e]
def uK:FG L8 ["script","k"] ["len"] (ai Dg):=fG
abbrev Vy:=top 74
abbrev Oe:=Addr×Int×Int
noncomputable abbrev afR:At:=["pot","many","digit"]
noncomputable def lG:Oe->Bi:=λ(y,p,m)=>[.pin y Qhv,.sh QdC]
noncomputable def lH:Oe->Bi:=λ(y,p,m)=>[.pin y (.lst [.sh (.int (p / m))]),.sh QdC]
def pre_take:Oe->Prop:=λ(y,p,m)=>0<m/\m.natAbs.log2<9000
noncomputable def lI:Oe->T:=λ(y,p,m)=>(.sh (.int (p % m)):T)
structure apd(X:Cx)(CL:BC):Prop extends bN X where
 dI:Ln X 0 "pot"
 dZ:Ln X 1 "many"
 Yv:Ln X 2 "digit"
def ape(E:apd X CL) :
  wb X CL b Vy afR lG pre_take lI lH:=by
 rintro⟨y,p,m⟩ h;exact bu E.g E.Yv (jD QkI Qd7 h.1) (CT (aep QkI Qd7 h) (cD E.dI.1 rfl) ao rfl rfl rfl (bG (v_ E.Yv.1) ⟨rfl,mS (ds:=[_])⟩))
def F3:FG afR ["pot","many"] [] (ai Vy):=fG
abbrev Vz:=top 75
abbrev VA:=AT×Int
noncomputable abbrev afS:At:=["elders","at","chain"]
noncomputable def HJ:VA->BB:=λ(es,m)=>[.lst Qcn,.int m]
def HK:VA->Prop:=λ(es,m)=>fM es/\0<=m/\m<es.length/\es.length<=1000
def HL:VA->T:=λ(es,m)=>(.lst (((m::bV es m).map .int).map T.sh):T)
structure apf(X:Cx)(CL:BC):Prop extends bN X where
 fc:Ln X 0 "elders"
 axR:Ln X 1 "at"
 kB:Ln X 2 "chain"
theorem apg(E:apf X CL) :
  mO X CL b Vz afS HJ HK HL:=by
 rintro⟨es,m⟩ h;obtain⟨e,h0,h1,hlen⟩:=h;apply bu E.g E.kB (bw (c9 (bq (v_ E.axR.1) bI) aZ) rfl);apply FD E.g (λn δ=>∃(k:Int) (l:AT),δ=[some _,some _,some (.lst (((l++[k]).map _).map _))]/\0<=k/\k<es.length/\k.toNat=n/\l++k::bV es k=m::bV es m) _ ⟨m,[],rfl,h0,h1,rfl,rfl⟩;rintro n δ ⟨k,l,rfl,k0,k1,k2,k3⟩;have j:=e.at k0 k1;have f:za ((l++[k]).map D.int) (-1)=some (.int k):=nH▸Gs _ _;have a:=gB e k0 k1;have hle:(m::bV es m).length<=es.length+2:=by rw[o1];have:(bV es m).length<=es.length+1:=yp _ _ _;lia
 refine⟨_,_,(MK QkQ Qbr).1,λc=>?_,λc=>?_⟩
 .have d:¬ es.getD k.toNat 0=-1:=by simpa using c
  rw[bF d]at a;have i:(l++[k]).length<=1100:=by
   have:=congrArg List.length k3;rw[n6]at this;rw[n6,wy];lia
  refine lz E.kB.1 rfl (dB QkQ rfl) rfl (by rw[dm,dm];lia) (ak ⟨ _,We,es.getD k.toNat 0,l++[k],?_,We,We,rfl,?_⟩)
  .rw[nH (l₂:=[es.getD _ 0]),nH (l₂:=[es.getD _ 0].map _)];rfl
  .rw[← k3,a,nr];rfl
 .have d:es.getD k.toNat 0=-1:=by simpa using c
  rw[cq d]at a;rw[a]at k3;exact k3▸bG (vM E.kB.1) rfl
def F4:FG afS ["elders","at"] [] (ai Vz):=fG
abbrev HM:=top 76
abbrev HN:=AT×Nat×Nat
noncomputable abbrev R9:At:=["script","moods","style","elders","k","chain"]
noncomputable def z9:HN->BB:=λ(s,n,st)=>[.lst (s.map .int),.int n,.int st]
def Aa:HN->Prop:=λ(s,n,st)=>s.length<=1000/\1<=n/\n<=40
def Ab:HN->T:=λ(s,n,st)=>(.lst (((J7 s n st).map .int).map T.sh):T)
structure afT(X:Cx)(CL:BC):Prop extends bN X where
 cy:Ln X 0 "script"
 fS:Ln X 1 "moods"
 iX:Ln X 2 "style"
 fc:Ln X 3 "elders"
 T6:Ln X 4 "k"
 kB:Ln X 5 "chain"
 gJ:Gl X "range"
 Sb:Gl X "_law_line"
 ig:Gl X "len"
 iF:Gl X "_law_cell_at"
 gK:mK X "range"
 aph:Fc X CL "_law_line" 1 2 HJ HK HL
 iu:mK X "len"
 jh:Fc X CL "_law_cell_at" 1 2 nY n5 n9
theorem afU(E:afT X CL) :
  mO X CL b HM R9 z9 Aa Ab:=by
 rintro⟨s,n,st⟩ h;obtain⟨_,w,t⟩:=h;show dW X CL b _ _ {nx:=_,rt:=λf _=>f=T.lst _,bk:=_,ct:=_};refine fK (eW Qcz ao).1 (λc=>?_) (λc=>ak ?_)
 .have e:st=1:=by lia
  exact show J7 s n st=E7 by unfold J7;rw[cq e]▸bG (bw (eX (aO (g7 ao) (aO bM (aO bM Qfj))) aZ) rfl) rfl
 have e:¬ st=1:=by lia
 rw[show J7 s n st=Yr s _ by unfold J7;rw[bF e]];apply bu E.g E.fc (eX (aO (g7 ao) fz) aZ);refine jn E.g E.T6 (λj δ=>∃k i,δ=[some _,some _,some _,some (.lst (((Yr s j).map _).map _)),k,i])
  (ZF E.gK ao Qd3 We E.gJ) ⟨_,_,rfl⟩ (λj δ ⟨_,_,e⟩=>by subst e;exact k6 rfl) ?turn ?fin
 case turn=>
  rintro j d δ u ⟨k,i,rfl⟩;obtain⟨rfl,x⟩:=Q8 u;obtain⟨p,v⟩:=Vu s j;have l:=v.1;obtain⟨o,m,q⟩:=Ex l p.symm;have r:Yr s QA=Yr s j++[Lo s _ j]:=rfl;show dW X CL b _ _ _;rw[r];generalize Yr s j=es at p l o m q ⊢;refine bu E.g E.kB (bw (c_ (es,(j:Int)) E.aph E.Sb (ah (vL E.fc.1) (ah (El (aQ (MJ Qcy ao)) We) aS)) (⟨l,We,We,We⟩) (aV _)) rfl) ?_;refine AX (λδ=>δ=[some QcS,some QaR,some Qa2,some (.lst ((es.map .int).map T.sh)),some (.sh (.int (1+j))),some (.lst (((gE es j).map .int).map T.sh))]) (alX (aQ (jq (dm ..) E.iu (vL E.kB.1) E.ig)) ao).1 (λc=>?_) (λc=>?_) ?_
  .have e:(12:Int)<(([(j:Int)]++bV es j).length):=n8 c;refine bu E.g E.kB (GJ (vL E.kB.1) (cB _) (AZ ao) Fz) (ak ?_);rw[Ra];unfold gE;rw[cq e];rfl
  .have e:¬ (12:Int)<(([(j:Int)]++bV es j).length):=ph c;apply ak;unfold gE;rw[bF e];rfl
  rintro δ rfl;have a:((es.map D.int).map T.sh)++[T.sh (.int (Lo s es j))]=((es++[Lo s es j]).map D.int).map T.sh:=by simp
  unfold Lo at a ⊢;rw[show 1+j=(j:Int)+1 by lia];generalize gE es j=rs at o m a ⊢;have b1:=pj (ic s QA) (b:=rs.length) We;have b2:=o4 (ic s QA) (b:=rs.length) We;refine lz E.fc.1 rfl (dB (bY (vL E.kB.1) (aQ (jD (aQ (c_ ((s,(j:Int)+1)) E.jh E.iF QjM (show 0<=(j:Int)+1 by lia) rfl)) (aQ (jq (dm ..) E.iu (vL E.kB.1) E.ig)) We)) (g8 b1 b2)) rfl) rfl (by rw[dm,dm];lia) (ak ?_);rw[a];exact⟨_,_,rfl⟩
 case fin=>
  rintro δ ⟨k,i,rfl⟩;apply bG (vM E.fc.1);rw[show(gj 1 _).length=n-1 by simp[gj]]
def iG:FG R9 ["script","moods","style"] ["range","_law_line","len","_law_cell_at"] (ai HM):=fG
abbrev wJ:=inClass (top 10) 0
abbrev wK:=At×AT×AT
noncomputable abbrev Ey:At:=["self","kinds","elders","starts"]
noncomputable def zo:wK->BB:=λ(ks,es,ss)=>[.lst QdT,.lst Qcn,.lst QdU]
def zq:wK->Prop:=λ(ks,es,ss)=>True
def zu:wK->B1:=λ(ks,es,ss)=>(Be ks es ss:B1)
structure Sd(X:Cx)(CL:BC):Prop extends bN X where
 bJ:Ln X 0 "self"
 rM:Ln X 1 "kinds"
 fc:Ln X 2 "elders"
 tQ:Ln X 3 "starts"
 cN:Gl X "list"
 cO:mK X "list"
 c6:jC X.K Qap
 cQ:aU X.K Qap "kinds"
 d7:aU X.K Qap "elders"
 r9:aU X.K Qap "starts"
def Se(E:Sd X CL)(ks:At)(es ss:AT)(y:Addr)(h:True) :
  dW X CL b (dQ wJ) (UA Ey y "Tree" [.lst QdT,.lst Qcn,.lst QdU]) {nx:=λδ=>δ[0]? = some (some (.pin y (.ins "Tree" (Be ks es ss)))),rt:=λ_ _=>False}:=by
 have hi:D.ck (ks.map D.str)=true:=eZ Qdb _;refine jl E.c6 E.cQ E.bJ.1 (jF E.cO (aW E.rM) hi E.cN bS).m rfl Qa7 ?_;exact jl E.c6 E.d7 E.bJ.1 (jF E.cO (aW E.fc) (cB _) E.cN bS).m rfl Qa7 (jl E.c6 E.r9 E.bJ.1 (jF E.cO (aW E.tQ) (cB _) E.cN bS).m rfl Qa7 (ak rfl))
def iY:FG Ey ["self","kinds","elders","starts"] ["list"] (ai wJ):=fG
abbrev Og:=top 77
abbrev VB:=AT×Nat×Nat
noncomputable abbrev afV:At:=["script","moods","style","elders","kinds","starts","k","near"]
noncomputable def HP:VB->BB:=λ(s,n,st)=>[.lst (s.map .int),.int n,.int st]
def HQ:VB->Prop:=λ(s,n,st)=>s.length<=1000/\1<=n/\n<=40/\st<3
def HR:VB->T:=λ(s,n,st)=>(.ins "Tree" (Be (F2 s st Qgd (J7 s n st).length) Qgd (L7 s st Qgd (J7 s n st).length)):T)
structure apk(X:Cx)(CL:BC):Prop extends bN X where
 cy:Ln X 0 "script"
 fS:Ln X 1 "moods"
 iX:Ln X 2 "style"
 fc:Ln X 3 "elders"
 HS:Bd X "elders"
 rM:Ln X 4 "kinds"
 tQ:Ln X 5 "starts"
 T6:Ln X 6 "k"
 k_k:Bd X "k"
 HV:Ln X 7 "near"
 J8:Gl X "_law_elders"
 gJ:Gl X "range"
 ig:Gl X "len"
 iF:Gl X "_law_cell_at"
 atL:Gl X "int"
 apl:Gl X "Tree"
 afW:Fc X CL "_law_elders" 2 3 z9 Aa Ab
 gK:mK X "range"
 iu:mK X "len"
 jh:Fc X CL "_law_cell_at" 1 2 nY n5 n9
 atM:mK X "int"
 apm:Fm X CL "Tree" 1 4 zo zq zu
theorem apn(E:apk X CL) :
  mO X CL b Og afV HP HQ HR:=by
 rintro⟨s,n,st⟩ h;obtain⟨h0,w,q,y⟩:=h;refine bu E.g E.fc (eY (bw (c_ (s,n,st) E.afW E.J8 Qlw ⟨h0,w,q⟩ (aV _)) rfl)) ?_;obtain⟨A,K⟩:=afG s (st:=st) w;have t:(J7 s n st).length<=40:=by rw[A];split<;>lia
 show dW X CL b _ _ {nx:=_,rt:=λc _=>c=T.ins "Tree" (Be _ Qgd _),bk:=_,ct:=_};generalize J7 s n st=es at t ⊢;refine bu E.g E.rM QaS ?_;refine bu E.g E.tQ QaS ?_;refine jn E.g E.T6 (λj δ=>∃k f,δ=[some _,some QaR,some Qa2,some _,some (.lst (((F2 s st es j).map .str).map T.sh)),some (.lst (((L7 s st es j).map .int).map T.sh)),k,f])
  (vY E.gK (aQ (jq (dm ..) E.iu (aW E.fc) E.ig)) We E.gJ) ⟨_,_,rfl⟩ (λj δ ⟨_,_,e⟩=>by subst e;exact k6 rfl) ?turn ?fin
 case turn=>
  rintro j d δ B ⟨k,f,rfl⟩;obtain⟨rfl,L⟩:=Q8 B;rw[Eb];have lk:(F2 s st es j).length=j:=by unfold F2;rw[dm,sm]
  have ls:(L7 s st es j).length=j:=by unfold L7;rw[dm,sm]
  refine UO (p:=λd=>decide (es.getD d.zj.toNat 0=(j:Int))) (gg:=λd=>T.sh d) E.g E.HV (b8 (.cons E.fc.1 (.inl E.HS) (.cons E.T6.1 (.inl E.k_k) .nil)) Wl) (vY E.gK (aQ (jq (dm ..) E.iu (aW E.fc) E.ig)) We E.gJ) QaK (λC s0 M f0 J d hd=>?EY) (by simp[gj,p3];lia) ?rest (by exact k6 rfl) QhP
  case EY=>
   obtain⟨i,hi,rfl⟩:=n3.1 hd;have hi:=rb.1 hi;exact⟨(eW (bY (gR 1) (lF 0) (g8 (show(0:Int)<=0+(i:Int) by lia) (show 0+(i:Int)<es.length by lia))) (gR 2)).1,λ_=>v_ (J2 0)⟩
  case rest=>
  have F:((gj 0 ((es.length:Nat):Int).toNat).filter _).map (λd=>T.sh d)=((jK es j).map D.int).map T.sh:=aty es j;rw[F];refine lz E.rM.1 rfl fZ rfl (by rw[dm,dm];lia) ?_;refine lz E.tQ.1 rfl (g7 ao) rfl (by rw[dm,dm];lia) ?_;have m:(((F2 s st es j).map D.str).map T.sh).length=j:=by rw[dm,dm,lk]
  have v:(((L7 s st es j).map D.int).map T.sh).length=j:=by rw[dm,dm,ls]
  have ix:∀{x:T},My ((((F2 s st es j).map D.str).map T.sh)++[x]).length (j:Int)=some j:=λ{x}=>by rw[n6,m];exact Ys (IM j)
  have o:∀{x:T},My ((((L7 s st es j).map D.int).map T.sh)++[x]).length (j:Int)=some j:=λ{x}=>by rw[n6,v];exact Ys (IM j)
  have c0:=pj (ic s (j:Nat) / 60) (b:=3) Wp;have G:=o4 (ic s (j:Nat) / 60) (b:=3) Wp;have ne:(!MS (.lst ((jK es j).map D.int)) Qdv)=decide (jK es j≠[]):=by
   rw[show MS _ Qdv=decide (jK es j=[]) from ad0 (jK es j) []];by_cases e:jK es j=[]
   .rw[p8 e,qr (λz=>z e)];rfl
   .rw[qr e,p8 e];rfl
  refine AX (λδ=>δ=[some QcS,some QaR,some Qa2,some Qcm,some (.lst (((F2 s st es j).map .str).map T.sh++[T.sh (.str (Ha s st es j))])),some QkA,some QcW,some QiG]) (HH (GH E.u (vL E.HV.1) (cA QaS) (Bo _) (Bo [])).1 ne) (λa=>?_) (λa=>?_) ?_
  .have hz:=n8 a;refine CT (dB (bY (cA (eX (ds:=(["one","all",zd.getD st Str.empty]:At).map .str) (aO fZ (aO fZ (aO (dB (bY (cA (eX (rG (l:=zd) rfl) aZ)) Qcz (gA Str.empty (l:=zd) We (show((st:Nat):Int)<3 by lia))) rfl) fz))) aZ)) (aQ (jD (aQ (yf (aQ (c_ ((s,(j:Int))) E.jh E.iF QjM (show(0:Int)<=(j:Int) by lia) rfl)) ao ⟨Wp,Wp⟩)) ao Wp)) (gA Str.empty c0 (G))) rfl) (cD E.rM.1 rfl) Qcy rfl rfl ix (ak ?_);show [_,_,_,_,some (T.lst ((((F2 s st es j).map D.str).map T.sh++[T.sh (.str "leaf")]).set j _)),_,_,_]=_;rw[Oc m];unfold Ha;rw[bF hz]
  .have hz:jK es j=[]:=Classical.not_not.1 (ph a);refine ak ?_;unfold Ha;rw[cq hz];rfl
  rintro δ rfl;refine AX (λδ=>δ=[some QcS,some QaR,some Qa2,some Qcm,some QkV,some QkA,some QcW,some QiG]) (HH (uo (jE (eW Qcz ao).1 (λI=>(jP (GH E.u (vL E.HV.1) (cA QaS) (Bo _) (Bo [])).1)))) (show _=(decide (st=1)&&decide (jK es j≠[])) by rw[show(!MS _ (.lst (([]:AT).map D.int)))=decide (jK es j≠[]) from ne];congr 1;rw[decide_eq_decide];lia)) (λa=>?_) (λa=>?_) ?_
  .rw[oD]at a;have h1:=n8 a.1;have hz:=n8 a.2;refine CT (dB (bY (cA (eX (rG rfl) aZ)) (aQ (air E.atM (aQ (eW Qcy ao).2) E.atL)) (gA Str.empty (by split<;>decide) (by split<;>decide))) rfl) (cD E.rM.1 rfl) Qcy rfl rfl ix (ak ?_);show [_,_,_,_,some (T.lst ((((F2 s st es j).map D.str).map T.sh++[T.sh (.str (Ha s st es j))]).set j _)),_,_,_]=_;rw[Oc m,← R7];rw[show T5 s st es j=if j=0 then("all":Str) else "one" by unfold T5;rw[bF hz,cq h1]];by_cases e:j=0
   .subst e;rfl
   .rw[bF e,qr (show ¬ (j:Int)=0 by lia)];rfl
  .refine ak ?_;rw[← R7];have e:T5 s st es j=Ha s st es j:=by
    unfold T5 Ha;by_cases hz:jK es j=[]
    .rw[cq hz,cq hz]
    .have:¬ st=1:=λz=>by rw[p8 z,p8 hz]at a;exact absurd a Wp
     rw[bF hz,bF hz,bF this]
   rw[e]
  rintro δ rfl;have r:za ((F2 s st es QA).map D.str) (j:Int)=some (.str (T5 s st es j)):=by
   refine fD ?_;unfold F2;rw[o2,o2,uh (IM j)];rfl
  refine AX (λδ=>δ=[some QcS,some QaR,some Qa2,some Qcm,some QkV,some (.lst (((L7 s st es QA).map .int).map T.sh)),some QcW,some QiG]) (fj (bY (vL E.rM.1) Qcy r) cG).1 (λa=>?_) (λa=>?_) ?_
  .have e:=n8 a;have hm:=afJ y e;have H:0<(jK es j).length:=List.length_pos_of_mem hm;have b1:=pj (ic s (j:Nat) / 180) (b:=((jK es j).length:Nat)) We;have b2:=o4 (ic s (j:Nat) / 180) (b:=((jK es j).length:Nat)) We;refine CT (dB (bY (vL E.HV.1) (aQ (jD (aQ (yf (aQ (c_ ((s,(j:Int))) E.jh E.iF QjM (show(0:Int)<=(j:Int) by lia) rfl)) ao ⟨Wp,Wp⟩)) (aQ (jq (dm ..) E.iu (vL E.HV.1) E.ig)) We)) (g8 b1 b2)) rfl) (cD E.tQ.1 rfl) Qcy rfl rfl o (ak ?_);show [_,_,_,_,_,some (T.lst ((((L7 s st es j).map D.int).map T.sh++[T.sh (.int (-1))]).set j _)),_,_]=_;rw[Oc v,← R8];unfold Xi;rw[cq e]
  .have e:=ph a;refine ak ?_;rw[← R8];unfold Xi;rw[bF e]
  rintro δ rfl;exact ak ⟨_,_,rfl⟩
 case fin=>
  rintro δ ⟨k,f,rfl⟩;rw[show(gj 0 ((es.length:Nat):Int).toNat).length=es.length by simp[gj]];exact bG (bw (mk_ (F2 s st es es.length,es,L7 s st es es.length) E.apm E.apl (ah (vL E.rM.1) (ah (aW E.fc) (ah (vL E.tQ.1) aS))) trivial (Es ..)) rfl) rfl
def iA:TQ (ai Og) ([("script",dH),("moods",dH),("style",dH),("elders",.cell),("kinds",dH),("starts",dH),("k",.cell),("near",dH),("_law_elders",cu),("range",cu),("len",cu),("_law_cell_at",cu),("int",cu),("Tree",cu)])=true:=by decide +kernel
def ajP:dw afV ["script","moods","style"] (ai Og):=kg
def F5{k i:Nat}{e:Expr}{δ:BA}{q a n:Int}{p1 p2 d:Pos}(c:TX X CL "_law_take" k 2 lG pre_take lI lH)(g:Gl X "_law_take")(l:Vn X i "pot")(h:δ[i]? = some (some (.pin y (.lst [.sh (.int q)]))))(he:cY X CL b e (δ.set i none) QaR (δ.set i none))(j:0<n/\n.natAbs.log2<9000)(f:a=q / n)(m:i<δ.length:=by exact k6 rfl)(s1:starEach [.Name "pot" p2,e] X.env=(false,eval (.Name "pot" p2) X.env)::starEach [e] X.env:=by exact bC rfl)(s2:Qad:=by exact bC rfl)(s3:(backTo d QjX).any (·.1)=false:=by rfl):kQ X CL b (.Call (.Name "_law_take" p1) [.Name "pot" p2,e] [] d) δ (.sh (.int (q % n))) ((δ.set i none).set i (some (.pin y (.lst [.sh (.int a)])))):=by
 subst f;exact xy (y,q,n) _ c g (A8 l h (rL he uz s2) s1) j rfl ⟨rfl,.inr rfl,trivial⟩ rfl rfl (by rw[ui];exact m) Wp s1 s3
abbrev VC:=top 78
abbrev Oh:=Addr×Int×Nat
noncomputable abbrev afX:At:=["pot","many","box","far"]
noncomputable def Bt:Oh->Bi:=λ(y,p,m)=>[.pin y Qhv,.sh QdC]
def wL:Oh->Bi:=λ(y,p,m)=>[.pin y (.lst [.sh (.int (u6 m p))]),.sh QdC]
def wM:Oh->Prop:=λ(y,p,m)=>m<=10
def wO:Oh->T:=λ(y,p,m)=>(.sh (.tup [.int (wd m p),.int (y2 m p)]):T)
structure apo(X:Cx)(CL:BC):Prop extends bN X where
 dI:Ln X 0 "pot"
 dZ:Ln X 1 "many"
 zx:Ln X 2 "box"
 amD:Ln X 3 "far"
 bz:Gl X "_law_take"
 eG:TX X CL "_law_take" 1 2 lG pre_take lI lH
def apq(E:apo X CL) :
  wb X CL b VC afX Bt wM wO wL:=by
 rintro⟨y,p,m⟩ h;dsimp [wM,wO,wL]at h ⊢;apply g9 E.g E.zx (rY (FL (F5 E.eG E.bz E.dI.1 rfl (um Qd7 ao) Qd9 rfl) bM.m) rfl);apply g9 E.g E.amD QcN;refine fK (eW (aW E.amD) ao).1 (λa=>?_) (λa=>ak ?_)
 .have a:=n8 a;refine wg (qA (ds:=[.int (wd m p),.int (GI m p % (2*10 ^ (9:Int).toNat+1)-10 ^ (9:Int).toNat)]) (fL (v_ E.zx.1).m (fL (FL (F5 E.eG E.bz E.dI.1 rfl (um (aQ (anF ao (aQ (zQ ao ao ⟨Wp,Wp,Wp⟩)) (.inl ⟨Wp,Wp⟩))) ao) QcG rfl) ((zQ ao ao ⟨Wp,Wp,Wp⟩)).m) uA)) aZ) ⟨?_,?_⟩
  .unfold y2;rw[cq a]
  .unfold u6;rw[cq a];exact mS (ds:=[_])
 .have a:=ph a;refine wg (qA (ds:=[.int (wd m p),.int (GI m p % 7-3)]) (fL (v_ E.zx.1).m (fL (FL QcN bM.m) uA)) aZ) ⟨?_,?_⟩
  .unfold y2;rw[bF a]
  .unfold u6;rw[bF a];exact mS (ds:=[_])
def yz:FG afX ["pot","many"] ["_law_take"] (ai VC):=fG
abbrev VD:=top 79
abbrev Oi:=Addr×Int×Nat×At
noncomputable abbrev afY:At:=["pot","many","heard","way","box"]
noncomputable def Bu:Oi->Bi:=λ(y,p,m,hs)=>[.pin y Qhv,.sh QdC,.sh Qil]
def Bv:Oi->Bi:=λ(y,p,m,hs)=>[.pin y (.lst [.sh (.int (LF m hs p))]),.sh QdC,.sh Qil]
def Bw:Oi->Prop:=λ(y,p,m,hs)=>m<=10/\0<hs.length/\hs.length<=10
def By:Oi->T:=λ(y,p,m,hs)=>(.sh (vr m hs p).d:T)
structure apr(X:Cx)(CL:BC):Prop extends bN X where
 dI:Ln X 0 "pot"
 dZ:Ln X 1 "many"
 jv:Ln X 2 "heard"
 gS:Ln X 3 "way"
 zx:Ln X 4 "box"
 bz:Gl X "_law_take"
 oh:Gl X "_law_term"
 atN:Gl X "str"
 ig:Gl X "len"
 eG:TX X CL "_law_take" 1 2 lG pre_take lI lH
 HW:TX X CL "_law_term" 2 2 Bt wM wO wL
 Yw:mK X "str"
 iu:mK X "len"
theorem aps(E:apr X CL) :
  wb X CL b VD afY Bu Bw By Bv:=by
 rintro⟨y,p,m,hs⟩ h;obtain⟨hm,h0,h1⟩:=h;apply g9 E.g E.gS QcN;refine fK (uo (jE (Lj QbN ao).1 (λj=>(jP (alX Qd7 ao).1)))) (λa=>?_) (λa=>ak ?_)
 .rw[oD]at a;have p1:=n8 a.1;have e:p % 5<2/\0<m:=⟨p1,We⟩;apply g9 E.g E.zx (F5 E.eG E.bz E.dI.1 rfl (v_ E.dZ.1) Qd9 rfl);refine wg (qA (ds:=[.str _,.int _,.tup _]) (fL fZ.m (fL (v_ E.zx.1).m (fL (xy (y,(p / 5 / m),m) _ E.HW E.oh QgG (show m<=10 by lia) rfl ⟨rfl,.inr rfl,trivial⟩) uA))) aZ) ⟨?_,?_⟩
  .show T.sh _=T.sh _;unfold vr;rw[cq e]
   try rfl
  .show Keeps _ [.pin y _,.sh _,.sh _];unfold LF;exact cq e▸mS (ds:=[_,_])
 have c:¬ (p % 5<2/\0<m):=λ⟨f,i⟩=>by
  rw[p8 f,p8 (show 0<(m:Int) by lia)]at a;exact absurd a Wp
 refine fK (Lj QbN ao).1 (λa=>?_) (λa=>ak ?_)
 .have a:=n8 a;have s0:=pj (p / 5) (b:=3) Wp;have cl:∀k:Nat,k<3->(toString (k:Int):Str).length<=2/\(k:Int).natAbs.log2<1920:=by decide +kernel
  obtain⟨sl,sg⟩:=cl (p / 5 % 3).toNat We;rw[show(((p / 5 % 3).toNat:Nat))=p / 5 % 3 by lia]at sl sg;refine wg (qA (ds:=[.str _,.str _,.tup _]) (fL fZ.m (fL (aeM fZ.m (aeO E.Yw E.atN QcN sg) (by rw[p3];have h1:("w":Str).length=1:=Wl;lia)) (fL (xy (y,(p / 5 / 3),m) _ E.HW E.oh QgG (show m<=10 by lia) rfl ⟨rfl,.inr rfl,trivial⟩) uA))) aZ) ⟨?_,?_⟩
  .show T.sh _=T.sh _;unfold vr;rw[bF c,cq a]
   try rfl
  .show Keeps _ [.pin y _,.sh _,.sh _];unfold LF;rw[bF c,cq a];exact mS (ds:=[_,_])
 have d:=ph a;have g0:=pj (p / 5) (b:=hs.length) We;have g1:=o4 (p / 5) (b:=hs.length) We
 .refine wg (qA (ds:=[.str _,.str _]) (fL fZ.m (fL (yo (v_ E.jv.1).m (F5 E.eG E.bz E.dI.1 rfl (jq (dm ..) E.iu (aW E.jv) E.ig) Qd9 rfl) (gA Str.empty g0 g1)) uA)) aZ) ⟨?_,?_⟩
  .show T.sh _=T.sh _;unfold vr;rw[bF c,bF d]
   try rfl
  .show Keeps _ [.pin y _,.sh _,.sh _];unfold LF;rw[bF c,bF d];exact mS (ds:=[_,_])
def nF:FG afY ["pot","many","heard"] ["_law_take","_law_term","str","len"] (ai VD):=fG
abbrev pS:=top 82
abbrev uL:=Int×Nat×At
noncomputable abbrev BD:At:=["cell","many","heard","pot"]
noncomputable def qD:uL->BB:=λ(c,m,hs)=>[.int c,.int m,.lst (hs.map .str)]
def qE:uL->Prop:=λ(c,m,hs)=>m<=10/\0<hs.length/\hs.length<=10
def qF:uL->T:=λ(c,m,hs)=>(.sh (.tup ((NH c m hs).map fP.d)):T)
structure Oj(X:Cx)(CL:BC):Prop extends bN X where
 uM:Ln X 0 "cell"
 dZ:Ln X 1 "many"
 wQ:Bd X "many"
 jv:Ln X 2 "heard"
 uN:Bd X "heard"
 dI:Ln X 3 "pot"
 Yx:Bd X "pot"
 yC:Gl X "tuple"
 gJ:Gl X "range"
 bz:Gl X "_law_take"
 yE:mK X "tuple"
 gK:mK X "range"
 eG:TX X CL "_law_take" 1 2 lG pre_take lI lH
 VF:TX X CL "_law_deed" 3 3 Bu Bw By Bv
theorem Ol(E:Oj X CL) :
  mO X CL b pS BD qD qE qF:=by
 rintro⟨c,m,hs⟩ h;have r:=h;apply bu E.g E.dI (bw (c9 (bq (yf (aQ (jD Qfd (aQ (zQ ao ao ⟨Wp,Wp,Wp⟩)) Wp)) ao ⟨Wp,Wp⟩) bI) aZ) rfl);refine Nv (i:=3) rfl λy=>?_;obtain⟨p,o⟩:∃p,p=c % 10 ^ (64:Int).toNat / 13:=⟨_,rfl⟩;show dW X CL b _ _ {nx:=_,rt:=λe _=>e=T.sh _,bk:=_,ct:=_};unfold NH;rw[← o];have s:=o4 p (b:=4) Wp;obtain⟨k,a⟩:∃k:Nat,k=[0,1,0,2].getD (p % 4).toNat 0:=⟨_,rfl⟩;have q:=by
  have:∀j,j<4->[0,1,0,2].getD j 0<=2:=by decide +kernel
  exact a▸this _ We
 rw[← a];refine wg (aeR E.yE (rY (LD (n:=k) (i:=3) (λj=>.lst [.sh (.int (wq m hs _ j))]) (λj=>(vr m hs (wq m hs (p / 4) j)).d) Qkn E.g.calm E.gK E.gJ (rY (yo (eY (eX Qfj aZ)).m QcN ?ix) rfl) We rfl Wp Wp (λC s0 u f0 t j l=>?EY)) ?ceq) (eZ tN _) E.yC) rfl
 case EY=>
  exact xy (y,wq m hs _ j,m,hs) _ (G6 E.VF) wB QkL r rfl ⟨rfl,.inr rfl,trivial⟩
 case ceq=>
  unfold tc;rw[n7,n7];rfl
 case ix=>
  obtain⟨j,l⟩:∃j:Nat,p % 4=j:=⟨(p % 4).toNat,We⟩;have f:j<4:=by lia
  rw[l,oo]at a;rw[l,a]
  match j,f with
  | 0,_=>rfl
  | 1,_=>rfl
  | 2,_=>rfl
  | 3,_=>rfl
def d8:TQ (ai pS) ([("cell",dH),("many",.cell),("heard",.cell),("pot",.cell),("tuple",cu),("range",cu),("_law_take",cu)])=true:=by decide +kernel
def J9:dw BD ["cell","many","heard"] (ai pS):=kg
abbrev Tb:=top 80
abbrev Yy:=Addr×Int×Nat×Nat
noncomputable abbrev amE:At:=["pot","many","moods","way","one"]
noncomputable def Om:Yy->Bi:=λ(y,p,m,n)=>[.pin y Qhv,.sh QdC,.sh (.int n)]
def Oo:Yy->Bi:=λ(y,p,m,n)=>[.pin y (.lst [.sh (.int (OM m n p))]),.sh QdC,.sh (.int n)]
def Oq:Yy->Prop:=λ(y,p,m,n)=>m<=10/\0<n/\n<=100
def Ot:Yy->T:=λ(y,p,m,n)=>(.sh (uJ (xV m n p)):T)
structure atP(X:Cx)(CL:BC):Prop extends bN X where
 dI:Ln X 0 "pot"
 dZ:Ln X 1 "many"
 fS:Ln X 2 "moods"
 gS:Ln X 3 "way"
 qG:Ln X 4 "one"
 bz:Gl X "_law_take"
 oh:Gl X "_law_term"
 eG:TX X CL "_law_take" 1 2 lG pre_take lI lH
 HW:TX X CL "_law_term" 2 2 Bt wM wO wL
theorem atQ(E:atP X CL) :
  wb X CL b Tb amE Om Oq Ot Oo:=by
 rintro⟨y,p,m,n⟩ h;obtain⟨hm,h0,h1⟩:=h;have w0:=pj p (b:=6) Wp;apply g9 E.g E.gS QcN;refine fK (Lj QbN ao).1 (λa=>?_) (λa=>ak ?_)
 .have a:=n8 a;refine wg (qA (ds:=[.str _,.int _]) (fL (dB (bY (cA (eX (rG (l:=(["open","shut"])) rfl) aZ)) QbN (gA Str.empty w0 (a))) rfl).m (fL (F5 E.eG E.bz E.dI.1 rfl (v_ E.fS.1) Qd9 rfl) uA)) aZ) ⟨?_,?_⟩
  .show T.sh _=T.sh _;unfold xV;have:p % 6=0\/p % 6=1:=by lia
   obtain z|z:=this<;>rw[z]<;>rfl
  .show Keeps _ [.pin y _,.sh _,.sh _];unfold OM;exact cq a▸mS (ds:=[_,_])
 have c:=ph a;refine g9 E.g E.qG (xy (y,(p / 6),m) _ E.HW E.oh QgG (show m<=10 by lia) rfl ⟨rfl,.inr rfl,trivial⟩) ?_;refine wg (qA (ds:=[.str _,.tup _,.tup _]) (fL (dB (bY (cA (eX (rG rfl) aZ)) (aQ (MJ QbN ao)) (gA Str.empty We (show p % 6-2<4 by lia))) rfl).m (fL (v_ E.qG.1).m (fL (xy (y,(u6 m _),m) _ E.HW E.oh QgG (show m<=10 by lia) rfl ⟨rfl,.inr rfl,trivial⟩) uA))) aZ) ⟨?_,?_⟩
 .show T.sh _=T.sh _;unfold xV;rw[bF c];rfl
 .show Keeps _ [.pin y _,.sh _,.sh _];unfold OM;exact bF c▸mS (ds:=[_,_])
def wR:FG amE ["pot","many","moods"] ["_law_take","_law_term"] (ai Tb):=fG
abbrev Yz:=top 81
abbrev Th:=Int×AT×Nat×At×Nat
noncomputable abbrev amF:At:=["cell","elders","many","heard","style","pot","moods","source","sign","target","mode","asks","deeds"]
noncomputable def Ou:Th->BB:=λ(c,es,m,hs,st)=>[.int c,.lst Qcn,.int m,.lst (hs.map .str),.int st]
def Ov:Th->Prop:=λ(c,es,m,hs,st)=>m<=10/\0<hs.length/\hs.length<=10/\0<es.length/\es.length<=100/\(st=1->es=E7)
def Ow:Th->T:=λ(c,es,m,hs,st)=>(.sh (jL (xk c es.length m hs st)):T)
structure atR(X:Cx)(CL:BC):Prop extends bN X where
 uM:Ln X 0 "cell"
 fc:Ln X 1 "elders"
 HS:Bd X "elders"
 dZ:Ln X 2 "many"
 wQ:Bd X "many"
 jv:Ln X 3 "heard"
 uN:Bd X "heard"
 iX:Ln X 4 "style"
 dI:Ln X 5 "pot"
 Yx:Bd X "pot"
 fS:Ln X 6 "moods"
 ajQ:Bd X "moods"
 wU:Ln X 7 "source"
 af1:Bd X "source"
 lJ:Ln X 8 "sign"
 lK:Ln X 9 "target"
 sd:Ln X 10 "mode"
 Ac:Ln X 11 "asks"
 BE:Ln X 12 "deeds"
 ig:Gl X "len"
 bz:Gl X "_law_take"
 gJ:Gl X "range"
 yC:Gl X "tuple"
 iu:mK X "len"
 eG:TX X CL "_law_take" 1 2 lG pre_take lI lH
 gK:mK X "range"
 yE:mK X "tuple"
 atU:TX X CL "_law_ask" 3 3 Om Oq Ot Oo
 VF:TX X CL "_law_deed" 3 3 Bu Bw By Bv
theorem atV(E:atR X CL) :
  mO X CL b Yz amF Ou Ov Ow:=by
 rintro⟨c,es,m,hs,st⟩ h;obtain⟨hm,h0,h1,n0,n1,hE⟩:=h;obtain⟨n,S⟩:∃n,n=es.length:=⟨_,rfl⟩;have G:st=1->n=7:=λe=>by rw[S,hE e];rfl
 have J:=afM (c:=c) (st:=st) (n:=n) We G;have I:=λe=>(afN (c:=c) (n:=n) (st:=st) e 0).1;have r:xk c n m hs st=⟨sv c n st,_,_,_,u4 c n hs st,Gr c n hs st⟩:=rfl;have R:y1 c n hs<=2:=by
  have:∀j:Nat,j<4->ON.getD j 0<=2:=by decide +kernel
  exact this _ We
 have s:Kk c n m hs % 3=(KA c n m hs:Nat):=by
  unfold KA;lia
 have q:sv c n st=if st=1 then xl.getD _ 0 else c % 10 ^ (64:Int).toNat % (n:Int):=rfl
 have e1:F1 c n=c % 10 ^ (64:Int).toNat / (n:Int):=rfl;have e2:y0 c n hs=F1 c n / (hs.length:Int):=rfl;have e0:u5 c n hs=y0 c n hs % ((n:Int)+1)-1:=rfl;have e3:FX c n hs=y0 c n hs / ((n:Int)+1):=rfl;have f:u4 c n hs st=if st=1/\u5 c n hs % 2=0 then(xI (sv c n st)).getD (u5 c n hs / 2 % 2).toNat 0 else u5 c n hs:=rfl
 have k:Gr c n hs st=if u4 c n hs st=-1 then("new":Str) else Lm.getD (FX c n hs % 3).toNat Str.empty:=rfl
 have Z:FV c n hs=FX c n hs / 3:=rfl;have t:y1 c n hs=ON.getD (FV c n hs % 4).toNat 0:=rfl;have Y:Kt c n hs=FV c n hs / 4:=rfl;have L:Kk c n m hs=x1 m n (Kt c n hs) (y1 c n hs):=rfl;generalize KA c n m hs=H at r s;generalize Kk c n m hs=u at r s L;generalize y1 c n hs=an at r R t L;generalize Kt c n hs=v at r Y L;generalize FV c n hs=z at Z t Y;generalize Gr c n hs st=mo at r k;generalize FX c n hs=w at e3 k Z;generalize u4 c n hs st=tg at r f k;generalize u5 c n hs=t0 at e0 f;generalize F1 c n=O at r e1 e2;generalize sv c n st=o at r q f J I;obtain⟨A,F⟩:∃p,p=c % 10 ^ (64:Int).toNat:=⟨_,rfl⟩;rw[← F]at q e1;refine bu E.g E.dI (bw (c9 (bq (jD Qfd (aQ (zQ ao ao ⟨Wp,Wp,Wp⟩)) Wp) bI) aZ) (t2:=.lst [.sh (.int A)]) (by rw[F])) ?_;refine Nv (i:=5) rfl λy=>?_;refine bu E.g E.fS (bw (jq (dm ..) E.iu (aW E.fc) E.ig) (t2:=.sh (.int (n:Nat))) (by rw[S])) ?_;show dW X CL b _ [some QeM,some Qcm,some Qct,some Qe1,some Qa2,some (.pin y (.lst [.sh (.int A)])),some QaR,none,none,none,none,none,none] {nx:=_,rt:=λN _=>N=T.sh (jL (xk c es.length m hs st)),bk:=_,ct:=_};rw[← S]at n0 n1 ⊢;have g0:=pj (O) (b:=(hs.length:Int)) We;have g1:=o4 (O) (b:=(hs.length:Int)) We;have m0:=pj (w) (b:=3) Wp;have m1:=o4 (w) (b:=3) Wp;refine g9 E.g E.wU (F5 E.eG E.bz E.dI.1 rfl (v_ E.fS.1) Qd9 e1) ?_;refine g9 E.g E.lJ (yo (v_ E.jv.1).m (F5 E.eG E.bz E.dI.1 rfl (jq (dm ..) E.iu (aW E.jv) E.ig) Qd9 e2) (gA Str.empty g0 g1)) ?_;refine g9 E.g E.lK (rY (FL (F5 E.eG E.bz E.dI.1 rfl (um Qd3 ao) Qd9 e3) bM.m) (t2:=.sh (.int t0)) (by rw[e0])) ?_;show dW X CL b _ [some QeM,some Qcm,some Qct,some Qe1,some Qa2,some QiZ,some QaR,some (.sh (.int (A % (n:Int)))),some _,some (.sh (.int t0)),none,none,none] _;obtain⟨sg,B⟩:∃sg,sg=hs.getD (O % (hs.length:Int)).toNat Str.empty:=⟨_,rfl⟩;rw[← B];refine AX (λδ=>δ=[some QeM,some Qcm,some Qct,some Qe1,some Qa2,some QiZ,some QaR,some (.sh (.int (o))),some QfS,some (.sh (.int (t0))),none,none,none]) (eW Qcz ao).1 (λa=>?_) (λa=>?_) ?_
 .have e:st=1:=by have:=n8 a;lia
  have a0:=pj (A % (n:Int)) (b:=4) Wp;have a1:=o4 (A % (n:Int)) (b:=4) Wp;refine bu E.g E.wU (dB (bY (cA (eX (ds:=xl.map .int) Qfj aZ)) (aQ (jD (aW E.wU) ao Wp)) (g8 (bs:=xl) a0 (show _<((4:Nat):Int) from a1))) rfl) (ak ?_);rw[q,cq e];rfl
 .have e:¬ st=1:=by have:=ph a;lia
  refine ak ?_;rw[q,bF e]
 rintro δ rfl;have u0:=pj (t0 / 2) (b:=2) Wp;have u1:=o4 (t0 / 2) (b:=2) Wp;refine AX (λδ=>δ=[some QeM,some Qcm,some Qct,some Qe1,some Qa2,some QiZ,some QaR,some (.sh (.int (o))),some QfS,some (.sh (.int (tg))),none,none,none]) (uo (jE (eW Qcz ao).1 (λW=>(jP (eW (aQ (jD (aW E.lK) ao Wp)) ao).1)))) (λa=>?_) (λa=>?_) ?_
 .rw[oD]at a;have e:st=1:=by have:=n8 a.1;lia
  have ev:=n8 a.2;have K:=hE e;have W:=I e;have P:o<7:=by have:=G e;lia
  obtain⟨bl,Ry⟩:∃bl,bl=xI o:=⟨_,rfl⟩;rw[← Ry]at W f;obtain⟨M,hx⟩:∃x,x=E7.getD o.toNat 0:=⟨_,rfl⟩;refine bu E.g E.lK (dB (bY (cA (bw (rJ (p:=λd=>decide (E7.getD d.zj.toNat 0=M)) (g:=λd=>T.sh d) (b8 (.cons E.fc.1 (.inl E.HS) (.cons E.wU.1 (.inl E.af1) .nil)) Wl) E.g.calm (vY E.gK ao We E.gJ) QaK (λC s0 H0 f0 b' d hd=>?EY) (by simp[gj,p3])) ?ceq)) (aQ (jD (aQ (yf (aW E.lK) ao ⟨Wp,Wp⟩)) ao Wp)) (g8 (bs:=bl) u0 (by rw[W];exact u1))) rfl) (ak ?_)
  case EY=>
   obtain⟨i,hi,rfl⟩:=n3.1 hd;have hi:=rb.1 hi;have hi:i<7:=hi;exact⟨(eW (El (bY (gR 1) (lF 0) (g8 (show(0:Int)<=0+(i:Int) by lia) (show 0+(i:Int)<es.length by rw[K];show 0+(i:Int)<7;lia))) (by rw[K];rfl)) (El (bY (gR 1) (gR 2) (g8 J.1 (show o<es.length by rw[K];exact P))) (by rw[K,hx]))).1,λ_=>v_ (J2 0)⟩
  case ceq=>
   refine congrArg T.lst ?_;rw[Ry];unfold xI gj;rw[← hx,yl,n7,n7,n7];have e1:((λd:D=>decide (E7.getD d.zj.toNat 0=M))∘λ(i:Nat)=>D.int (0+(i:Int)))=λ(i:Nat)=>decide (E7.getD i 0=M):=by
    funext i;show decide (E7.getD (0+(i:Int)).toNat 0=_)=_;rw[Eb,oo]
   rw[e1];exact tH λi _=>by
    show T.sh (.int (0+(i:Int)))=T.sh (.int (i:Int));rw[Eb]
  rw[f,cq ⟨e,ev⟩];rfl
 .refine ak ?_;rw[f,bF λ⟨z1,z2⟩=>by rw[p8 (show(st:Int)=1 by lia),p8 z2]at a;exact absurd a Wp]
 rintro δ rfl;refine g9 E.g E.sd (yo (eY (eX (rG (l:=Lm) rfl) aZ)).m (F5 E.eG E.bz E.dI.1 rfl bM QcG Z) (gA Str.empty (l:=Lm) m0 (show w % 3<3 from m1))) ?_;show dW X CL b _ [some QeM,some Qcm,some Qct,some Qe1,some Qa2,some (.pin y (.lst [.sh (.int z)])),some QaR,some (.sh (.int o)),some QfS,some (.sh (.int tg)),some _,none,none] _;refine AX (λδ=>δ=[some QeM,some Qcm,some Qct,some Qe1,some Qa2,some (.pin y (.lst [.sh (.int z)])),some QaR,some (.sh (.int (o))),some QfS,some (.sh (.int (tg))),some (.sh (.str (mo))),none,none]) (eW (aW E.lK) Qbr).1 (λa=>?_) (λa=>?_) ?_
 .refine bu E.g E.sd fZ (ak ?_);rw[k,cq (n8 a)];rfl
 .refine ak ?_;rw[k,bF (ph a)]
 rintro δ rfl;refine X5 (n:=an) (i:=5) (y:=y) (λj=>.lst [.sh (.int (x1 m n (v) j))]) (λj=>uJ (xV m n (x1 m n (v) j))) E.g E.Ac (b8 (.cons E.dZ.1 (.inl E.wQ) (.cons E.fS.1 (.inl E.ajQ) (.cons E.dI.1 (.inl E.Yx) .nil))) Wl) E.gK E.gJ (yo (eY (eX Qfj aZ)).m (F5 E.eG E.bz E.dI.1 rfl bM QcG Y) ?ix) We rfl Wp Wp (λC s0 H0 f0 b' j V=>?apt) ?rest (by exact k6 rfl) QhP
 case ix=>
  show za [D.int 0,.int 1,.int 1,.int 2] (z % 4)=some (.int (an:Nat));rw[t];obtain⟨j,V⟩:∃j:Nat,z % 4=j:=⟨(z % 4).toNat,We⟩;have U:j<4:=by lia
  rw[V,oo];refine fD ?_
  match j,U with
  | 0,_=>rfl
  | 1,_=>rfl
  | 2,_=>rfl
  | 3,_=>rfl
 case apt=>
  exact xy (y,x1 m n (v) j,m,n) _ (G6 E.atU) wB (A8 (J3 3) rfl (rL (v_ (J3 1)) (rL (v_ (J3 2)) uz))) ⟨hm,n0,n1⟩ rfl ⟨rfl,.inr rfl,trivial⟩
 case rest=>
 rw[← L];refine X5 (n:=H) (i:=5) (y:=y) (λj=>.lst [.sh (.int Qj7)]) (λj=>(vr m hs Qj7).d) E.g E.BE Qkn E.gK E.gJ (rY QcN (t2:=.sh (.int (H:Nat))) (by rw[s])) We rfl Wp Wp (λC s0 H0 f0 b' j V=>?apu) ?atY (by exact k6 rfl) QhP
 case apu=>
  exact xy (y,wq m hs (u / 3) j,m,hs) _ (G6 E.VF) wB QkL ⟨hm,h0,h1⟩ rfl ⟨rfl,.inr rfl,trivial⟩
 case atY=>
 have ea:((List.range an).map λj=>T.sh (uJ (xV m n (x1 m n (v) j))))=((Me m n (v) an).map uJ).map T.sh:=by unfold Me;rw[n7,n7];rfl
 have ed:((List.range H).map λj=>T.sh (vr m hs Qj7).d)=((tc m hs (u / 3) H).map fP.d).map T.sh:=by unfold tc;rw[n7,n7];rfl
 rw[ea,ed];exact bG (bw (iS (ds:=[.int (o),.str sg,.tup ((Me m n (v) an).map uJ),.tup ((tc m hs (u / 3) H).map fP.d),.int (tg),.str (mo)]) (aO (v_ E.wU.1) (aO (v_ E.lJ.1) (aO (CJ E.yE (vL E.Ac.1) (eZ HB _) E.yC) (aO (CJ E.yE (vL E.BE.1) (eZ tN _) E.yC) (aO (v_ E.lK.1) (aO (v_ E.sd.1) fz)))))) aZ) (by rw[r,B];rfl)) rfl
def gF:TQ (ai Yz) ([("cell",dH),("elders",.cell),("many",.cell),("heard",.cell),("style",dH),("pot",.cell),("moods",.cell),("source",.cell),("sign",dH),("target",dH),("mode",dH),("asks",dH),("deeds",dH),("len",cu),("_law_take",cu),("range",cu),("tuple",cu)])=true:=by decide +kernel
def apv:dw amF ["cell","elders","many","heard","style"] (ai Yz):=kg
abbrev uO:=inClass (top 7) 0
abbrev uP:=BB×BB×V×BB×BB×BB
noncomputable abbrev BF:At:=["self","boxes","names","tree","ins","outs","ways"]
noncomputable def wV:uP->BB:=λ(bs,nm,tv,is,os,ws)=>[.lst bs,.lst nm,.val tv,.lst is,.lst os,.lst ws]
def wW:uP->Prop:=λ(bs,nm,tv,is,os,ws)=>D.ck bs=true/\D.ck nm=true/\D.ck is=true/\D.ck os=true/\D.ck ws=true
def wX:uP->B1:=λ(bs,nm,tv,is,os,ws)=>(CZ bs nm (.sh (.val tv)) is os ws:B1)
structure Ox(X:Cx)(CL:BC):Prop extends bN X where
 bJ:Ln X 0 "self"
 cR:Ln X 1 "boxes"
 F6:Ln X 2 "names"
 cC:Ln X 3 "tree"
 YB:Ln X 4 "ins"
 Oz:Ln X 5 "outs"
 oQ:Ln X 6 "ways"
 cN:Gl X "list"
 cO:mK X "list"
 aP:jC X.K QE
 ay:jC X.K QU
 d9:aU X.K QE "boxes"
 bK:aU X.K QU "boxes"
 se:aU X.K QE "names"
 bL:aU X.K QE "tree"
 wY:aU X.K QE "ins"
 uQ:aU X.K QE "outs"
 bX:aU X.K QE "ways"
def OB(E:Ox X CL)(bs nm:BB)(tv:V)(is os ws:BB)(y:Addr)(h:D.ck bs=true/\D.ck nm=true/\D.ck is=true/\D.ck os=true/\D.ck ws=true) :
  dW X CL b (dQ uO) (UA BF y "Chart" [.lst bs,.lst nm,.val tv,.lst is,.lst os,.lst ws]) {nx:=λδ=>δ[0]? = some (some (.pin y (.ins "Chart" (CZ bs nm (.sh (.val tv)) is os ws)))),rt:=λ_ _=>False}:=by
 obtain⟨h1,h2,d,c,a⟩:=h;refine jl E.aP E.d9 E.bJ.1 (jF E.cO (aW E.cR) h1 E.cN bS).m rfl Qa7 ?_;refine jl E.aP E.se E.bJ.1 (jF E.cO (aW E.F6) h2 E.cN bS).m rfl Qa7 ?_;refine jl E.aP E.bL E.bJ.1 (v_ E.cC.1).m rfl Qa7 ?_;refine jl E.aP E.wY E.bJ.1 (jF E.cO (aW E.YB) d E.cN bS).m rfl Qa7 ?_;exact jl E.aP E.uQ E.bJ.1 (jF E.cO (aW E.Oz) c E.cN bS).m rfl Qa7 (jl E.aP E.bX E.bJ.1 (jF E.cO (aW E.oQ) a E.cN bS).m rfl Qa7 (ak rfl))
def ef:FG BF ["self","boxes","names","tree","ins","outs","ways"] ["list"] (ai uO):=fG
theorem axX{l:QT}{k:Nat}{z:Int}(hz:z=(k:Int)):cutD l none (some z)=l.take k:=by
 subst hz;unfold cutD;have e1:HT.JD l.length 0 none=0:=rfl;have e2:HT.JD l.length l.length (some k)=min k l.length:=by
  unfold HT.JD;simp;lia
 rw[e1,e2];simp
def qH:CU:=[0,1,0,1,0,1,0,1]
def YC(c:CH):T:=.ins "Chart" (CZ (c.bs.map C1) c.nm (.sh (eO c.ks c.es c.ss)) (c.is.map .tup) (c.os.map .tup) (c.ws.map jL))
def aaZ(c:CH):(YC c).gM=c.d:=by
 unfold YC CH.d;rw[Ve,T.gM]
def YA:∀k:Nat,k<100->((toString (k:Int):Str).length<=2/\(k:Int).natAbs.log2<1920):=by decide +kernel
abbrev F7:=top 83
abbrev OD:=AT
noncomputable abbrev YD:At:=["script","pot","style","moods","many","ways","heard","tree","boxes","ins","outs","drawn","names"]
noncomputable def yF:OD->BB:=λs=>[.lst (s.map .int)]
def yG:OD->Prop:=λs=>s.length<=1000
def yH:OD->T:=λs=>(YC (Hm qH 9 s):T)
structure ajR(X:Cx)(CL:BC):Prop extends bN X where
 cy:Ln X 0 "script"
 tR:Bd X "script"
 dI:Ln X 1 "pot"
 iX:Ln X 2 "style"
 ajS:Bd X "style"
 fS:Ln X 3 "moods"
 dZ:Ln X 4 "many"
 wQ:Bd X "many"
 oQ:Ln X 5 "ways"
 jv:Ln X 6 "heard"
 uN:Bd X "heard"
 cC:Ln X 7 "tree"
 VG:Bd X "tree"
 cR:Ln X 8 "boxes"
 YB:Ln X 9 "ins"
 Oz:Ln X 10 "outs"
 YF:Ln X 11 "drawn"
 F6:Ln X 12 "names"
 iF:Gl X "_law_cell_at"
 bz:Gl X "_law_take"
 Sf:Gl X "_law_tree"
 ig:Gl X "len"
 gJ:Gl X "range"
 ajT:Gl X "Chart"
 gT:Gl X "sorted"
 jh:Fc X CL "_law_cell_at" 1 2 nY n5 n9
 eG:TX X CL "_law_take" 1 2 lG pre_take lI lH
 apw:Fc X CL "_law_tree" 3 3 HP HQ HR
 iu:mK X "len"
 gK:mK X "range"
 ajU:Fm X CL "Chart" 1 7 wV wW wX
 gU:mK X "sorted"
 Yw:mK X "str"
 BG:Fc X CL "_law_some_deeds" 4 3 qD qE qF
 at5:Fc X CL "_law_way" 4 5 Ou Ov Ow
 c6:jC X.K Qap
 cQ:aU X.K Qap "kinds"
 d7:aU X.K Qap "elders"
 lam:Ia X CL "#_law_chart.<locals>.<lambda>" "_law_chart.<locals>.<lambda>"
 dp:X.A.depth<recursionLimit
 rm:eN 4 X.A
theorem ajV(E:ajR X CL) :
  mO X CL b F7 YD yF yG yH:=by
 intro s h;dsimp only [yG,yF,yH]at h ⊢;have ag:s.length<=1000:=h;have z0:(0:Int)<=0:=by decide
 have H:1<=9/\9<=10:=by decide
 have jB:=afP (SL:=qH) (s:=s) Wp;obtain⟨x,ZJ,J⟩:=Vv (SL:=qH) (mm:=9) (s:=s);have ar:=amA (SL:=qH) (s:=s) H;obtain⟨ba,aT,I⟩:=Vw (SL:=qH) (s:=s) H;have aw:=amB (mm:=9) (s:=s);have aa:=amC (mm:=9) (s:=s);obtain⟨ae,hw⟩:=afQ (SL:=qH) (s:=s) H;have i1:=(Od (SL:=qH) (mm:=9) (s:=s) 1).2;have i2:=(Od (SL:=qH) (mm:=9) (s:=s) 2).2;have E2:YC (Hm qH 9 s)=.ins "Chart" (CZ (((List.range (Yu 9 s)).map (Hn s)).map C1) (((List.range (vQ qH 9 s).length).map Ll).map .str) (.sh (eO (F2 s (cst qH s) (vQ qH 9 s) (vQ qH 9 s).length) (vQ qH 9 s) (L7 s (cst qH s) (vQ qH 9 s) (vQ qH 9 s).length))) ((wt qH 9 s 1).map .tup) ((wt qH 9 s 2).map .tup) ((zt qH 9 s).map jL)):=rfl;have a:zt qH 9 s=e9 cg.src ((List.range (xn 9 s)).map λ(k:Nat)=>xk QhH (vQ qH 9 s).length (Yu 9 s) (t5 qH 9 s) (cst qH s)):=rfl;have u:∀j,wt qH 9 s j=(List.range (vQ qH 9 s).length).map λ(k:Nat)=>(NH (ic s (j+(k:Int))) (Yu 9 s) (t5 qH 9 s)).map fP.d:=λ_=>rfl;have G:vQ qH 9 s=J7 s (zO qH 9 s) (cst qH s):=rfl;have V:zv s=ic s 0 % 10 ^ (9:Int).toNat:=rfl;have M:cst qH s=qH.getD (zv s % 8).toNat 0:=rfl;have eq1:xt s=zv s / 8:=rfl;have O:((cmd 9 s:Nat):Int)=1+xt s % ((9:Nat):Int):=by unfold cmd;lia
 have eq2:Hk 9 s=xt s / ((9:Nat):Int):=rfl;have N:((Yu 9 s:Nat):Int)=Hk 9 s % 4:=by unfold Yu;lia
 have eq3:He 9 s=Hk 9 s / 4:=rfl;have L:((xn 9 s:Nat):Int)=1+He 9 s % 8:=by unfold xn;lia
 have eq4:Hd 9 s=He 9 s / 8:=rfl;have P:LG 9 s=we.take (1+Hd 9 s % 3).toNat:=rfl;have eq5:xp 9 s=Hd 9 s / 3:=rfl;have t:t5 qH 9 s=if cst qH s=1/\0<xp 9 s % 3 then [("go":Str)] else LG 9 s:=rfl
 have p:NO qH 9 s=if cst qH s=1 then xp 9 s / 3 else xp 9 s:=rfl
 have r:zO qH 9 s=if cst qH s=2 then(11+NO qH 9 s % 20).toNat else cmd 9 s:=rfl
 show dW X CL b _ _ _;rw[E2];clear E2;generalize zt qH 9 s=ws at ae hw a ⊢;generalize wt qH 9 s=de at i1 i2 u ⊢;generalize vQ qH 9 s=es at ba aT I hw a u G ⊢;generalize zO qH 9 s=mo at ar G r;generalize NO qH 9 s=q6 at p r;generalize t5 qH 9 s=A at x ZJ J hw a u t;generalize xp 9 s=q5 at eq5 t p;generalize LG 9 s=h0 at P t;generalize Hd 9 s=q4 at eq4 P eq5;generalize xn 9 s=wn at aa a L;generalize He 9 s=q3 at eq3 L eq4;generalize Yu 9 s=n at aw i1 i2 hw a u N ⊢;generalize Hk 9 s=q2 at eq2 N eq3;generalize cmd 9 s=md at O r;generalize xt s=q1 at eq1 O eq2;generalize cst qH s=st at jB I a G M t p r ⊢;generalize zv s=R at V M eq1;have Z:n<=10/\0<A.length/\A.length<=10:=⟨We,x,We⟩;refine bu E.g E.dI (bw (c9 (bq (jD (aQ (c_ ((s,0)) E.jh E.iF (ah Qdl (ah ao aS)) (z0) rfl)) (aQ (zQ ao ao ⟨Wp,Wp,Wp⟩)) Wp) bI) aZ) (t2:=.lst [.sh (.int R)]) (by rw[V])) ?_;refine Nv (i:=1) rfl λy=>?_;have c0:=pj R (b:=8) Wp;have c1:=o4 R (b:=8) Wp;refine g9 E.g E.iX (yo (eY (eX (aO bM (aO bM (aO bM (aO bM Qfj)))) aZ)).m (F5 E.eG E.bz E.dI.1 rfl bM QcG eq1) (show _=some (D.int (st:Nat)) from ?ix)) ?_
 case ix=>
  rw[M];obtain⟨j,hj⟩:∃j:Nat,R % 8=j:=⟨(R % 8).toNat,We⟩;have ax:j<8:=by lia
  rw[hj,oo];refine fD ?_
  match j,ax with
  | 0,_=>rfl
  | 1,_=>rfl
  | 2,_=>rfl
  | 3,_=>rfl
  | 4,_=>rfl
  | 5,_=>rfl
  | 6,_=>rfl
  | 7,_=>rfl
 refine g9 E.g E.fS (rY (FJ bM.m (F5 E.eG E.bz E.dI.1 rfl bM QcG eq2)) (t2:=.sh (.int (md:Nat))) (by rw[O];rfl)) ?_;refine g9 E.g E.dZ (rY (F5 E.eG E.bz E.dI.1 rfl bM QcG eq3) (t2:=.sh (.int (n:Nat))) (by rw[N])) ?_;show dW X CL b _ [some QcS,some (.pin y (.lst [.sh (.int q3)])),some Qa2,some (.sh (.int md)),some QaR,none,none,none,none,none,none,none,none] _;refine g9 E.g E.oQ (rY (FJ bM.m (F5 E.eG E.bz E.dI.1 rfl bM QcG eq4)) (t2:=.sh (.int (wn:Nat))) (by rw[L])) ?_;have d0:=pj q4 (b:=3) Wp;have bc:cutD (we.map D.str) none (some (1+q4 % 3))=h0.map D.str:=by
  rw[axX (k:=(1+q4 % 3).toNat) We,← List.map_take,P]
 refine g9 E.g E.jv (rY (aaw (ds:=we.map .str) (eY (eX (rG (l:=we) rfl) aZ)) (v8 _) (FJ bM.m (F5 E.eG E.bz E.dI.1 rfl bM QcG eq5))) (t2:=.lst ((h0.map .str).map T.sh)) (by rw[bc])) ?_;show dW X CL b _ [some QcS,some (.pin y (.lst [.sh (.int q5)])),some Qa2,some (.sh (.int md)),some QaR,some (.sh (.int wn)),some (.lst ((h0.map .str).map T.sh)),none,none,none,none,none,none] _;refine Su (λδ=>δ=[some QcS,some (.pin y (.lst [.sh (.int q6)])),some Qa2,some (.sh (.int md)),some QaR,some (.sh (.int wn)),some (.lst ((A.map .str).map T.sh)),none,none,none,none,none,none]) ?k1 (λk=>?i1)
 case i1=>
  by_cases e:st=1
  .rw[cq e]at p;refine XZ (Tu (aeV (HH (eW Qcz ao).1 (p8 (show(st:Int)=1 by lia))) (aeU (ai9 (F5 E.eG E.bz E.dI.1 rfl bM QcG p) ao)))) (λB=>?_) (λB=>ak (k _ ?_))
   .refine bu E.g E.jv (eX (ds:=[.str "go"]) (aO fZ fz) aZ) (ak (k _ ?_));rw[t,cq ⟨e,n8 B⟩];rfl
   .rw[t,bF λz=>absurd z.2 (ph B)];rfl
  .rw[bF e]at p;refine fK (uo (jE (q:=false) (HH (eW Qcz ao).1 (qr (show ¬ (st:Int)=1 by lia))) (λz=>by cases z))) (λB=>by cases B) (λ_=>ak (k _ ?_));rw[t,bF λz=>e z.1,p]
 case k1=>
 rintro δ rfl;refine Su (λδ=>∃o,δ=[some QcS,o,some Qa2,some (.sh (.int mo)),some QaR,some (.sh (.int wn)),some (.lst ((A.map .str).map T.sh)),none,none,none,none,none,none]) ?k2 (λk=>?i2)
 case i2=>
  refine fK (eW Qcz ao).1 (λB=>?_) (λB=>ak (k _ ⟨some (.pin y (.lst [.sh (.int q6)])),?_⟩))
  .have e:st=2:=by have:=n8 B;lia
   rw[cq e]at r;refine g9 E.g E.fS (rY (FJ bM.m QcN) (t2:=.sh (.int (mo:Nat))) (by rw[show((mo:Nat):Int)=11+q6 % 20 by lia])) (ak (k _ ⟨_,rfl⟩))
  .have e:¬ st=2:=by have:=ph B;lia
   rw[bF e]at r;rw[r]
 case k2=>
 rintro δ ⟨o,rfl⟩;refine bu E.g E.cC (A5 (bw (c_ (s,mo,st) E.apw E.Sf Qlw ⟨ag,We,We,jB⟩ (Es ..)) (t2:=.ins "Tree" (Be (F2 s st es es.length) es (L7 s st es es.length))) (by rw[G];rfl)) (aaB ..)) ?_;have NQ:((F2 s st es es.length).map D.str).length=es.length:=by unfold F2;rw[dm,dm,sm]
 refine bu E.g E.fS (jq NQ E.iu Qft E.ig) ?_;refine asX (i:=6) (d:=.lst (A.map .str)) rfl (dF _) ?_;refine G8 C1 (Hn s) E.g E.cR (b8 (.cons E.cy.1 (.inl E.tR) .nil) Wl) E.gK E.gJ Qd7 We (λC s0 Y f0 W i F=>?EY) ?_
 case EY=>
  obtain⟨sl,sg⟩:=YA i We;have i0:=pj (i:Int) (b:=2) Wp;have aI:=(show ∀j:Nat,j<2->0<NJ.getD j 0 by decide +kernel) ((i:Int) % 2).toNat We;refine bw (iS (ds:=[.str (("b":Str)++(toString (i:Int):Str)),.int _]) (aO (adC cG (aQ (XI E.Yw wB (lF 0) (by exact sg))) ((by rw[p3];have h1:("b":Str).length=1:=Wl;show("b":Str).length+(toString (i:Int):Str).length<=_;lia))) (aO (MJ (aQ (jD (aQ (jD (aQ (c_ ((s,10+(i:Int))) (ly E.jh) wB (ah (gR 1) Qg1) (show(0:Int)<=10+(i:Int) by lia) rfl)) (aQ (zQ ao ao ⟨Wp,Wp,Wp⟩)) Wp)) (bY (cA (bw (c9 (bq bM (bq (zQ ao ao ⟨Wp,Wp,Wp⟩) bI)) aZ) (t2:=.lst ((NJ.map D.int).map T.sh)) rfl)) (aQ (jD (lF 0) ao Wp)) (g8 (bs:=NJ) i0 (show(i:Int) % 2<2 by lia))) aI)) ao) fz)) aZ) ?_;rw[show((i:Int) % 2).toNat=i % 2 by lia];rfl
 refine G8 .tup _ E.g E.YB Qko E.gK E.gJ Qd3 We (λC s0 Y f0 W i F=>bw (c_ ((ic s (1+(i:Int)),n,A)) (ly E.BG) wB (ah (aQ (c_ ((s,1+(i:Int))) (ly E.jh) wB (ah (gR 3) Qg1) (show(0:Int)<=1+(i:Int) by lia) rfl)) (ah (gR 2) (ah (gR 1) aS))) (Z) (eZ tN _)) rfl) ?_;rw[← u 1];refine G8 .tup _ E.g E.Oz Qko E.gK E.gJ Qd3 We (λC s0 Y f0 W i F=>bw (c_ ((ic s (2+(i:Int)),n,A)) (ly E.BG) wB (ah (aQ (c_ ((s,2+(i:Int))) (ly E.jh) wB (ah (gR 3) Qg1) (show(0:Int)<=2+(i:Int) by lia) rfl)) (ah (gR 2) (ah (gR 1) aS))) (Z) (eZ tN _)) rfl) ?_;rw[← u 2];have K:st=1->es=E7:=I;refine G8 jL _ E.g E.YF (b8 (.cons E.jv.1 (.inl E.uN) (.cons E.dZ.1 (.inl E.wQ) (.cons E.cy.1 (.inl E.tR) (.cons E.iX.1 (.inl E.ajS) (.cons E.cC.1 (.inl E.VG) .nil))))) Wl) E.gK E.gJ (aW E.oQ) We (λC s0 Y f0 W i F=>bw (c_ (ic s (13+(i:Int)),es,n,A,st) (ly E.at5) wB (ah (aQ (c_ ((s,13+(i:Int))) (ly E.jh) wB (ah (gR 3) Qg1) (show(0:Int)<=13+(i:Int) by lia) rfl)) (ah (cL (by exact E.c6) (by exact E.d7) (gR 5) nW) (ah (gR 2) (ah (gR 1) (ah (gR 4) aS))))) ⟨Z.1,x,Z.2.2,We,We,K⟩ (HG (Vx We (λe=>by rw[K e];rfl) x J).i)) rfl) ?_;have U:∀w∈(List.range wn).map λ(k:Nat)=>xk QhH es.length n A st,D.tF (jL w)=true:=λw hm=>by
  obtain⟨k,_,rfl⟩:=n3.1 hm;exact HG (Vx We (λe=>by rw[K e];rfl) x J).i
 have S:(((List.range wn).map λ(k:Nat)=>xk QhH es.length n A st).map jL).length<64:=by rw[dm,dm,sm];lia
 generalize (List.range wn).map _=dr at U S a ⊢;refine G8 .str Ll E.g E.F6 (b8 .nil Wl) E.gK E.gJ Qd3 We (λC s0 Y f0 W i F=>?ax7) ?_
 case ax7=>
  obtain⟨sl,sg⟩:=YA i We;exact bw (adC cG (aQ (XI E.Yw wB (lF 0) (sg))) ((by rw[p3];have h1:("m":Str).length=1:=Wl;show("m":Str).length+(toString (i:Int):Str).length<=_;lia))) rfl
 have ib:D.ck (((List.range n).map (Hn s)).map C1)=true:=eZ Qdb _;have iw:D.ck QaT=true:=jo λd hd=>by
  obtain⟨w,hm,rfl⟩:=n3.1 hd;exact HG (hw w hm).i
 have iT:∀j:Int,(∀l∈de j,(l.length<=2/\D.ck l=true)/\∀d∈l,xc n d)->D.ck ((de j).map D.tup)=true:=λj h=>jo λd hd=>by
  obtain⟨l,hm,rfl⟩:=n3.1 hd;exact(h l hm).1.2
 refine bG (mkP (f:="tree") (UK:=Hu (((List.range n).map (Hn s)).map C1) (((List.range es.length).map Ll).map .str)) (λv=>(((List.range n).map (Hn s)).map C1,((List.range es.length).map Ll).map .str,v,(de 1).map .tup,(de 2).map .tup,ws.map jL)) E.ajU E.ajT
  (Rl (vL E.cR.1) (Rl (vL E.F6.1) (ad4 (v_ E.cC.1) (ah (vL E.YB.1) (ah (vL E.Oz.1) (ah (cA (bw (zW (y:="way") (g:=λd=>d.ub.zj) E.lam E.g E.dp E.gU E.gT (b8 .nil Wl) (vL E.YF.1) (jo λd hd=>?tF) S (λf c s0 Y W d hd=>?key)) (t2:=.lst ((ws.map jL).map T.sh)) ?eq)) aS))))))
  (λv=>rfl) (λv=>⟨ib,v8 _,iT 1 i1,iT 2 i2,iw⟩) (λv=>rfl) (NT ib (v8 _)) (NW (iT 1 i1) (iT 2 i2) iw)) rfl
 case tF=>
  obtain⟨w,hm,rfl⟩:=n3.1 hd;exact U w hm
 case key=>
  obtain⟨w,hm,rfl⟩:=n3.1 hd;exact bR Qja ao rfl
 case eq=>
  rw[qk,a];rfl
def cU:TQ (ai F7) ([("script",.cell),("pot",dH),("style",.cell),("moods",dH),("many",.cell),("ways",dH),("heard",.cell),("tree",.cell),("boxes",dH),("ins",dH),("outs",dH),("drawn",dH),("names",dH),("_law_cell_at",cu),("_law_take",cu),("_law_tree",cu),("len",cu),("range",cu),("Chart",cu),("sorted",cu)])=true:=by decide +kernel
def Sg:dw YD ["script"] (ai F7):=kg
abbrev oR:=inClass (top 71) 3
abbrev oS:=D×Pl×BB×AT×Cs
abbrev vJ:At:=["self"]
def lM:oS->BB:=λ(cd,p,pa,bs,ex)=>[.ins "NestRun" (oO cd (vI p) pa bs ex)]
def lN:oS->Prop:=λ(cd,p,pa,bs,ex)=>True
noncomputable def lO:oS->T:=λ(cd,p,pa,bs,ex)=>(.tup [.lst ((p.1.map .int).map T.sh),.lst ((p.2.map .int).map T.sh),.lst ((bs.map .int).map T.sh)]:T)
structure E3(X:Cx)(CL:BC):Prop extends bN X where
 bJ:Ln X 0 "self"
 cN:Gl X "list"
 cO:mK X "list"
 aP:jC X.K QE
 ay:jC X.K QU
 d9:aU X.K QE "boxes"
 bK:aU X.K QU "boxes"
 bP:aU X.K QU "place"
def E4(E:E3 X CL) :
  mO X CL b oR vJ lM lN lO:=by
 rintro⟨cd,p,pa,bs,ex⟩ h;exact bG (qw (bq QlG (bq (j5 E.cO (oM Qix ao HE) E.cN bS) (bq Qk1 bI))) aZ) rfl
def mX:FG vJ ["self"] ["list"] (ai oR):=fG
abbrev mY:=inClass (top 69) 7
abbrev mZ:=D×D×BB×AT×Cs
abbrev tS:At:=["self"]
def kU:mZ->BB:=λ(cd,pl,pa,bs,ex)=>[.ins "NestRun" QeE]
def kW:mZ->Prop:=λ(cd,pl,pa,bs,ex)=>True
noncomputable def kX:mZ->T:=λ(cd,pl,pa,bs,ex)=>(.lst ((bs.map .int).map T.sh):T)
structure Di(X:Cx)(CL:BC):Prop extends bN X where
 bJ:Ln X 0 "self"
 cN:Gl X "list"
 cO:mK X "list"
 aP:jC X.K QE
 ay:jC X.K QU
 d9:aU X.K QE "boxes"
 bK:aU X.K QU "boxes"
def Dj(E:Di X CL) :
  mO X CL b mY tS kU kW kX:=by
 rintro⟨cd,pl,pa,bs,ex⟩ h;exact bG Qk1 rfl
def lP:FG tS ["self"] ["list"] (ai mY):=fG
abbrev oU:=inClass (top 71) 2
abbrev oV:=D×Pl×BB×AT×Cs
abbrev vK:At:=["self"]
def lQ:oV->BB:=λ(cd,p,pa,bs,ex)=>[.ins "NestRun" (oO cd (vI p) pa bs ex)]
def lR:oV->Prop:=λ(cd,p,pa,bs,ex)=>True
noncomputable def lS:oV->T:=λ(cd,p,pa,bs,ex)=>(.lst ((p.1.map .int).map T.sh):T)
structure E5(X:Cx)(CL:BC):Prop extends bN X where
 bJ:Ln X 0 "self"
 cN:Gl X "list"
 cO:mK X "list"
 ay:jC X.K QU
 bP:aU X.K QU "place"
def E6(E:E5 X CL) :
  mO X CL b oU vK lQ lR lS:=by
 rintro⟨cd,p,pa,bs,ex⟩ h;exact bG QlG rfl
def m5:FG vK ["self"] ["list"] (ai oU):=fG
abbrev uR:=inClass (top 69) 5
abbrev uS:=D×D×BB×AT×Cs
abbrev BH:At:=["self"]
def qI:uS->BB:=λ(cd,pl,pa,bs,ex)=>[.ins "NestRun" QeE]
def qJ:uS->Prop:=λ(cd,pl,pa,bs,ex)=>True
noncomputable def qK:uS->T:=λ(cd,pl,pa,bs,ex)=>(.sh (.int ((pa.length:Nat):Int)):T)
structure OG(X:Cx)(CL:BC):Prop extends bN X where
 bJ:Ln X 0 "self"
 ig:Gl X "len"
 iu:mK X "len"
 ay:jC X.K QU
 di:aU X.K QU "past"
def OI(E:OG X CL) :
  mO X CL b uR BH qI qJ qK:=by
 rintro⟨cd,pl,pa,bs,ex⟩ h;exact bG (Fx E.iu (cL E.ay E.di (aW E.bJ) Bq) E.ig) rfl
def su:FG BH ["self"] ["len"] (ai uR):=fG
noncomputable def y8(p:Pl)(bs:AT)(n:Nat):T:=.tup [.tup [.lst ((p.1.map .int).map T.sh),.lst ((p.2.map .int).map T.sh),.lst ((bs.map .int).map T.sh)],.lst ((bs.map .int).map T.sh),.lst ((p.1.map .int).map T.sh),.sh (.int (n:Nat))]
noncomputable def Ka(p:Pl)(bs:AT)(n:Nat):D:=.tup [.tup [.lst (p.1.map .int),.lst (p.2.map .int),.lst Qbz],.lst Qbz,.lst (p.1.map .int),.int (n:Nat)]
def apA(p:Pl)(bs:AT)(n:Nat):(y8 p bs n).gM=Ka p bs n:=by
 unfold y8 Ka;rw[T.gM,T.fO,axM,T.fO,dF,T.fO,dF,T.fO,T.fO,T.gM]
def af2(p:Pl)(bs:AT)(n:Nat):(y8 p bs n).clean=true:=by
 unfold y8;rw[T.clean,T.cZ,N5 (cB _) (cB _) (cB _),T.cZ,aV,T.cZ,aV];rfl
def wZ(l:AT)(k:Nat):rW Qau (.lst Qb2):=.lst λd hd=>by
 obtain⟨i,_,rfl⟩:=n3.1 hd;exact .int _ _
def uT(p:Pl)(bs:AT)(n:Nat):rW 60 (Ka p bs n):=.tup λd hd=>by
 simp at hd;obtain rfl|rfl|rfl|rfl:=hd
 .refine .tup λd hd=>?_;simp at hd;obtain rfl|rfl|rfl:=hd
  .exact wZ _ _
  .exact wZ _ _
  .exact wZ _ _
 .exact wZ _ _
 .exact wZ _ _
 .exact .int _ _
abbrev VH:=top 84
abbrev VJ:=D×Pl×BB×AT×Dx
abbrev af3:At:=["run"]
def HX:VJ->BB:=λ(cd,p,pa,bs,eo)=>[.ins "NestRun" (oO cd (vI p) pa bs (JK eo))]
def HY:VJ->Prop:=λ(cd,p,pa,bs,eo)=>True
def HZ:VJ->T:=λ(cd,p,pa,bs,eo)=>(y8 p bs pa.length:T)
structure apB(X:Cx)(CL:BC):Prop extends bN X where
 jw:Ln X 0 "run"
 E8:Fq X CL "NestRun" "state" 1 1 lM lN lO
 Dk:Fq X CL "NestRun" "numbers" 1 1 kU kW kX
 E9:Fq X CL "NestRun" "moods" 1 1 lQ lR lS
 OJ:Fq X CL "NestRun" "fed" 1 1 qI qJ qK
def apC(E:apB X CL) :
  mO X CL b VH af3 HX HY HZ:=by
 rintro⟨cd,p,pa,bs,eo⟩ h;have no:∀{m:Str},(m==("chart"))=false->(m==("place"))=false->(m==("past"))=false->(m==("boxes"))=false->(m==("first_rows"))=false->(oO cd (vI p) pa bs (JK eo)).lookup m=none:=C8;exact bG (qw (bq (q0_ (cd,p,pa,bs,JK eo) E.E8 (aW E.jw) (no Wl Wl Wl Wl Wl) rfl trivial (by show T.cZ _=true;rw[T.cZ,T.cZ,T.cZ,aV,aV,aV];rfl)) (bq (q0_ (cd,vI p,pa,bs,JK eo) E.Dk (aW E.jw) (no Wl Wl Wl Wl Wl) rfl trivial (aV _)) (bq (q0_ (cd,p,pa,bs,JK eo) E.E9 (aW E.jw) (no Wl Wl Wl Wl Wl) rfl trivial (aV _)) (bq (q0_ (cd,vI p,pa,bs,JK eo) E.OJ (aW E.jw) (no Wl Wl Wl Wl Wl) rfl trivial rfl) bI)))) aZ) rfl
def YG:FG af3 ["run"] [] (ai VH):=fG
def ND(s:AT)(st mo:Nat):AT:=(List.range (min mo (s.length-st))).map λ(k:Nat)=>(pM s (some ((st:Int)+(k:Int))) none (some (mo:Int))).sum
theorem ajW(s:AT)(st mo:Nat):(ND s st mo).length<=s.length:=by unfold ND;simp;lia
abbrev F8:=top 88
abbrev OL:=AT×Nat×Nat
abbrev YH:At:=["script","start","most","many"]
noncomputable def Dl:OL->BB:=λ(s,st,mo)=>[.lst (s.map .int),.int st,.int mo]
def Dm:OL->Prop:=λ(s,st,mo)=>s.length<=63/\0<mo/\mo<=100/\st<=100
def yI:OL->T:=λ(s,st,mo)=>(.lst (((ND s st mo).map .int).map T.sh):T)
structure ajX(X:Cx)(CL:BC):Prop extends bN X where
 cy:Ln X 0 "script"
 tR:Bd X "script"
 uU:Ln X 1 "start"
 ajY:Bd X "start"
 af4:Ln X 2 "most"
 apD:Bd X "most"
 dZ:Ln X 3 "many"
 at7:Gl X "min"
 at8:Gl X "max"
 ig:Gl X "len"
 gJ:Gl X "range"
 at9:mK X "min"
 aua:mK X "max"
 iu:mK X "len"
 gK:mK X "range"
 aub:mK X "sum"
theorem ajZ(E:ajX X CL) :
  mO X CL b F8 YH Dl Dm yI:=by
 rintro⟨s,st,mo⟩ h;dsimp [yI]at h ⊢;obtain⟨hs,c,a,e⟩:=h;refine bu E.g E.dZ (bw (aiu E.g E.at9 E.at7 (ah (aW E.af4) (ah (aQ (aiv E.g E.aua E.at8 (ah ao (ah (aQ (MJ (aQ (jq (dm ..) E.iu Qdl E.ig)) (aW E.uU))) aS)))) aS))) (t2:=.sh (.int ((min mo (s.length-st):Nat)))) (by
  apply congrArg (λz=>T.sh _)
  all_goals lia)) ?_
 refine bG (bw (rJ (p:=λ_=>true) (g:=λd=>T.sh (.int (pM s (some (st+d.zj.toNat)) none (some mo)).sum)) (b8 (.cons E.af4.1 (.inl E.apD) (.cons E.cy.1 (.inl E.tR) (.cons E.uU.1 (.inl E.ajY) .nil))) Wl) E.g.calm (vY E.gK Qd7 We E.gJ) QaK (λC s0 j f0 f d hd=>?EY) (p7 (dG (by simp[gj];lia)))) ?eq) rfl
 case EY=>
  obtain⟨i,hi,rfl⟩:=n3.1 hd;have et:(D.int (0+i)).zj.toNat=i:=by show(0+(i:Int)).toNat=i;lia
  refine⟨rfl,λ_=>bw (aiF (aio E.g Wl) (E.aub) (cA (bw (aau (gR 2) (cB _) (AZ (aQ (um (gR 3) (lF 0)))) Fz (AZ (gR 1)) (λz=>by lia)) (by rw[aeK]))) wB) ?_⟩;show T.sh _=T.sh _;rw[et,Eb]
 case eq=>
  rw[rE];unfold gj ND;rw[n7,n7,n7];congr 1;refine tH λk _=>?_;show T.sh (.int (pM s (some (st+((0+(k:Int)).toNat))) _ _).sum)=_;rw[show(0+(k:Int)).toNat=k by lia];rfl
def jM:TQ (ai F8) ([("script",.cell),("start",.cell),("most",.cell),("many",dH),("min",cu),("max",cu),("len",cu),("range",cu)])=true:=by decide +kernel
def af5:dw YH ["script","start","most"] (ai F8):=kg
abbrev nG:=inClass (top 69) 4
abbrev nI:=Addr×D×D×List vR×vR×AT×Dx
abbrev sA:At:=["self","last"]
def gO:nI->Bi:=λ(y,cd,pl,l,q,bs,eo)=>[.pin y (.ins "NestRun" (jA cd pl (j6 (l++[q])) bs Qbt))]
def gP:nI->Bi:=λ(y,cd,pl,l,q,bs,eo)=>[.pin y (.ins "NestRun" (jA cd (vI q.1) (j6 l) q.2.1 Qbt))]
def i9:nI->Prop:=λ(y,cd,pl,l,q,bs,eo)=>l.length<=1000
noncomputable def ja:nI->T:=λ(y,cd,pl,l,q,bs,eo)=>(.lst QfQ:T)
structure zy(X:Cx)(CL:BC):Prop extends bN X where
 bJ:Ln X 0 "self"
 OO:Ln X 1 "last"
 ig:Gl X "len"
 Ic:Gl X "NoStep"
 iu:mK X "len"
 Dn:X.mg "NoStep" = some Qbc
 Ma:GZ X.K (CL "NoStep")
 aP:jC X.K QE
 ay:jC X.K QU
 bP:aU X.K QU "place"
 d9:aU X.K QE "boxes"
 bK:aU X.K QU "boxes"
 di:aU X.K QU "past"
theorem Kc(E:zy X CL) :
  wb X CL b nG sA gO i9 ja gP:=by
 rintro⟨y,cd,pl,l,q,bs,eo⟩ h;have hpl:(j6 (l++[q])).length=l.length+1:=by unfold j6;rw[dm,n6];rfl
 have c:(T.fO (j6 (l++[q]))).length=l.length+1:=by rw[Q5];exact hpl
 refine fK (eW (aQ (jq c E.iu (cL E.ay E.di (vE E.bJ.1 rfl C9) Bq) E.ig)) ao).1 (λa=>absurd (n8 a) We) (λ_=>ak ?_);refine g9 E.g E.OO (Bb (p:=[.fld _]) Qlh rfl (by rw[De,HD])) ?_;exact jl E.ay E.bP E.bJ.1 (ym QiM rfl rfl).m rfl Qia (jl E.ay E.bK E.bJ.1 (ym QiM rfl rfl).m rfl Qia (bG (jt QiM rfl rfl) ⟨rfl,mS (ds:=[])⟩))
abbrev oW:Type:=D×D×AT×Cs
def gV:oW->BB:=λ(cd,pl,bs,ex)=>[.ins "NestRun" (oO cd pl [] bs ex)]
def gW:oW->Prop:=λ(cd,pl,bs,ex)=>True
noncomputable def gX:oW->Str:=λ(cd,pl,bs,ex)=>"NoStep"
def Ie{W:XK}(E:zy Qh2 CL)(cd pl bs ex)(h:gW (cd,pl,bs,ex))(c:FI b W (CL (gX (cd,pl,bs,ex)))) :
  dW Qh2 CL b (dQ nG) (entry sA (gV (cd,pl,bs,ex))) {nx:=λ_=>False,rt:=λ_ _=>False}:=by
 refine fK (eW (aQ (bw (jq rfl E.iu (cL E.ay E.di (aW E.bJ) Bq) E.ig) rfl)) ao).1 (λ_=>?_) (λa=>absurd a Wp);exact aiY E.g.calm E.Ic E.Dn E.Ma c
def cV:FG sA ["self"] ["len","NoStep"] (ai nG):=fG
abbrev Dp:=top 86
abbrev Dq:=D×D×AT×Dx
abbrev Mb:At:=["run","refused"]
def w9:Dq->BB:=λ(cd,pl,bs,eo)=>[.ins "NestRun" (oO cd pl [] bs (JK eo))]
def xg:Dq->Prop:=λ(cd,pl,bs,eo)=>True
noncomputable def xh:Dq->T:=λ(cd,pl,bs,eo)=>(.sh Qbh:T)
structure aa0(X:Cx)(CL:BC):Prop extends bN X where
 jw:Ln X 0 "run"
 Dr:Ln X 1 "refused"
 Ic:Gl X "NoStep"
 Dn:X.mg "NoStep" = some Qbc
 Ma:GZ X.K (CL "NoStep")
 lT:FR X CL "NestRun" "back" 1 1 gV gW gX
 j7:yZ X CL "NestRun" "back" 1 1 gO i9 ja gP
 st:X.stack=X.env::X.outer
 fm:X.env.frame=some X.env.locals
 nx:X.xe=λ_ _=>False
 Ds:exmOne X.K Qbc Qbc=some true
def aa1(E:aa0 X CL) :
  mO X CL b Dp Mb w9 xg xh:=by
 rintro⟨cd,pl,bs,eo⟩ h;apply bu E.g E.Dr pD;exact aos E.st E.fm E.nx (λp=>aex (X6 (cd,pl,bs,JK eo) E.nx E.lT.pin (aQ (v_ E.jw.1.pin)) (C8 Wl Wl Wl Wl Wl) rfl trivial)) (.hit E.Ic E.Dn E.Ds Wp) λe=>(aeB E.g.nd E.Dr.hand pD (ak (bG (v_ E.Dr.1) rfl)))
def uV:FG Mb ["run"] ["NoStep"] (ai Dp):=fG
def OQ:rW 60 (.lst [.bl true,.bl false,.bl false]):=.lst λd hd=>by
 simp only[eu,oe,or_false]at hd;obtain rfl|rfl|rfl:=hd<;>exact .bl _ _
abbrev OS:=top 87
abbrev OU:=D×D×AT×Dx
noncomputable abbrev YJ:At:=["run","marks","e"]
def Dt:OU->BB:=λ(cd,pl,bs,eo)=>[.ins "NestRun" (oO cd pl [] bs (JK eo))]
def Du:OU->Prop:=λ(cd,pl,bs,eo)=>True
noncomputable def Dv:OU->T:=λ(cd,pl,bs,eo)=>(.sh Qbh:T)
structure aj0(X:Cx)(CL:BC):Prop extends bN X where
 jw:Ln X 0 "run"
 OV:Ln X 1 "marks"
 l_e:Ln X 2 "e"
 Sh:Gl X "MoodError"
 lU:Gl X "isinstance"
 OW:Gl X "ValueError"
 aa2:Gl X "BadTree"
 aa3:Gl X "BadName"
 af6:Gl X "BadBox"
 aa4:Gl X "BadDeed"
 af7:Gl X "BadWay"
 aa5:Gl X "TooWide"
 af8:Gl X "BadRow"
 af9:Gl X "NoName"
 OX:X.mg "MoodError" = some (.ref (CL "MoodError"))
 lV:mK X "isinstance"
 OY:mK X "ValueError"
 VL:X.mg "BadTree" = some (.ref (CL "BadTree"))
 VM:X.mg "BadName" = some (.ref (CL "BadName"))
 aa6:X.mg "BadBox" = some (.ref (CL "BadBox"))
 VN:X.mg "BadDeed" = some (.ref (CL "BadDeed"))
 aa7:X.mg "BadWay" = some (.ref (CL "BadWay"))
 VP:X.mg "TooWide" = some (.ref (CL "TooWide"))
 aa8:X.mg "BadRow" = some (.ref (CL "BadRow"))
 aa9:X.mg "NoName" = some (.ref (CL "NoName"))
 lT:FR X CL "NestRun" "back" 1 1 gV gW gX
 j7:yZ X CL "NestRun" "back" 1 1 gO i9 ja gP
 st:X.stack=X.env::X.outer
 fm:X.env.frame=some X.env.locals
 nx:X.xe=λ_ _=>False
 zb:exmOne X.K Qbc (.ref (CL "MoodError"))=some true
 ex0:X.ex=[]
 ax8:X.env.kindOf "e" = some .local
 Dw:kitOne X.K Qbc (.ref (CL "BadBox"))=some false
 BI:kitOne X.K Qbc (.ref (CL "BadDeed"))=some false
 BJ:kitOne X.K Qbc (.ref (CL "BadName"))=some false
 Dy:kitOne X.K Qbc (.ref (CL "BadRow"))=some false
 BK:kitOne X.K Qbc (.ref (CL "BadTree"))=some false
 Dz:kitOne X.K Qbc (.ref (CL "BadWay"))=some false
 DB:kitOne X.K Qbc (.ref (CL "NoName"))=some false
 BL:kitOne X.K Qbc (.ref (CL "TooWide"))=some false
 xj:kitOne X.K Qbc QjI=some true
 DC:wk X.K (CL "NoStep")
def aj1(E:aj0 X CL) :
  mO X CL b OS YJ Dt Du Dv:=by
 rintro⟨cd,pl,bs,eo⟩ h;apply bu E.g E.OV QaS;refine aou (c:="NoStep") E.st E.fm E.nx E.ex0 E.g.nd E.l_e E.ax8 (λp=>aex (X6 (X:=X.pinned p) (cd,pl,bs,JK eo) E.nx E.lT.pin (aQ (v_ E.jw.1.pin)) (C8 Wl Wl Wl Wl Wl) rfl trivial)) E.Sh E.OX E.zb Qa7 (λa d hz=>?_);refine aeB E.g.nd E.OV.hand (eX (aO (U0 hz (E.DC) (E.lV) (E.lU) (ah QjF (ah (aQ (ai0 (v:=.ty _) (E.OW) (E.OY) EV rfl)) aS)) (.one rfl (E.xj))) (aO (U0 hz (E.DC) (E.lV) (E.lU) (ah QjF (ah (aQ (iS (ds:=([V.ref _,V.ref _,V.ref _,V.ref _,V.ref _,V.ref _]).map _) (aO (wm (E.aa2) (E.VL) rfl) (aO (wm (E.aa3) (E.VM) rfl) (aO (wm (E.af6) (E.aa6) rfl) (aO (wm (E.aa4) (E.VN) rfl) (aO (wm (E.af7) (E.aa7) rfl) (aO (wm (E.aa5) (E.VP) rfl) fz)))))) aZ)) aS)) (.non rfl (?f1))) (aO (U0 hz (E.DC) (E.lV) (E.lU) (ah QjF (ah (aQ (iS (aO (wm (v:=.ref _) (E.af8) (E.aa8) rfl) (aO (wm (v:=.ref _) (E.af9) (E.aa9) rfl) fz)) aZ)) aS)) (.non (vs:=[V.ref _,V.ref _]) rfl (?f2))) fz))) aZ) (ak ⟨.inr ⟨_,rfl⟩,?_⟩)
 case f1=>
  intro v hv;simp at hv;obtain rfl|rfl|rfl|rfl|rfl|rfl:=hv
  .exact E.BK
  .exact E.BJ
  .exact E.Dw
  .exact E.BI
  .exact E.Dz
  .exact E.BL
 case f2=>
  intro v hv;simp at hv;obtain rfl|rfl:=hv
  .exact E.Dy
  .exact E.DB
 exact bG (bw (MV E.u (vL E.OV.1) (cA (eX (aO pD (aO pD (aO pD fz))) aZ)) OQ OQ).2 (t2:=.sh _) (by rw[AY OQ])) rfl
def gH:FG YJ ["run"] ["MoodError","isinstance","ValueError","BadTree","BadName","BadBox","BadDeed","BadWay","TooWide","BadRow","NoName"] (ai OS):=fG
def xo(l:QaD):BB:=l.map λq=>.tup [vI q.1,.lst Qh1,.lst q.2.2]
noncomputable def jm(r:BB)(l:QaD):BB:=r++l.flatMap (·.2.2)
abbrev qL:=inClass (top 69) 6
abbrev qN:=D×D×List vR×AT×BB
noncomputable abbrev xq:At:=["self","rows","step"]
def jQ:qN->BB:=λ(cd,pl,l,bs,r)=>[.ins "NestRun" QiN]
def jR:qN->Prop:=λ(cd,pl,l,bs,r)=>D.ck r=true/\r.length<=5000/\l.length<=100/\∀q∈l,q.2.2.length<=4000/\D.ck q.2.2=true
def jS:qN->T:=λ(cd,pl,l,bs,r)=>(.lst ((jm r l).map T.sh):T)
structure Ig(X:Cx)(CL:BC):Prop extends bN X where
 bJ:Ln X 0 "self"
 bT:Ln X 1 "rows"
 fV:Ln X 2 "step"
 cN:Gl X "list"
 cO:mK X "list"
 ay:jC X.K QU
 di:aU X.K QU "past"
 jN:aU X.K QU "first_rows"
theorem Ih(E:Ig X CL) :
  mO X CL b qL xq jQ jR jS:=by
 rintro⟨cd,pl,l,bs,r⟩ h;obtain⟨v,m,w,c⟩:=h;apply bu E.g E.bT (j5 E.cO (kP E.ay E.jN (v_ E.bJ.1) aaR) E.cN bS);have hlen:∀j,(jm r (l.take j)).length<=r.length+4000*j:=λj=>by
  unfold jm;rw[n6];have:∀l:List vR,(∀q∈l,q.2.2.length<=4000)->(l.flatMap (·.2.2)).length<=4000*l.length:=by
   intro l
   induction l with
   | nil=>intro _;exact nZ _
   | cons q l k=>
    intro h;rw[w3,n6,o1];have h1:=h q eU;have h2:=k λp n=>h p (jk _ n);lia
  have h1:=this (l.take j) λq hm=>(c q (w7 hm)).1;have h2:(l.take j).length<=j:=by rw[sk];lia
  lia
 refine jn E.g E.fV (λj δ=>∃o,δ=[some (.sh (.ins "NestRun" QiN)),some (.lst ((jm r (l.take j)).map T.sh)),o])
  (fJ (kP E.ay E.di (v_ E.bJ.1) Bq)) ⟨ _,by rw[List.take_zero];unfold jm;rw[List.flatMap_nil,n2];rfl⟩ (λj δ ⟨_,e⟩=>by subst e;exact k6 rfl) ?turn ?fin
 case turn=>
  rintro j d δ t ⟨o,rfl⟩;obtain⟨q,rfl,_,a,x,_,f⟩:=jU t;obtain⟨u,i⟩:=c q a;have s:=hlen j;refine mU E.bT.1 rfl (bR (aW E.fV) ao RY) i rfl (by rw[dm];lia) (ak ⟨some (.sh (.tup [vI q.1,.lst Qh1,.lst q.2.2])),?_⟩);rw[f];unfold jm;rw[IS,w3,List.flatMap_nil,n2,← nr,nH (l₂:=q.2.2)];rfl
 case fin=>
  rintro δ ⟨o,rfl⟩;have e:(xo l).length=l.length:=dm ..;rw[e,pz];exact bG QdX rfl
def jb:FG xq ["self"] ["list"] (ai qL):=fG
def abb(l:QaD):T.fO (j6 l)=xo l:=by
 unfold j6 xo
 induction l with
 | nil=>rw[List.map_nil,List.map_nil,T.fO]
 | cons q l a=>rw[og,og,T.fO,a,T.gM,T.fO,T.fO,T.fO,T.fO,T.gM,T.gM,dF]
def qO{l:QaD}:T.gM (.ins "NestRun" (jA cd pl (j6 l) bs Qbt))=.ins "NestRun" (oO cd pl (xo l) bs (JK eo)):=by rw[R3,abb]
structure sr(r:BB)(l:QaD):Prop where
 b:r.length<=5000
 c:∀d∈r,Vs d
 q:∀q∈l,q.2.2.length<=4000/\∀d∈q.2.2,Vs d
variable{r:BB}{l:QaD}
theorem sr.w(h:sr r l):∀d∈jm r l,Vs d:=λd hd=>by
 obtain z|z:=f9.1 hd
 .exact h.c d z
 .obtain⟨q,a,z⟩:=pw.1 z;exact(h.q q a).2 d z
theorem sr.tF(h:sr r l):D.ck (jm r l)=true:=wI h.w
theorem sr.dep(h:sr r l):rW 60 (.lst (jm r l)):=ju h.w
theorem sr.len(h:sr r l)(e:l.length<=100):(jm r l).length<=500000:=by
 unfold jm;rw[n6];have:∀l:List vR,(∀q∈l,q.2.2.length<=4000)->(l.flatMap (·.2.2)).length<=4000*l.length:=by
  intro l
  induction l with
  | nil=>intro _;exact nZ _
  | cons q l a=>
   intro h;rw[w3,n6,o1];have h1:=h q eU;have h2:=a λp d=>h p (jk _ d);lia
 exact oy (Nat.add_le_add h.b (this l λq c=>(h.q q c).1)) We
theorem sr.pre(h:sr r l)(d:l.length<=100):D.ck r=true/\r.length<=5000/\l.length<=100/\∀q∈l,q.2.2.length<=4000/\D.ck q.2.2=true:=⟨wI h.c,h.b,d,λq a=>⟨(h.q q a).1,wI (h.q q a).2⟩⟩
abbrev OZ:=top 85
abbrev O1:=D×D×List vR×AT×BB
noncomputable abbrev YK:At:=["run","first","parts","rows","part","found"]
def DE:O1->BB:=λ(cd,pl,l,bs,r)=>[.ins "NestRun" QiN,.lst r,.lst (l.map λq=>.lst q.2.2)]
def DF:O1->Prop:=λ(cd,pl,l,bs,r)=>sr r l/\l.length<=100
noncomputable def yJ:O1->T:=λ(cd,pl,l,bs,r)=>(.sh Qbh:T)
structure aj2(X:Cx)(CL:BC):Prop extends bN X where
 jw:Ln X 0 "run"
 BO:Ln X 1 "first"
 pT:Ln X 2 "parts"
 bT:Ln X 3 "rows"
 xr:Ln X 4 "part"
 dM:Ln X 5 "found"
 cN:Gl X "list"
 lU:Gl X "isinstance"
 cO:mK X "list"
 lV:mK X "isinstance"
 qP:Fq X CL "NestRun" "story" 1 1 jQ jR jS
theorem aj3(E:aj2 X CL) :
  mO X CL b OZ YK DE DF yJ:=by
 rintro⟨cd,pl,l,bs,r⟩ h;dsimp [yJ]at h ⊢;obtain⟨a,p⟩:=h;apply bu E.g E.bT (bw (j5 E.cO (v_ E.BO.1) E.cN bS) (t2:=.lst ((jm r (l.take 0)).map _)) (by unfold jm;rw[List.take_zero,List.flatMap_nil,n2]));have i:∀j,sr r (l.take j):=λj=>⟨a.b,a.c,λq n=>a.q q (w7 n)⟩;refine jn E.g E.xr (λj δ=>∃o,δ=[some _,some _,some _,some (.lst ((jm r (l.take j)).map _)),o,none]) (fJ (v_ E.pT.1)) ⟨_,rfl⟩ (λj δ ⟨_,e⟩=>by subst e;exact k6 rfl) ?turn ?fin
 case turn=>
  rintro j d δ t ⟨o,rfl⟩;obtain⟨q,rfl,_,f,w,_,k⟩:=jU t;have s:=(i j).len (by rw[sk];lia);obtain⟨v,m⟩:=a.q q f;refine mU E.bT.1 rfl (aW E.xr) (wI m) rfl (by rw[dm];lia) (ak ⟨some (.sh (.lst q.2.2)),?_⟩);rw[k];unfold jm;rw[IS,w3,List.flatMap_nil,n2,← nr,nH (l₂:=q.2.2)];rfl
 case fin=>
  rintro δ ⟨o,rfl⟩;rw[dm,pz];exact bu E.g E.dM (bw (q0_ (cd,pl,l,bs,r) E.qP (aW E.jw) (C8 Wl Wl Wl Wl Wl) rfl (a.pre p) (eB a.tF)) rfl) (bG (bw (Uv (isL E.lV E.cO E.lU E.cN (vL E.dM.1)) (λ_=>MQ (MV E.u (vL E.dM.1) (vL E.bT.1) a.dep a.dep).2)) (by rw[AY a.dep];rfl)) rfl)
def lW:FG YK ["run","first","parts"] ["list","isinstance"] (ai OZ):=fG
abbrev F9:=top 14
abbrev O2:=At×AT×AT×Int
abbrev YL:At:=["tree","mood"]
def yK:O2->BB:=λ(ks,es,ss,m)=>[eO ks es ss,.int m]
def ql:O2->Prop:=λ(ks,es,ss,m)=>es.length<=1000
def yL:O2->T:=λ(ks,es,ss,m)=>(.lst (((jK es m).map .int).map T.sh):T)
structure aj4(X:Cx)(CL:BC):Prop extends bN X where
 cC:Ln X 0 "tree"
 cS:Ln X 1 "mood"
 apE:Bd X "mood"
 xu:Gl X "enumerate"
 xx:mK X "enumerate"
 c6:jC X.K Qap
 d7:aU X.K Qap "elders"
def aj5(E:aj4 X CL) :
  mO X CL b F9 YL yK ql yL:=by
 rintro⟨ks,es,ss,m⟩ h;refine bG (GO (aiC (xs:=["place","elder"]) (.cons E.cS.1 (.inl E.apE) .nil) Wl) E.g.calm
  (Rh 0 E.xx (kP E.c6 E.d7 (v_ E.cC.1) nW) E.xu) QaK (λC s0 c f0 a=>⟨XQ (by show List.Nodup (["place","elder","mood"]:At);decide +kernel) E.g.calm (UG rfl Wl) (UG rfl Wl),λd hd=>?EY⟩) (by rw[dm,sm];exact p7 (dG h))) (congrArg _ (aeY es m))
 case EY=>
  obtain⟨i,hi,rfl⟩:=n3.1 hd;exact⟨_,rfl,rfl,(eW (lF 1) (gR 2)).1,λ_=>v_ (J2 0)⟩
def BP:TQ (ai F9) ([("tree",dH),("mood",.cell),("enumerate",cu)])=true:=by decide +kernel
def aga:dw YL ["tree","mood"] (ai F9):=kg
abbrev xA:=top 34
abbrev xB:=At×AT×AT×AT×Nat×Str
noncomputable abbrev Ez:At:=["tree","memory","mood","mode","kind"]
def sC:xB->BB:=λ(ks,es,ss,mem,m,mode)=>[eO ks es ss,.lst Qc1,.int m,.str mode]
def sE:xB->Prop:=λ(ks,es,ss,mem,m,mode)=>es.length<=900/\ks.length=es.length/\ss.length=es.length/\mem.length=es.length/\m<es.length/\uE mode/\∀k:Nat,k<es.length->bE ks k=true\/aF ks k=true\/ks.getD k Str.empty="one"
def nJ:xB->T:=λ(ks,es,ss,mem,m,mode)=>(.lst (((QB QaB QR es ss mem (fB mode || iD mode) m).map .int).map T.sh):T)
structure Si(X:Cx)(CL:BC):Prop extends bN X where
 cC:Ln X 0 "tree"
 dJ:Ln X 1 "memory"
 cS:Ln X 2 "mood"
 sd:Ln X 3 "mode"
 VQ:Ln X 4 "kind"
 BQ:Gl X "inner"
 O4:Fc X CL "inner" 1 2 yK ql yL
 c6:jC X.K Qap
 cQ:aU X.K Qap "kinds"
 r9:aU X.K Qap "starts"
theorem Sj(E:Si X CL) :
  mO X CL b xA Ez sC sE nJ:=by
 rintro⟨ks,es,ss,mem,m,mode⟩ h;dsimp [nJ]at h ⊢;obtain⟨k,l,hs,hm,o,f,j⟩:=h;apply bu E.g E.VQ (dB (bY Qft QaU (gA _ We We)) rfl);refine fK (fj (aW E.VQ) cG).1 (λc=>?_) (λc=>ak ?_)
 .apply bG QaS;unfold QB;rw[cq (show bE ks m=true from c)];rfl
 refine fK (fj (aW E.VQ) cG).1 (λd=>?_) (λd=>ak ?_)
 .apply bG (c_ ((ks,es,ss,(m:Int))) E.O4 E.BQ Qg8 ((by dsimp [ql];lia)) (aV _));unfold QB;rw[bF (λz=>by rw[show bE ks m=false from c]at z;cases z),cq (show aF ks m=true from d)];rfl
 have key:QB QaB QR es ss mem (fB mode || iD mode) m=[k8 ss mem (fB mode || iD mode) m]:=by
  unfold QB;rw[bF (λz=>by rw[show bE ks m=false from c]at z;cases z),bF (λz=>by rw[show aF ks m=false from d]at z;cases z)]
 rw[key];have i:(fB mode || iD mode)=!decide (mode="new"):=by
  obtain e|e|e:=f<;>rw[e]<;>decide +kernel
 refine fK (uo (XC (fj (aW E.sd) cG).1 (λn=>(MP (eW (bY QbQ QaU (g8 We We)) Qbr).1)))) (λa=>?_) (λa=>ak ?_)
 .apply bG (eX (aO (dB (bY (cL E.c6 E.r9 Qbg RH) QaU (g8 We We)) rfl) fz) aZ);have e:k8 ss mem (fB mode || iD mode) m=ss.getD (m:Int).toNat 0:=by
   unfold k8;rw[bF (λz=>by
    rw[i]at z;simp at a;obtain w|w:=a
    .rw[p8 w]at z;cases z.1
    .exact z.2 w)]
  rw[e];rfl
 .apply bG (eX (aO (dB (bY QbQ QaU (g8 We We)) rfl) fz) aZ);have e:k8 ss mem (fB mode || iD mode) m=mem.getD (m:Int).toNat 0:=by
   unfold k8;simp at a;rw[cq ⟨by rw[i,qr a.1];rfl,a.2⟩]
  rw[e];rfl
def iZ:FG Ez ["tree","memory","mood","mode"] ["inner"] (ai xA):=fG
abbrev Ii:=top 33
abbrev Ij:=At×AT×AT×AT×Nat×Str
noncomputable abbrev Sl:At:=["tree","memory","mood","mode","found","further","place"]
def qQ:Ij->BB:=λ(ks,es,ss,mem,m,mode)=>[eO ks es ss,.lst Qc1,.int m,.str mode]
def kY(dd:Nat):Ij->Prop:=λ(ks,es,ss,mem,m,mode)=>(es.length<=900/\ks.length=es.length/\ss.length=es.length/\mem.length=es.length/\m<es.length/\uE mode/\∀k:Nat,k<es.length->bE ks k=true\/aF ks k=true\/ks.getD k Str.empty="one")/\dX QaB QR es ss mem/\es.length<=m+dd+1
def m7:Ij->T:=λ(ks,es,ss,mem,m,mode)=>(.lst (((J4 ks es ss mem mode m).map .int).map T.sh):T)
structure agb(X:Cx)(CL:BC)(dd:Nat):Prop extends bN X where
 cC:Ln X 0 "tree"
 dJ:Ln X 1 "memory"
 cS:Ln X 2 "mood"
 sd:Ln X 3 "mode"
 dM:Ln X 4 "found"
 Mf:Ln X 5 "further"
 jT:Ln X 6 "place"
 xC:Gl X "opened_in"
 lX:Gl X "opened"
 Sn:Fc X CL "opened_in" 2 4 sC sE nJ
 tT:∀d',d'<dd->Fc X CL "opened" (3+d') 4 qQ (kY d') m7
theorem agc{dd:Nat}(E:agb X CL dd) :
  mO X CL b Ii Sl qQ (kY dd) m7:=by
 rintro⟨ks,es,ss,mem,m,mode⟩ h;dsimp [m7]at h ⊢;obtain⟨C,f,N⟩:=h;have x:=C;obtain⟨J,K,hs,hm,y,I,v⟩:=C;have u:J4 ks es ss mem mode m=(m:Int)::(QB QaB QR es ss mem (fB mode || iD mode) m).flatMap Qgm:=by
  unfold J4;rw[RK f _ QeU y We We,ki]
 rw[u];apply bu E.g E.dM (eX QhI aZ);refine bu E.g E.Mf (anG (t:=.sh (.str Qgv)) (fj (aW E.sd) cG).1 (λr=>bw fZ (by rw[cq (show fB mode=true from r)])) (λr=>bw fZ (by rw[bF (λz=>by rw[show fB mode=false from r]at z;cases z)]))) ?_;have B:uE Qgv:=by
  split
  .exact .inr QaK
  .exact .inl rfl
 have n:fB Qgv=fB mode:=by
  cases e:fB mode with
  | true=>decide +kernel
  | false=>decide +kernel
 have l:iD Qgv=false:=by
  cases e:fB mode with
  | true=>decide +kernel
  | false=>decide +kernel
 generalize M:(if fB mode=true then("far":Str) else "new")=A at B n l ⊢;have i:∀p∈QB _ _ es ss mem (fB mode || iD mode) m,p∈jK es m:=λp H=>tM f y H;have c:=Bg f (far:=fB mode) (near:=iD mode) (d:=es.length+1) y;rw[ki]at c;generalize w:QB _ _ es ss mem _ m=a at i c ⊢;refine jn E.g E.jT (λj δ=>∃o,δ=[some _,some _,some _,some _,some (.lst ((((m:Int)::(a.take j).flatMap (λp=>ki QaB QR es ss mem (fB mode) es.length false p)).map _).map _)),some _,o])
  (fJ (eY (bw (t2:=T.lst ((a.map _).map _)) (c_ ((ks,es,ss,mem,m,mode)) E.Sn E.xC (ah Qbg (ah QbQ (ah QaU (ah (aW E.sd) aS)))) (x) (aV _)) (by rw[← w];rfl)))) ⟨_,rfl⟩ (λj δ ⟨_,e⟩=>by subst e;exact k6 rfl) ?turn ?fin
 case turn=>
  rintro j d δ L ⟨o,rfl⟩;obtain⟨p,rfl,_,s,R,_,F⟩:=jU L;have P:=cI f.pre (i p s);obtain⟨q,rfl⟩:∃q:Nat,p=q:=⟨p.toNat,We⟩;have G:=Bg f (far:=fB mode) (near:=false) (d:=es.length) (k:=q) We;have hpl:(((m:Int)::(a.take j).flatMap Qgm).length)<=es.length:=by
   refine oy ?_ c;apply Nat.succ_le_succ;have h2:=MI j a
   conv=>rhs;rw[← h2]
   rw[IS,n6];lia
  refine mU E.dM.1 rfl (cA (c_ (ks,es,ss,mem,q,A) (E.tT (dd-1) We) E.lX (ah Qbg (ah QbQ (ah (aW E.jT) (ah (aW E.Mf) aS)))) (⟨⟨J,K,hs,hm,We,B,v⟩,f,We⟩) (aV _))) (cB _) rfl ?len (ak ?_)
  case len=>
   rw[dm,dm,dm];show _+(ki _ _ es ss mem _ _ _ q).length<=_;lia
  have O:(((m:Int)::(a.take j).flatMap Qgm).map D.int).map T.sh++((J4 ks es ss mem A q).map D.int).map T.sh=(((m:Int)::(a.take QA).flatMap Qgm).map D.int).map T.sh:=by
   unfold J4;rw[n,l,F];simp
  rw[O];exact⟨_,rfl⟩
 case fin=>
  rintro δ ⟨o,rfl⟩;rw[dm,pz];exact bG (vM E.dM.1) rfl
def iH:FG Sl ["tree","memory","mood","mode"] ["opened_in","opened"] (ai Ii):=fG
abbrev DG:=top 46
abbrev DH:=BB×BB×D×Ee×BB×BB×AT
noncomputable abbrev Mg:At:=["chart","come","rows","mood"]
def rN:DH->BB:=λ(bs,nm,tr,is,os,ws,a)=>[iE bs nm tr (is.map .tup) os ws,.lst (a.map .int)]
def oi:DH->Prop:=λ(bs,nm,tr,is,os,ws,a)=>uG is/\a.length<=1000/\∀m∈a,0<=m/\m<is.length
def oj:DH->T:=λ(bs,nm,tr,is,os,ws,a)=>(.lst ((inR is a).map T.sh):T)
structure abe(X:Cx)(CL:BC):Prop extends bN X where
 aY:Ln X 0 "chart"
 uW:Ln X 1 "come"
 bT:Ln X 2 "rows"
 cS:Ln X 3 "mood"
 aP:jC X.K QE
 wY:aU X.K QE "ins"
theorem abf(E:abe X CL) :
  mO X CL b DG Mg rN oi oj:=by
 rintro⟨bs,nm,tr,is,os,ws,a⟩ h;dsimp [oj]at h ⊢;obtain⟨c,p,n⟩:=h;apply bu E.g E.bT QaS;refine jn E.g E.cS (λj δ=>∃o,δ=[some _,some _,some (.lst ((inR is Qdr).map T.sh)),o])
  (fJ (v_ E.uW.1)) ⟨_,rfl⟩ (λj δ ⟨_,e⟩=>by subst e;exact k6 rfl) ?turn ?fin
 case turn=>
  rintro j d δ l ⟨o,rfl⟩;obtain⟨m,rfl,_,hm,q,_,f⟩:=jU l;obtain⟨m0,m1⟩:=n m hm;have k:=(Hw c Qdr).1;have i:(a.take j).length<=j:=by simp;lia
  obtain⟨g1,g2⟩:=c.get _;apply lz E.bT.1 rfl (iS (aO fZ QhI) aZ) rfl (by rw[dm];lia);refine mU E.bT.1 rfl (bY (cL E.aP E.wY QaH aaH) QaU (gA [] m0 m1)) g2 rfl (by rw[n6,dm,wy];lia) (ak ⟨some Qct,?_⟩);rw[f,afb,nH,nr];rfl
 case fin=>
  rintro δ ⟨o,rfl⟩;rw[dm,pz];exact bG QdX rfl
def qR:FG Mg ["chart","come"] [] (ai DG):=fG
abbrev O5:=top 41
abbrev O6:=BB×BB×At×AT×AT×Ee×BB×BB
noncomputable abbrev YM:At:=["chart","memory","opens"]
def DI:O6->BB:=λ(bs,nm,ks,es,ss,is,os,ws)=>[iE bs nm Qa3 (is.map .tup) os ws]
def DJ:O6->Prop:=λ(bs,nm,ks,es,ss,is,os,ws)=>nm.length=es.length/\0<es.length/\es.length<=40/\ks.length=es.length/\ss.length=es.length/\is.length=es.length/\uG is/\(∀k:Nat,k<es.length->bE ks k=true\/aF ks k=true\/ks.getD k Str.empty="one")/\dX QaB QR es ss Qek
def yM:O6->T:=λ(bs,nm,ks,es,ss,is,os,ws)=>(.tup [.lst ((inR is (J4 ks es ss Qek "new" 0)).map T.sh),.lst (((J4 ks es ss Qek "new" 0).map .int).map T.sh),.lst (((List.replicate es.length (-1)).map .int).map T.sh)]:T)
structure aj7(X:Cx)(CL:BC):Prop extends bN X where
 aY:Ln X 0 "chart"
 dJ:Ln X 1 "memory"
 dz:Ln X 2 "opens"
 ig:Gl X "len"
 lX:Gl X "opened"
 tU:Gl X "in_rows"
 iu:mK X "len"
 tT:Fc X CL "opened" 43 4 qQ (kY 40) m7
 DK:Fc X CL "in_rows" 1 2 rN oi oj
 aP:jC X.K QE
 bL:aU X.K QE "tree"
 se:aU X.K QE "names"
theorem aj8(E:aj7 X CL) :
  mO X CL b O5 YM DI DJ yM:=by
 rintro⟨bs,nm,ks,es,ss,is,os,ws⟩ h;dsimp [yM]at h ⊢;obtain⟨d,h0,l,j,hs,hi,i,e,f⟩:=h;apply bu E.g E.dJ (bw (aiI (cA (eX (aO (g7 ao) fz) aZ)) (aQ (jq d E.iu (cL E.aP E.se QaH RN) E.ig)) rfl We We (by rw[p3];simp;lia)) (by rw[afi]));have k:(List.replicate _ (-1)).length=es.length:=Fh ..;apply bu E.g E.dz (bw (c_ (ks,es,ss,List.replicate _ _,0,("new":Str)) E.tT E.lX (ah QcT (ah (vL E.dJ.1) (ah ao (ah cG aS)))) (⟨⟨We,j,hs,k,h0,.inl rfl,e⟩,f,We⟩) (aV _)) (t2:=.lst _) rfl);have c:(J4 ks es ss _ "new" 0).length<=es.length:=Bg f h0;have a:∀m∈J4 ks es ss _ "new" 0,0<=m/\m<is.length:=λm hm=>by
  have n:=b9 f _ h0 m hm;lia
 generalize J4 ks es ss _ _ 0=ops at c a ⊢;exact bG (qw (bq (bw (c_ (bs,nm,eO ks es ss,is,os,ws,ops) E.DK E.tU (ah QaH (ah (vL E.dz.1) aS)) (⟨i,We,a⟩) (eB (Hw i ops).2)) rfl) (bq (vM E.dz.1) (bq (vM E.dJ.1) bI))) aZ) rfl
def qS:FG YM ["chart"] ["len","opened","in_rows"] (ai O5):=fG
abbrev Ik:=top 8
abbrev Il:=(List (Str×Int))×BB×D×BB×BB×BB
abbrev Sq:At:=["chart"]
def Ad:Il->BB:=λ(bs,nm,tr,is,os,ws)=>[iE (bs.map C1) nm tr is os ws]
def uX:Il->Prop:=λ(bs,nm,tr,is,os,ws)=>bs.length<=1000
noncomputable def uY:Il->T:=λ(bs,nm,tr,is,os,ws)=>(.lst (((bs.map (·.2)).map D.int).map T.sh):T)
structure agd(X:Cx)(CL:BC):Prop extends bN X where
 aY:Ln X 0 "chart"
 aP:jC X.K QE
 ay:jC X.K QU
 d9:aU X.K QE "boxes"
 bK:aU X.K QU "boxes"
def age(E:agd X CL) :
  mO X CL b Ik Sq Ad uX uY:=by
 rintro⟨bs,nm,tr,is,os,ws⟩ h;dsimp [uX,uY]at h ⊢;refine bG (rJ (p:=λ_=>true) (g:=λd=>T.sh d.at2) (b8 .nil Wl) E.g.calm (fJ (kP E.aP E.d9 (v_ E.aY.1) RM)) QaK (λC s0 e f0 c d hd=>?EY) Qe5) ?eq
 case EY=>
  obtain⟨p,a,rfl⟩:=n3.1 hd;exact⟨rfl,λ_=>dB (bR (lF 0) ao rfl) rfl⟩
 case eq=>
  apply(ajr λp _=>rfl).trans;rw[n7,n7];rfl
def Mh:FG Sq ["chart"] [] (ai Ik):=fG
abbrev O7:=top 19
abbrev O8:=Int×Int×AT
noncomputable abbrev YN:At:=["term","boxes","box","more"]
noncomputable def yN:O8->BB:=λ(a,mo,bs)=>[.tup [.int a,.int mo],.lst Qbz]
def tV:O8->Prop:=λ(a,mo,bs)=>a=-1\/(0<=a/\a<bs.length)
def yO:O8->T:=λ(a,mo,bs)=>(.sh (.int (qC a mo bs)):T)
structure aj9(X:Cx)(CL:BC):Prop extends bN X where
 agf:Ln X 0 "term"
 cR:Ln X 1 "boxes"
 zx:Ln X 2 "box"
 VR:Ln X 3 "more"
theorem aka(E:aj9 X CL) :
  mO X CL b O7 YN yN tV yO:=by
 rintro⟨c,mo,bs⟩ h;dsimp [tV]at h ⊢;apply bu E.g E.zx (dB (bR (aW E.agf) ao rfl) rfl);apply bu E.g E.VR (dB (bR (aW E.agf) ao rfl) rfl);refine fK (eW (aW E.zx) Qbr).1 (λa=>?_) (λa=>?_)
 .apply bG (v_ E.VR.1);have e:=n8 a;show T.sh _=T.sh _;rw[qC,cq e]
 .apply ak;have e:=ph a;apply bG (um (bY (aW E.cR) (aW E.zx) (g8 We We)) (aW E.VR));show T.sh _=T.sh _;rw[qC,bF e]
def xD:FG YN ["term","boxes"] [] (ai O7):=fG
abbrev sF:=top 62
abbrev sG:=J×Bool×AT
abbrev zA:At:=["row","place","boxes","behind"]
def oX:sG->BB:=λ(r,back,bs)=>[r.d,.int Qls,.lst Qbz]
def oY:sG->Prop:=λ(r,back,bs)=>∃o m,r.ok (o,m,bs)
def kC:sG->T:=λ(r,back,bs)=>(.lst (((NR back r bs).map .int).map T.sh):T)
structure Kd(X:Cx)(CL:BC):Prop extends bN X where
 xE:Ln X 0 "row"
 jT:Ln X 1 "place"
 cR:Ln X 2 "boxes"
 cW:Ln X 3 "behind"
 cN:Gl X "list"
 cO:mK X "list"
def Ke(E:Kd X CL) :
  mO X CL b sF zA oX oY kC:=by
 rintro⟨r,back,bs⟩ h;dsimp [kC]at h ⊢;obtain⟨o,m,h⟩:=h;apply bu E.g E.cW (j5 E.cO (v_ E.cR.1) E.cN bS);refine fK (fj (bR (aW E.xE) ao (axK r)) cG).1 (λa=>?_) (λa=>ak ?_)
 .rw[axJ h]at a;cases r with
  | put x p q=>
   have hlen:((bs.map D.int).map T.sh).length=bs.length:=by simp
   have c:za [D.str "put",.int x,.int p,.int q] Qls=some (.int Qlq):=by cases back<;>rfl
   refine CT (dB (bR (aW E.xE) (aW E.jT) c) rfl) (cD E.cW.1 rfl) (bR (aW E.xE) ao rfl) rfl rfl (adL h.1 (hlen▸h.2)) (ak ?_);apply bG Qf2;rw[NR,List.map_set,List.map_set];rfl
  | _=>cases a
 .have e:NR back r bs=bs:=by cases r<;>first|rfl|cases a
  apply bG Qf2;rw[e]
def iI:FG zA ["row","place","boxes"] ["list"] (ai sF):=fG
abbrev Im:=top 61
abbrev Io:=J×AT
abbrev Ss:At:=["row","boxes"]
def Ae:Io->BB:=λ(r,bs)=>[r.d,.lst Qbz]
def Af:Io->Prop:=λ(r,bs)=>∃o m,r.ok (o,m,bs)
def Ag:Io->T:=λ(r,bs)=>(.lst (((NR false r bs).map .int).map T.sh):T)
structure agg(X:Cx)(CL:BC):Prop extends bN X where
 xE:Ln X 0 "row"
 cR:Ln X 1 "boxes"
 sH:Gl X "with_number"
 akb:Gl X "AFTER"
 Kf:Fc X CL "with_number" 1 3 oX oY kC
 akc:∃u,X.mg "AFTER" = some (.int 3 u)
def agh(E:agg X CL) :
  mO X CL b Im Ss Ae Af Ag:=by
 rintro⟨r,bs⟩ h;exact bG (c_ (r,false,bs) E.Kf E.sH (ah (aW E.xE) (ah (aQ (e7 E.akc E.akb)) Qcr)) h (aV _)) rfl
def tW:FG Ss ["row","boxes"] ["with_number","AFTER"] (ai Im):=fG
abbrev VW:=top 60
abbrev VX:=fP×AT
abbrev agi:At:=["deed","boxes","word","row"]
def Iq:VX->BB:=λ(q,bs)=>[q.d,.lst Qbz]
def Ir:VX->Prop:=λ(q,bs)=>q.ok bs
def Iu:VX->T:=λ(q,bs)=>(.tup [.lst (((NR false (q.row bs) bs).map .int).map T.sh),.sh (q.row bs).d]:T)
structure apF(X:Cx)(CL:BC):Prop extends bN X where
 jX:Ln X 0 "deed"
 cR:Ln X 1 "boxes"
 xF:Ln X 2 "word"
 xE:Ln X 3 "row"
 uZ:Gl X "value"
 Iv:Gl X "redone"
 BR:Fc X CL "value" 1 2 yN tV yO
 agj:Fc X CL "redone" 2 2 Ae Af Ag
def apG(E:apF X CL) :
  mO X CL b VW agi Iq Ir Iu:=by
 rintro⟨q,bs⟩ h;have n:(T.lst (((NR false (q.row bs) bs).map _).map _)).clean=true:=yg▸rH _;have fin:∀(c:Str) (p1 p2 k j i f e l:Pos) (n1:Nat),dW X CL b [.Return (some (.Tuple [.Call (.Name _ p1) [.Name _ p2,.Name _ k] [] j,.Name _ i] n1 f)) e] [some (.sh q.d),some _,some (.sh (.str c)),some _] {nx:=λ_=>(T.tup [.lst (((NR false (q.row bs) bs).map .int).map T.sh),.sh (q.row bs).d])=.sh .non,rt:=λt _=>t=.tup _}:=λc p1 p2 k j i f e l n1=>bG (qw (bq (c_ (q.row bs,bs) E.agj E.Iv (ah (aW E.xE) Qcr) (aoP h) n) (bq (v_ E.xE.1) bI)) aZ) rfl;cases q with
 | put x bb m=>
  apply bu E.g E.xF Qib;refine fK (fj (aW E.xF) cG).1 (λa=>?_) (λa=>absurd rfl (ph a));refine bu E.g E.xE (iS (ds:=[.str _,.int x,.int _,.int _]) (bq fZ (bq Qjz (bq (dB (bY (aW E.cR) QdE (g8 h.1.1 h.1.2)) rfl) (bq (c_ (bb,m,bs) E.BR E.uZ (ah QdE Qcr) h.2 rfl) bI)))) aZ) (ak ?_);exact fin _ _ _ _ _ _ _ _ ⟨0,0,0,0⟩ _
 | call s=>
  apply bu E.g E.xF Qib;refine fK (fj (aW E.xF) cG).1 (λa=>absurd (show("call")="put" from n8 a) Wl) (λa=>?_);refine fK (fj (aW E.xF) cG).1 (λa=>absurd (show("call")="say" from n8 a) Wl) (λa=>?_);refine bu E.g E.xE (iS (ds:=[.str _,.str s]) (bq fZ (bq Qjz bI)) aZ) (ak (ak ?_));exact fin _ _ _ _ _ _ _ _ ⟨0,0,0,0⟩ _
 | say s bb m=>
  apply bu E.g E.xF Qib;refine fK (fj (aW E.xF) cG).1 (λa=>absurd (show("say")="put" from n8 a) Wl) (λa=>?_);refine fK (fj (aW E.xF) cG).1 (λa=>?_) (λa=>absurd rfl (ph a));refine bu E.g E.xE (iS (ds:=[.str _,.str s,.int _]) (bq fZ (bq Qjz (bq (c_ (bb,m,bs) E.BR E.uZ (ah QdE Qcr) h rfl) bI))) aZ) (ak (ak ?_));exact fin _ _ _ _ _ _ _ _ ⟨0,0,0,0⟩ _
def u9:FG agi ["deed","boxes"] ["value","redone"] (ai VW):=fG
abbrev Ah:=top 63
abbrev Ai:=Bool×List fP×AT
abbrev Iw:At:=["deeds","boxes","behind","rows","called","deed","step"]
def vd:Ai->BB:=λ(l,a,bs)=>[MX l (a.map fP.d),.lst Qbz]
def pU:Ai->Prop:=λ(l,a,bs)=>a.length<=1000/\∀q∈a,q.ok bs
def pV:Ai->T:=λ(l,a,bs)=>(.tup [.lst (((a.foldl aft bs).map .int).map T.sh),.lst (((tO a bs).map J.d).map T.sh),.lst (((wH a).map .str).map T.sh)]:T)
structure VY(X:Cx)(CL:BC):Prop extends bN X where
 BE:Ln X 0 "deeds"
 cR:Ln X 1 "boxes"
 cW:Ln X 2 "behind"
 bT:Ln X 3 "rows"
 lY:Ln X 4 "called"
 jX:Ln X 5 "deed"
 fV:Ln X 6 "step"
 cN:Gl X "list"
 VZ:Gl X "done"
 cO:mK X "list"
 apH:Fc X CL "done" 3 2 Iq Ir Iu
theorem V0(E:VY X CL) :
  mO X CL b Ah Iw vd pU pV:=by
 rintro⟨l,a,bs⟩ h;dsimp [pU]at h ⊢;apply bu E.g E.cW (j5 E.cO (v_ E.cR.1) E.cN bS);apply bu E.g E.bT (c9 bI aZ);apply bu E.g E.lY (c9 bI aZ);have t:∀(p v:Pos) (r o n i f:Qcd),ZE X CL b (.Name "deed" p) (.Name "deeds" v) [some (.sh (MX l (a.map fP.d))),some Qdi,r,o,n,i,f] (a.map fP.d) [some (.sh (MX l (a.map fP.d))),some Qdi,r,o,n,i,f]:=by
  intro p v r o n i f;cases l
  .exact GD (v_ E.BE.1)
  .exact fJ (v_ E.BE.1)
 refine jn E.g E.jX (λj δ=>∃i f,δ=[some _,some _,some (.lst ((((a.take j).foldl aft bs).map _).map T.sh)),some (.lst (((tO Qdr bs).map J.d).map T.sh)),some (.lst (((wH Qdr).map .str).map T.sh)),i,f]) (t _ _ _ _ _ _ _) ⟨_,_,rfl⟩ (λj δ ⟨_,_,e⟩=>by subst e;exact k6 rfl) ?turn ?fin
 case turn=>
  rintro j d δ w ⟨i,f,rfl⟩;rw[o2]at w;obtain⟨q,k,rfl⟩:=MU.1 w;have hm:=qz k;have z:(tO Qdr bs).length<=1000:=by rw[afg,sk];lia
  have u:(wH Qdr).length<=1000:=oy (JJ _ _) (by rw[sk];lia);have B:wH (a.take QA)=wH Qdr++(LY q).toList:=by
   rw[mW k];unfold wH;rw[List.filterMap_append];cases q<;>rfl
  rw[mW k,afe,List.foldl_append,← mW k,B];have y:=afd Qdr bs;have fC:=Yl y q (h.2 q hm);generalize (a.take j).foldl aft bs=cur at y fC ⊢;generalize tO _ bs=rs at z ⊢;generalize wH _=cs at u ⊢;apply bu E.g E.fV (c_ (q,cur) E.apH E.VZ (ah (aW E.jX) Qkh) fC (Vg _ _ _));apply bu E.g E.cW QbY;apply lz E.bT.1 rfl (dB (d:=(q.row cur).d) (bR (vE E.fV.1 rfl rfl) ao rfl) (FW cur q)) rfl WF;have A:(rs.map J.d).map T.sh++[T.sh (q.row cur).d]=((rs++[q.row cur]).map J.d).map T.sh:=by rw[nH,nH];rfl
  rw[A];cases q with
  | put x bb m=>
   refine fK (fj QdE cG).1 (λc=>absurd (show("put")="call" from n8 c) Wl) (λc=>ak (ak ⟨some (.sh (fP.put x bb m).d),some (.tup [.sh .any,.sh ((fP.put x bb m).row cur).d]),?_⟩));rw[show(LY _).toList=[] from rfl,n2];rfl
  | say s bb m=>
   refine fK (fj QdE cG).1 (λc=>absurd (show("say")="call" from n8 c) Wl) (λc=>ak (ak ⟨some (.sh (fP.say s bb m).d),some (.tup [.sh .any,.sh ((fP.say s bb m).row cur).d]),?_⟩));rw[show(LY _).toList=[] from rfl,n2];rfl
  | call s=>
   refine fK (fj QdE cG).1 (λc=>?_) (λc=>absurd rfl (ph c));refine lz E.lY.1 rfl Qib rfl WF (ak (ak ⟨some (.sh (fP.call s).d),some (.tup [.sh .any,.sh ((fP.call s).row cur).d]),?_⟩));have es:(cs.map D.str).map T.sh++[T.sh (.str s)]=((cs++(LY (fP.call s)).toList).map D.str).map T.sh:=by rw[nH,nH];rfl
   rw[← es];rfl
 case fin=>
  rintro δ ⟨i,f,rfl⟩;rw[dm,pz];exact bG Qll rfl
def gu:FG Iw ["deeds","boxes"] ["list","done"] (ai Ah):=fG
abbrev xG:=top 66
abbrev xH:=Bool×List It×AT
abbrev EA:At:=["script","boxes","behind","rows","called","part","step"]
def j8:xH->BB:=λ(l,xs,bs)=>[MX l QeS,.lst Qbz]
def ji:xH->Prop:=λ(l,xs,bs)=>xs.length<=1000/\∀x∈xs,x.ok bs
def nK:xH->T:=λ(l,xs,bs)=>(.tup [.lst (((xs.foldl It.af bs).map .int).map T.sh),.lst (((Hx xs bs).map J.d).map T.sh),.lst (((dY xs).map .str).map T.sh)]:T)
structure Sv(X:Cx)(CL:BC):Prop extends bN X where
 cy:Ln X 0 "script"
 cR:Ln X 1 "boxes"
 cW:Ln X 2 "behind"
 bT:Ln X 3 "rows"
 lY:Ln X 4 "called"
 xr:Ln X 5 "part"
 fV:Ln X 6 "step"
 cN:Gl X "list"
 YQ:Gl X "MARKS"
 Aj:Gl X "all_done"
 cO:mK X "list"
 Ga:GT X "MARKS" ["out","keep","way","in"]
 V1:Fc X CL "all_done" 4 2 vd pU pV
theorem Sw(E:Sv X CL) :
  mO X CL b xG EA j8 ji nK:=by
 rintro⟨l,xs,bs⟩ h;dsimp [ji,j8]at h ⊢;apply bu E.g E.cW (jF E.cO (aW E.cR) (cB _) E.cN bS);refine bu E.g E.bT (c9 bI aZ) ?_;refine bu E.g E.lY (c9 bI aZ) ?_;have u:∀(p v:Pos) (t s r f a:Qcd),ZE X CL b (.Name "part" p) (.Name "script" v) [some (.sh (MX l QeS)),some Qdi,t,s,r,f,a] QeS [some (.sh (MX l QeS)),some Qdi,t,s,r,f,a]:=by
  intro p v t s r f a;cases l
  .exact GD (v_ E.cy.1)
  .exact fJ (v_ E.cy.1)
 refine jn E.g E.xr (λj δ=>∃f a,δ=[some _,some _,some (.lst ((((xs.take j).foldl It.af bs).map _).map T.sh)),some (.lst (((Hx Qd1 bs).map J.d).map T.sh)),some (.lst (((dY Qd1).map .str).map T.sh)),f,a]) (u _ _ _ _ _ _ _) ⟨_,_,rfl⟩ (λj δ ⟨_,_,e⟩=>by subst e;exact k6 rfl) ?turn ?fin
 case turn=>
  rintro j d δ o ⟨f,a,rfl⟩;rw[o2]at o;obtain⟨x,n,rfl⟩:=MU.1 o;have hm:=qz n;have D:(Hx Qd1 bs).length<=1000:=by rw[Bm,sk];lia
  have C:(dY Qd1).length<=1000:=oy (JJ _ _) (by rw[sk];lia);have A:=uI Qd1 bs;have fC:=ajw A x (h.2 x hm);have e1:(xs.take QA).foldl It.af bs=((xs.take j).foldl It.af bs |> λc=>x.af c):=by rw[mW n,List.foldl_append];rfl
  have e2:Hx (xs.take QA) bs=Hx Qd1 bs++[x.j ((xs.take j).foldl It.af bs)]:=by rw[mW n,ajv];rfl
  have z:dY (xs.take QA)=dY Qd1++x.call.toList:=by rw[mW n,RZ]
  rw[e1,e2,z];clear e1 e2 z;generalize (xs.take j).foldl _ bs=cur at A fC ⊢;generalize Hx _ bs=rs at D ⊢;have m:=aju x;by_cases i:x.told=true
  .obtain⟨q,rfl⟩:∃q,x=.pQ q:=by cases x<;>first|exact⟨_,rfl⟩|cases i
   refine fK (XJ (l:=N3) (bR (aQ (v_ (d:=.tup (.str q.w::q.ds)) E.xr.1)) ao aml) (aQ (Rj E.Ga E.YQ)) rfl rfl).1 (λk=>by rw[show decide (q.w∈N3)=false from m]at k;cases k) (λk=>?_);refine bu E.g E.fV (c_ (true,[q],cur) E.V1 E.Aj (ah (cA (c9 (bq (v_ E.xr.1) bI) aZ)) Qkh) (by exact⟨WA,λy B=>n4.1 B▸fC ⟩) (N5 (cB _) (LZ _ _) (eZ Qdb _))) ?_;rw[show pV _=T.tup [.lst _,.lst ([(q.row cur).d].map _),.lst _] from rfl];apply bu E.g E.cW QbY;have F:(wH [q]).length<=1:=JJ _ _;apply mU E.bT.1 rfl (cA QbY) (by exact LZ [q] cur) rfl WF;refine mU E.lY.1 rfl (cA QbY) (v8 _) rfl WF (ak (ak ⟨some (.sh q.d),some (.tup [.sh .any,.sh .any,.sh .any]),?_⟩));rw[nH,nH,nH,nH];rfl
  .have i:=by simpa using i
   have o:x.j cur=x.sj:=by cases x<;>first|rfl|cases i
   have H:x.af cur=cur:=by cases x<;>first|rfl|cases i
   have G:x.call=none:=by cases x<;>first|rfl|cases i
   rw[i]at m;refine fK (XJ (l:=N3) (bR (aQ (v_ E.xr.1)) ao aml) (aQ (Rj E.Ga E.YQ)) rfl rfl).1 (λk=>?_) (λk=>by rw[m]at k;cases k);refine lz E.bT.1 rfl (dB (aW E.xr) (N4 x)) rfl WF (ak (ak ⟨some (.sh x.d),a,?_⟩));rw[o,G,show(x.af) cur=cur from H,show none.toList=[] from rfl,n2,nH,nH];rfl
 case fin=>
  rintro δ ⟨f,a,rfl⟩;rw[dm,pz];exact bG Qll rfl
def eK:FG EA ["script","boxes"] ["list","MARKS","all_done"] (ai xG):=fG
abbrev ve:=top 28
abbrev vf:=BB×BB×D×BB×BB×List cg×Int
noncomputable abbrev BU:At:=["chart","number"]
def lZ:vf->BB:=λ(bs,nm,tr,is,os,ws,i)=>[iE bs nm tr is os QaT,.int i]
def iJ:vf->Prop:=λ(bs,nm,tr,is,os,ws,i)=>0<=i/\i<ws.length
def mh:vf->T:=λ(bs,nm,tr,is,os,ws,i)=>(.sh (.bl (pP ws i)):T)
structure O9(X:Cx)(CL:BC):Prop extends bN X where
 aY:Ln X 0 "chart"
 cJ:Ln X 1 "number"
 om:Gl X "TARGET"
 oq:∃u,X.mg "TARGET" = some (.int 4 u)
 aP:jC X.K QE
 bX:aU X.K QE "ways"
def Pa(E:O9 X CL) :
  mO X CL b ve BU lZ iJ mh:=by
 rintro⟨bs,nm,tr,is,os,ws,i⟩ h;obtain⟨h0,h1⟩:=h;exact bG (MK (bR (bY (cL E.aP E.bX QaH iW) QeO (gA w0 h0 h1)) (aQ (e7 E.oq E.om)) (fD rfl)) Qbr).2 rfl
def nL:FG BU ["chart","number"] ["TARGET"] (ai ve):=fG
abbrev Pb:=top 11
abbrev Pg:=At×AT×AT×Int
noncomputable abbrev YR:At:=["tree","mood","found","elder"]
def m8:Pg->BB:=λ(ks,es,ss,m)=>[eO ks es ss,.int m]
def m9:Pg->Prop:=λ(ks,es,ss,m)=>fM es/\0<=m/\m<es.length/\es.length<=1000
def ng:Pg->T:=λ(ks,es,ss,m)=>(.lst (((bV es m).map .int).map T.sh):T)
structure akd(X:Cx)(CL:BC):Prop extends bN X where
 cC:Ln X 0 "tree"
 cS:Ln X 1 "mood"
 dM:Ln X 2 "found"
 jx:Ln X 3 "elder"
 c6:jC X.K Qap
 d7:aU X.K Qap "elders"
theorem ake(E:akd X CL) :
  mO X CL b Pb YR m8 m9 ng:=by
 rintro⟨ks,es,ss,m⟩ h;obtain⟨d,h0,h1,hlen⟩:=h;apply bu E.g E.dM QaS;apply bu E.g E.jx (dB (bY Qjq QaU (g8 h0 h1)) rfl);have hm:=d.at h0 h1;apply FD E.g (λn δ=>∃(k:Int) (l:AT),δ=[some _,some _,some (.lst ((l.map .int).map T.sh)),some QfX] /\ -1<=k/\k<n/\k<es.length/\l++FN n es k=bV es m/\l.length+n<=es.length+1) QeU
  ⟨ _,[],rfl,hm.1,We,We,rfl,WA⟩
 rintro n δ ⟨k,l,rfl,k0,k1,k2,k3,i⟩;refine⟨_,_,(MK Qfe Qbr).1,λa=>?_,λa=>?_⟩
 .have c:=by simpa using a
  have f:=d.at We k2;cases n with
  | zero=>lia
  | succ n=>
   apply lz E.dM.1 rfl (v_ E.jx.1) rfl WF;apply bu E.g E.jx (dB (bY Qjq Qfe (g8 We k2)) rfl);refine ak ⟨n,IM _,_,l++[k],?_,f.1,We,We,?_,WF⟩
   .simp
   .rw[← k3,FN,bF c,nr];rfl
 .have c:=by simpa using a
  subst c;have e:l=bV es m:=by
   rw[← k3];cases n with
   | zero=>rw[FN,n2]
   | succ n=>rw[FN,cq rfl,n2]
  subst e;exact bG (vM E.dM.1) rfl
def xJ:FG YR ["tree","mood"] [] (ai Pb):=fG
abbrev Iz:=top 13
abbrev IA:=At×AT×AT×Int×Int
noncomputable abbrev Sx:At:=["tree","mood","other"]
def nh:IA->BB:=λ(ks,es,ss,m,o)=>[eO ks es ss,.int m,.int o]
def ni:IA->Prop:=λ(ks,es,ss,m,o)=>fM es/\0<=m/\m<es.length/\es.length<=1000
def nj:IA->T:=λ(ks,es,ss,m,o)=>(.sh (.bl (decide (o=-1) || decide (o∈bV es m))):T)
structure agk(X:Cx)(CL:BC):Prop extends bN X where
 cC:Ln X 0 "tree"
 cS:Ln X 1 "mood"
 i6:Ln X 2 "other"
 mj:Gl X "above"
 pW:Fc X CL "above" 1 2 m8 m9 ng
def agl(E:agk X CL) :
  mO X CL b Iz Sx nh ni nj:=by
 rintro⟨ks,es,ss,m,o⟩ h;exact bG (alY (eW QbR Qbr).2 (λ_=>MQ (FE QbR (cA (c_ (ks,es,ss,m) E.pW E.mj Qg8 h (aV _))) rfl rfl).2)) rfl
def tX:FG Sx ["tree","mood","other"] ["above"] (ai Iz):=fG
abbrev SU:=top 17
abbrev SS:=At×AT×AT×Int×Int
noncomputable abbrev amI:At:=["tree","one","other","upper"]
def Ph:SS->BB:=λ(ks,es,ss,a,c)=>[eO ks es ss,.int a,.int c]
def Pj:SS->Prop:=λ(ks,es,ss,a,c)=>fM es/\es.length<=1000/\ks.length=es.length/\(0<=a/\a<es.length)/\0<=c/\c<es.length
def Gb:SS->T:=λ(ks,es,ss,a,c)=>(.sh (.int (Ny QaC es a c)):T)
structure aue(X:Cx)(CL:BC):Prop extends bN X where
 cC:Ln X 0 "tree"
 qG:Ln X 1 "one"
 i6:Ln X 2 "other"
 jy:Ln X 3 "upper"
 mj:Gl X "above"
 ou:Gl X "within"
 pW:Fc X CL "above" 1 2 m8 m9 ng
 ow:Fc X CL "within" 2 3 nh ni nj
 c6:jC X.K Qap
 cQ:aU X.K Qap "kinds"
theorem auf(E:aue X CL) :
  mO X CL b SU amI Ph Pj Gb:=by
 rintro⟨ks,es,ss,a,c⟩ h;dsimp [Gb]at h ⊢;obtain⟨p,r,z,⟨a0,a1⟩,c0,u⟩:=h;refine jn E.g E.jy (λj δ=>∃o,(∀x∈(bV es a).take j,(cM ks x&&decide (x∈bV es c))=false)/\δ=[some _,some _,some _,o])
  (fJ (eY (c_ (_,_,_,_) E.pW E.mj (ah Qbg (ah QcE aS)) ((⟨p,a0,a1,r⟩)) (aV _)))) ⟨_,λx i=>by simp at i,rfl⟩ (λj δ ⟨_,_,e⟩=>by subst e;exact k6 rfl) ?turn ?fin
 case turn=>
  rintro j d δ m ⟨o,k,rfl⟩;rw[o2]at m;cases i:(bV es a)[j]? with
  | none=>rw[i]at m;cases m
  | some x=>
   rw[i]at m;cases m;have n:=qz i;have t:=bO p a0 a1 n;have v:=(pd.1 i).1;have s:(bV es a).take QA=(bV es a).take j++[x]:=by rw[x3,i];rfl
   refine fK (uo (jE (fj (bY Qft (aW E.jy) (gA Str.empty We We)) cG).1 (λA=>(jP (qx (c_ (_,_,_,_,_) E.ow E.ou (ah Qbg (ah QbR (ah (aW E.jy) aS))) ((⟨p,c0,u,r⟩)) rfl)))))) (λl=>?_) (λl=>ak (ak ⟨_,?_,rfl⟩))
   .apply bG (v_ E.jy.1);have q:(cM ks x&&decide (x∈bV es c))=true:=by
     have:decide (x=-1)=false:=qr We;rw[this]at l;exact l
    have:(bV es a).find? (λx=>cM ks x&&decide (x∈bV es c))=some x:=by
     have w:=by
      have h2:=MI j (bV es a);rw[O3 v]at h2;have:=(pd.1 i).2;rw[this]at h2;exact h2.symm
     conv=>lhs;rw[w]
     rw[List.find?_append,List.find?_eq_none.2 (λy f=>by rw[k y f];decide),yn,q];rfl
    show _=T.sh _;unfold Ny;rw[this];rfl
   .intro y f;rw[s]at f;obtain f|f:=f9.1 f
    .exact k y f
    .have e:=by simpa using f
     subst e;have:decide (y=-1)=false:=qr We;rw[this]at l;exact l
 case fin=>
  rintro δ ⟨o,k,rfl⟩;rw[dm,pz]at k;apply bG (g7 ao);unfold Ny;rw[List.find?_eq_none.2 (λy f=>by rw[k y f];decide)];rfl
def Ak:FG amI ["tree","one","other"] ["above","within"] (ai SU):=fG
abbrev DL:=top 29
abbrev DM:=BB×BB×At×AT×AT×BB×BB×List cg×Int
noncomputable abbrev Mi:At:=["chart","number","way"]
def oz:DM->BB:=λ(bs,nm,ks,es,ss,is,os,ws,i)=>[iE bs nm Qa3 is os QaT,.int i]
def k9:DM->Prop:=λ(bs,nm,ks,es,ss,is,os,ws,i)=>fM es/\es.length<=1000/\ks.length=es.length/\Qez/\Qgx/\0<=(iy ws i).nN/\(iy ws i).nN<es.length
def oA:DM->T:=λ(bs,nm,ks,es,ss,is,os,ws,i)=>(.sh (.int (i7 ks es QbP)):T)
structure abg(X:Cx)(CL:BC):Prop extends bN X where
 aY:Ln X 0 "chart"
 cJ:Ln X 1 "number"
 gS:Ln X 2 "way"
 SO:Gl X "top"
 IB:Gl X "SOURCE"
 om:Gl X "TARGET"
 auh:Fc X CL "top" 3 3 Ph Pj Gb
 tY:∃u,X.mg "SOURCE" = some (.int 0 u)
 oq:∃u,X.mg "TARGET" = some (.int 4 u)
 aP:jC X.K QE
 bX:aU X.K QE "ways"
 bL:aU X.K QE "tree"
def abh(E:abg X CL) :
  mO X CL b DL Mi oz k9 oA:=by
 rintro⟨bs,nm,ks,es,ss,is,os,ws,i⟩ h;obtain⟨d,e,f,⟨c,i1⟩,hs,a⟩:=h;exact bu E.g E.gS (bw (Uw Qfm QeO (gA w0 c i1)) rfl) (bG (c_ (ks,es,ss,(iy ws i).src,(iy ws i).nN) E.auh E.SO (ah QcT (ah (bR QbN (aQ (e7 E.tY E.IB)) G7) (ah Qgw aS))) (⟨d,e,f,hs,a⟩) rfl) rfl)
def kZ:FG Mi ["chart","number"] ["top","SOURCE","TARGET"] (ai DL):=fG
abbrev Pk:=top 12
abbrev Pn:=At×AT×AT×Int
abbrev YS:At:=["tree","mood"]
def DN:Pn->BB:=λ(ks,es,ss,m)=>[eO ks es ss,.int m]
def yP:Pn->Prop:=λ(ks,es,ss,m)=>fM es/\0<=m/\m<es.length/\es.length<=1000
def DP:Pn->T:=λ(ks,es,ss,m)=>(.sh (.int ((bV es m).length:Nat)):T)
structure akf(X:Cx)(CL:BC):Prop extends bN X where
 cC:Ln X 0 "tree"
 cS:Ln X 1 "mood"
 ig:Gl X "len"
 mj:Gl X "above"
 iu:mK X "len"
 pW:Fc X CL "above" 1 2 m8 m9 ng
def akg(E:akf X CL) :
  mO X CL b Pk YS DN yP DP:=by
 rintro⟨ks,es,ss,m⟩ h;have a:((bV es m).map D.int).length=(bV es m).length:=by simp
 exact bG (jq a E.iu (cA (c_ (ks,es,ss,m) E.pW E.mj Qg8 h (rH _))) E.ig) rfl
def xK:FG YS ["tree","mood"] ["len","above"] (ai Pk):=fG
abbrev xM:=top 30
abbrev xN:=At×AT×AT×Int×Int
noncomputable abbrev EB:At:=["tree","one","other"]
def sI:xN->BB:=λ(ks,es,ss,t,u)=>[eO ks es ss,.int t,.int u]
def nM:xN->Prop:=λ(ks,es,ss,t,u)=>fM es/\es.length<=1000/\(-1<=t/\t<es.length) /\ -1<=u/\u<es.length
def nO:xN->T:=λ(ks,es,ss,t,u)=>(.sh (.bl (L0 es t u)):T)
structure Sy(X:Cx)(CL:BC):Prop extends bN X where
 cC:Ln X 0 "tree"
 qG:Ln X 1 "one"
 i6:Ln X 2 "other"
 ou:Gl X "within"
 ow:Fc X CL "within" 2 3 nh ni nj
theorem Sz(E:Sy X CL) :
  mO X CL b xM EB sI nM nO:=by
 rintro⟨ks,es,ss,t,u⟩ h;dsimp [nO]at h ⊢;obtain⟨c,d,⟨t0,t1⟩,u0,u1⟩:=h;unfold L0;refine fK (uo (XC (eW QcE QbR).1 (λf=>(XC (eW QcE Qbr).1 (λe=>(MP (eW QbR Qbr).1)))))) (λa=>?_) (λa=>ak ?_)
 .apply bG pD;rw[a];rfl
 .rw[a];simp at a;apply bG (alY (c_ ((ks,es,ss,t,u)) E.ow E.ou (ah Qbg (ah QcE (ah QbR aS))) ((⟨c,We,We,d⟩)) rfl) (λf=>(MQ (c_ ((ks,es,ss,u,t)) E.ow E.ou (ah Qbg (ah QbR (ah QcE aS))) ((⟨c,We,We,d⟩)) rfl))));rw[qr a.2.2,qr a.2.1];rfl
def mq:FG EB ["tree","one","other"] ["within"] (ai xM):=fG
abbrev Pp:=top 31
abbrev V2:=BB×BB×At×AT×AT×BB×BB×List cg×AT
noncomputable abbrev agp:At:=["chart","found","chosen","tops","number","upper"]
def BV:V2->BB:=λ(bs,nm,ks,es,ss,is,os,ws,row)=>[iE bs nm Qa3 is os QaT,.lst (row.map .int)]
def BW:V2->Prop:=λ(bs,nm,ks,es,ss,is,os,ws,row)=>fM es/\es.length<=900/\ks.length=es.length/\row.length<=63/\(∀k∈row,0<=k/\k<ws.length)/\∀w∈ws,(0<=w.src/\w.src<es.length) /\ -1<=w.nN/\w.nN<es.length
def BX:V2->T:=λ(bs,nm,ks,es,ss,is,os,ws,row)=>(.lst (((amn ks es ws row).map .int).map T.sh):T)
structure apJ(X:Cx)(CL:BC):Prop extends bN X where
 aY:Ln X 0 "chart"
 pX:Bd X "chart"
 dM:Ln X 1 "found"
 IC:Ln X 2 "chosen"
 V3:Ln X 3 "tops"
 cJ:Ln X 4 "number"
 jy:Ln X 5 "upper"
 Pq:Bd X "upper"
 gT:Gl X "sorted"
 vg:Gl X "has_target"
 nu:Gl X "way_top"
 auj:Gl X "any"
 gU:mK X "sorted"
 vh:Fc X CL "has_target" 1 2 lZ iJ mh
 tZ:Fc X CL "way_top" 4 2 oz k9 oA
 auk:mK X "any"
 akh:Fc X CL "depth" 2 2 DN yP DP
 tY:∃u,X.mg "SOURCE" = some (.int 0 u)
 SD:Fc X CL "tops_meet" 3 3 sI nM nO
 aP:jC X.K QE
 bL:aU X.K QE "tree"
 bX:aU X.K QE "ways"
 lam:Ia X CL "#kept.<locals>.<lambda>" "kept.<locals>.<lambda>"
 dp:X.A.depth<recursionLimit
 rm:eN 4 X.A
theorem apK(E:apJ X CL) :
  mO X CL b Pp agp BV BW BX:=by
 rintro⟨bs,nm,ks,es,ss,is,os,ws,row⟩ h;dsimp only [BW,BV,BX]at h ⊢;obtain⟨H,F,M,Z,G,hw⟩:=h;refine bu E.g E.IC QaS ?_;refine bu E.g E.V3 QaS ?_;have R:∀(l:AT) (x:Int),(l.map D.int).map T.sh++[T.sh (.int x)]=((l++[x]).map D.int).map T.sh:=by intros;simp
 have P:∀{w:cg},w∈ws->-1<=i7 ks es w/\i7 ks es w<es.length:=λ{w} hm=>by
  have hs:=(hw w hm).1;rcases afj (cz:=cM ks) (es:=es) (a:=w.src) (c:=w.nN) with z|z
  .unfold i7;rw[z];lia
  .have:=bO H hs.1 hs.2 z;unfold i7;lia
 have Y:(e9 Qb3 row).length<=63:=by rw[yk];exact Z
 have B:∀k∈e9 Qb3 row,0<=k/\k<ws.length:=λk M=>G k (mR.1 M);have N:∀l:AT,(∀k∈l,0<=k/\k<ws.length)->∀t∈(sT ks es ws l).2,-1<=t/\t<es.length:=by
  have gen:∀(l:AT) (s:AT×AT),(∀k∈l,0<=k/\k<ws.length)->(∀t∈s.2,-1<=t/\t<es.length)->∀t∈(l.foldl QgZ s).2,-1<=t/\t<es.length:=by
   intro l
   induction l with
   | nil=>intro s _ hs;exact hs
   | cons k l V=>
    intro s F hs;rw[A0];refine V _ (λq v=>F q (jk _ v)) ?_;obtain⟨k0,k1⟩:=F k eU;unfold rF;split
    .split
     .exact hs
     .intro t u;obtain z|z:=f9.1 u
      .exact hs t z
      .rw[n4.1 z];exact P (uF k0 k1)
    .exact hs
  exactλl F=>gen l ([],[]) F (λt u=>by cases u)
 refine jn E.g E.cJ (λj δ=>∃o n,δ=[some _,some (.sh (.lst (row.map .int))),some (.lst (((sT ks es ws ((e9 Qb3 row).take j)).1.map .int).map T.sh)),some (.lst (((sT ks es ws ((e9 Qb3 row).take j)).2.map .int).map T.sh)),o,n])
  (fJ (eY (ds:=(e9 Qb3 row).map .int) (bw (zW (y:="way") (g:=λd=>HC es ws d.zj) E.lam E.g E.dp E.gU E.gT QgD (aW E.dM) (cB _) WF (λf c s0 H0 b' d hd=>?key)) (by rw[qk];rfl)))) ⟨_,_,rfl⟩ (λj δ ⟨_,_,e⟩=>by subst e;exact k6 rfl) ?turn ?fin
 case key=>
  obtain⟨k,A,rfl⟩:=n3.1 hd;obtain⟨k0,k1⟩:=G k A;obtain⟨⟨s0,s1⟩,_⟩:=hw _ (uF k0 k1);exact aQ (bw (g7 (aQ (c_ (ks,es,ss,(iy ws k).src) (aom E.akh (E.rm.mono Wp)) (UX Wl) (ah (cL (by exact E.aP) (by exact E.bL) Qjb gD) (ah (bR (bY (cL (by exact E.aP) (by exact E.bX) Qjb iW) Qja (gA (f:=jL) w0 k0 k1)) (aQ (e7 (by exact E.tY) (UX Wl))) G7) aS)) (by dsimp only [yP];exact⟨H,s0,s1,We⟩) rfl))) rfl)
 case turn=>
  rintro j d δ hj ⟨o,n,rfl⟩;obtain⟨k,rfl,_,A,Lw,_,S⟩:=jU hj;obtain⟨k0,k1⟩:=B k A;obtain⟨J,I⟩:=hw _ (uF k0 k1);have hlen:=Yo ks es ws ((e9 Qb3 row).take j);have nB:((e9 Qb3 row).take j).length<=63:=by rw[sk];lia
  have r:=N ((e9 Qb3 row).take j) λq v=>B q (w7 v);show dW X CL b _ _ {nx:=λδ=>∃o n,δ=[_,_,some QdB,some QdB,o,n],rt:=_,bk:=_,ct:=λδ=>∃o n,δ=[_,_,some QdB,some QdB,o,n]};rw[S,afv];generalize sT ks es ws ((e9 Qb3 row).take j)=s at hlen r ⊢;obtain⟨cs,Bp⟩:=s;dsimp only at hlen r ⊢;unfold rF;dsimp only;refine AX (λδ=>∃O n,(if pP ws k=true then(if Bp.any (L0 es QhS)=true then(cs,Bp) else(cs++[k],Bp++[i7 ks es QdJ])) else(cs++[k],Bp))=(cs++[k],O)/\δ=[some (.sh (iE bs nm Qa3 is os QaT)),some (.sh (.lst (row.map .int))),some (.lst ((cs.map .int).map T.sh)),some (.lst ((O.map .int).map T.sh)),some QfX,n])
   (qx (bw (c_ (bs,nm,eO ks es ss,is,os,ws,k) E.vh E.vg QgX (by dsimp only [iJ];exact⟨k0,k1⟩) rfl) (t2:=.sh (.bl (pP ws k))) rfl)) (λm=>?_) (λm=>?_) ?_
  .have m:pP ws k=true:=m;have W:¬ (iy ws k).nN=-1:=by unfold pP at m;simpa using m
   refine bu E.g E.jy (bw (c_ (bs,nm,ks,es,ss,is,os,ws,k) E.tZ E.nu QgX (by dsimp only [k9];exact⟨H,We,M,⟨k0,k1⟩,J,We,I.2⟩) rfl) rfl) ?_;have K:=P (uF (ws:=ws) k0 k1);refine fK (qx (bw (aoc E.g E.auk (cA (bw (aem (p:=λ_=>true) (g:=λd=>T.sh (.bl (L0 es QhS d.zj))) (b8 (.cons E.aY.1 (.inl E.pX) (.cons E.jy.1 (.inl E.Pq) .nil)) Wl) E.g.calm (vL E.V3.1) (λd _=>rfl) (λC s0 H0 f0 b' d hd=>?EY) (p7 (dG (by rw[dm];lia)))) ?ceq)) E.auj) (t2:=.sh (.bl (Bp.any (L0 es QhS)))) (congrArg (λz=>T.sh (.bl z)) (by rw[List.any_map];rfl)))) (λv=>?_) (λv=>ak ?_)
   case EY=>
    obtain⟨t,L,rfl⟩:=n3.1 hd;exact⟨rfl,λ_=>bw (c_ (ks,es,ss,i7 ks es QdJ,t) (ly E.SD) wB (ah (cL (by exact E.aP) (by exact E.bL) (gR 1) gD) (ah (gR 2) (ah (lF 0) aS))) (by dsimp only [nM];exact⟨H,We,K,r t L⟩) rfl) rfl⟩
   case ceq=>
    rw[rE,n7,n7,n7];rfl
   .refine anW ?_;rw[cq m,cq v];exact⟨_,_,rfl⟩
   .refine lz E.V3.1 rfl (v_ E.jy.1) rfl WF (ak ⟨Bp++[i7 ks es QdJ],some (.sh (.int QhS)),?_,?_⟩)
    .rw[cq m,bF (by rw[v];decide)]
    .rw[R];rfl
  .have m:pP ws k=false:=m;exact ak ⟨Bp,_,by rw[bF (by rw[m];decide)],rfl⟩
  rintro δ ⟨O,U,eT,rfl⟩;rw[eT];refine lz E.IC.1 rfl (v_ E.cJ.1) rfl WF (ak ?_);rw[R];exact⟨_,_,rfl⟩
 case fin=>
  rintro δ ⟨o,n,rfl⟩;rw[dm,pz];have hlen:=Yo ks es ws QfT;exact bG (bw (ux E.gU (vL E.IC.1) We E.gT) rfl) rfl
def kD:TQ (ai Pp) ([("chart",.cell),("found",dH),("chosen",dH),("tops",dH),("number",dH),("upper",.cell),("sorted",cu),("has_target",cu),("way_top",cu),("any",cu)])=true:=by decide +kernel
def YT:dw agp ["chart","found"] (ai Pp):=kg
abbrev nP:=top 26
abbrev sJ:=BB×BB×At×AT×AT×BB×BB×BB×AT
abbrev zB:At:=["chart","opens"]
def oZ:sJ->BB:=λ(bs,nm,ks,es,ss,is,os,ws,ops)=>[iE bs nm Qa3 is os ws,.lst QdS]
def o9:sJ->Prop:=λ(bs,nm,ks,es,ss,is,os,ws,ops)=>ops.length<=1000/\∀x∈ops,0<=x/\x<ks.length
def kE:sJ->T:=λ(bs,nm,ks,es,ss,is,os,ws,ops)=>(.lst (((rA ks ops).map .int).map T.sh):T)
structure Kg(X:Cx)(CL:BC):Prop extends bN X where
 aY:Ln X 0 "chart"
 pX:Bd X "chart"
 dz:Ln X 1 "opens"
 aP:jC X.K QE
 c6:jC X.K Qap
 cQ:aU X.K Qap "kinds"
 bL:aU X.K QE "tree"
def Kh(E:Kg X CL) :
  mO X CL b nP zB oZ o9 kE:=by
 rintro⟨bs,nm,ks,es,ss,is,os,ws,ops⟩ h;dsimp [kE]at h ⊢;obtain⟨f,e⟩:=h;refine bG (rJ (p:=λd=>Yj ks d.zj) (g:=T.sh) QgD E.g.calm (fJ (v_ E.dz.1)) QaK (λC s0 j f0 i d hd=>?EY) (Nat.le_of_lt (dG (by simpa using f)))) ?eq
 case EY=>
  obtain⟨x,c,rfl⟩:=n3.1 hd;obtain⟨x0,a⟩:=e x c;exact⟨(fj (bY (cL (by exact E.c6) (by exact E.cQ) (cL (by exact E.aP) (by exact E.bL) (gR 1) gD) kR) (lF 0) (gA _ x0 a)) cG).1,λ_=>v_ (J2 0)⟩
 case eq=>
  rw[yl,n7,n7];rfl
def qT:TQ (ai nP) ([("chart",.cell),("opens",dH)])=true:=by decide +kernel
def IE:dw zB ["chart","opens"] (ai nP):=kg
abbrev V4:=top 24
abbrev V5:=List vP×AT
noncomputable abbrev agq:At:=["asks","opens","ask"]
def IG:V5->BB:=λ(l,ops)=>[.tup (l.map uJ),.lst QdS]
def II:V5->Prop:=λ(l,ops)=>∀a∈l,a.RU
def BZ:V5->T:=λ(l,ops)=>(.sh (.bl (L5 ops (l.map uJ))):T)
structure apL(X:Cx)(CL:BC):Prop extends bN X where
 Ac:Ln X 0 "asks"
 dz:Ln X 1 "opens"
 rO:Ln X 2 "ask"
def apM(E:apL X CL) :
  mO X CL b V4 agq IG II BZ:=by
 rintro⟨l,ops⟩ h;dsimp [BZ]at h ⊢;refine jn E.g E.rO (λj δ=>∃o,(∀d∈(l.map uJ).take j,ID ops d=true)/\δ=[some _,some _,o])
  (GD (v_ E.Ac.1)) ⟨_,λx v=>by simp at v,rfl⟩ (λj δ ⟨_,_,e⟩=>by subst e;exact k6 rfl) ?turn ?fin
 case turn=>
  rintro j d δ s ⟨o,p,rfl⟩;have t:(l.map uJ).take QA=(l.map uJ).take j++[d]:=by rw[x3,s];rfl
  have n:=qz s;have no:ID ops d=false->L5 ops _=false:=λe=>List.all_eq_false.2 ⟨d,n,by rw[e];decide⟩;obtain⟨a,z,rfl⟩:=n3.1 n;have w:=h a z;have i:ID ops _=true->∀y∈(l.map uJ).take _,ID ops y=true:=λe y f=>by
   rw[t]at f;obtain f|f:=f9.1 f
   .exact p y f
   .exact n4.1 f▸e
  cases a with
  | num mk b1 m1 b2 m2=>
   obtain⟨n1,u⟩:=ajy w;refine fK (uo (jE (q:=false) (fj Qco cG).1 (λr=>absurd (n8 r) n1))) (λc=>by simp at c) (λ_=>ak ?_);refine fK (uo (jE (q:=false) (fj Qco cG).1 (λr=>absurd (n8 r) u))) (λc=>by simp at c) (λ_=>ak (ak ⟨_,i rfl,rfl⟩))
  | Hz op m=>
   have hf:=afl ops op m;refine fK (uo (jE (fj Qco cG).1 (λ_=>jP (M3 Qco Qca rfl rfl).1))) (λc=>?_) (λc=>ak ?_)
   .have c:=c;apply bG pD;rw[no];rw[hf];cases op with
    | false=>exact absurd c (by rw[show decide _=false by decide +kernel];simp)
    | true=>rw[Bool.and_eq_true]at c;simpa using c.2
   refine fK (uo (jE (fj Qco cG).1 (λ_=>jP (FE Qco Qca rfl rfl).1))) (λk=>?_) (λk=>ak (ak ⟨_,i ?_,rfl⟩))
   .apply bG pD;rw[no];rw[hf];cases op with
    | true=>exact absurd k (by rw[show decide _=false by decide +kernel];simp)
    | false=>rw[Bool.and_eq_true]at k;simpa using k.2
   .rw[hf];cases op with
    | true=>simpa using c
    | false=>simpa using k
 case fin=>
  rintro δ ⟨o,p,rfl⟩;rw[pz]at p;apply bG pD;rw[show L5 ops _=true from w1.2 p]
def Ge:FG agq ["asks","opens"] [] (ai V4):=fG
abbrev B3:=top 23
abbrev IJ:=BB×BB×At×AT×AT×BB×BB×List cg×AT×Int×Str
noncomputable abbrev SG:At:=["chart","opens","leaf","sign","found","number","way","line"]
def Al:IJ->BB:=λ(bs,nm,ks,es,ss,is,os,ws,ops,leaf,sg)=>[iE bs nm Qa3 is os QaT,.lst QdS,.int leaf,.str sg]
def Am:IJ->Prop:=λ(bs,nm,ks,es,ss,is,os,ws,ops,leaf,sg)=>fM es/\es.length<=900/\0<=leaf/\leaf<es.length/\ws.length<=63/\afn ws
def qU:IJ->T:=λ(bs,nm,ks,es,ss,is,os,ws,ops,leaf,sg)=>(.lst (((Hc ws ops sg (leaf::bV es leaf)).map .int).map T.sh):T)
structure agr(X:Cx)(CL:BC):Prop extends bN X where
 aY:Ln X 0 "chart"
 pX:Bd X "chart"
 dz:Ln X 1 "opens"
 IK:Ln X 2 "leaf"
 lJ:Ln X 3 "sign"
 dM:Ln X 4 "found"
 cJ:Ln X 5 "number"
 gS:Ln X 6 "way"
 V6:Ln X 7 "line"
 apN:Bd X "line"
 mj:Gl X "above"
 xu:Gl X "enumerate"
 apO:Gl X "SIGN"
 IB:Gl X "SOURCE"
 V7:Gl X "fits"
 V8:Gl X "ASKS"
 gT:Gl X "sorted"
 pW:Fc X CL "above" 1 2 m8 m9 ng
 xx:mK X "enumerate"
 apP:∃u,X.mg "SIGN" = some (.int 1 u)
 tY:∃u,X.mg "SOURCE" = some (.int 0 u)
 apQ:Fc X CL "fits" 1 2 IG II BZ
 V9:∃u,X.mg "ASKS" = some (.int 2 u)
 gU:mK X "sorted"
 aP:jC X.K QE
 bX:aU X.K QE "ways"
 bL:aU X.K QE "tree"
 lam:Ia X CL "#goable.<locals>.<lambda>" "goable.<locals>.<lambda>"
 dp:X.A.depth<recursionLimit
 rm:eN 1 X.A
theorem ags(E:agr X CL) :
  mO X CL b B3 SG Al Am qU:=by
 rintro⟨bs,nm,ks,es,ss,is,os,ws,ops,leaf,sg⟩ h;dsimp [qU]at h ⊢;obtain⟨z,J,f0,f1,v,r⟩:=h;have N:(bV es leaf).length<=es.length+1:=yp _ _ _;have K:([D.int leaf]++(bV es leaf).map _)=(leaf::bV es leaf).map _:=rfl;refine bu E.g E.V6 (bw (A2 (cA (ds:=[.int leaf]) (c9 (bq (v_ E.IK.1) bI) aZ)) (cA (c_ (ks,es,ss,leaf) E.pW E.mj (ah QcT (ah (aW E.IK) aS)) (⟨z,f0,f1,We⟩) (aV _))) rfl (cB _) Qe5) (t2:=.lst (((leaf::bV es leaf).map .int).map T.sh)) rfl) ?_;generalize leaf::bV es leaf=ln;apply bu E.g E.dM QaS;have C:∀(l:AT) (x:Int),(l.map D.int).map T.sh++[T.sh (.int x)]=((l++[x]).map D.int).map T.sh:=by simp
 refine anY E.g (XQ E.g.nd E.g.calm E.cJ E.gS) (λj δ=>∃n m,δ=[some _,some _,some _,some _,some (.lst ((((zp ws ops sg ln j).map λ(k:Nat)=>(k:Int)).map .int).map T.sh)),n,m,some _])
  (Rh w0 E.xx Qfm E.xu) ⟨_,_,rfl⟩ (λj δ ⟨_,_,e⟩=>by subst e;intro i hi;simp only[eu,oe,or_false]at hi;obtain rfl|rfl:=hi<;>exact k6 rfl) ?turn ?fin
 case turn=>
  rintro j d δ A ⟨n,m,rfl⟩;obtain⟨i,rfl,hi,F,t,_,_⟩:=jU A;have B:=by
   rw[List.getElem?_range (by simpa using (List.getElem?_eq_some_iff.1 hi).1)]at hi;exact(o7 hi).symm
  subst B;have t:=rb.1 F;refine⟨_,rfl,?_⟩;obtain⟨w,hw⟩:∃w,ws.getD i w0=w:=⟨_,rfl⟩;have o:w∈ws:=by rw[← hw,ox,pv t];exact List.getElem_mem _
  obtain⟨al,s,q⟩:=r w o;show dW X CL b _ _ {nx:=λδ=>∃n m,δ=[_,_,_,_,some _,n,m,_],rt:=_,bk:=_,ct:=_};rw[afm,hw];have G:=Ym ws ops sg ln i;refine fK (uo (jE (fj (bR QbN (aQ (e7 E.apP E.apO)) HE) (aW E.lJ)).1 (λ_=>jE (FE (bR QbN (aQ (e7 E.tY E.IB)) G7) (vL E.V6.1) rfl rfl).1 (λ_=>jP (qx (bw (c_ (al,ops) E.apQ E.V7 (ah (El (bR QbN (aQ (e7 E.V9 E.V8)) RY) (congrArg _ s)) (ah Qca aS)) (q) rfl) (t2:=.sh (.bl (L5 ops w.asks))) (by rw[s];rfl))))))) (λa=>?_) (λa=>ak (ak ?_))
  .have a:zi ops sg ln w=true:=a;refine lz E.dM.1 rfl (v_ E.cJ.1) rfl WF (ak (ak ?_));rw[C,cq a,nH];exact⟨_,_,rfl⟩
  .have a:zi ops sg ln w=false:=a;rw[bF (by rw[a];decide),n2];exact⟨_,_,rfl⟩
 case fin=>
  rintro δ ⟨n,m,rfl⟩;rw[dm,sm];have G:=Ym ws ops sg ln ws.length;have H:∀{k:Nat},k∈zp ws ops sg ln _->k<ws.length/\(ws.getD k w0).src∈ln:=λp=>by
   obtain⟨h1,h2⟩:=oC.1 p;simp only[zi,oD,FC]at h2;exact⟨rb.1 h1,h2.2.1⟩
  refine bG (bw (zW (y:="way") (g:=λd=>((C5 ln (ws.getD d.zj.toNat w0).src))) E.lam E.g E.dp E.gU E.gT (b8 (.cons E.aY.1 (.inl E.pX) (.cons E.V6.1 (.inl E.apN) .nil)) Wl) (vL E.dM.1) (cB _) WF (λf c s0 M L d hd=>?key)) ?eq) rfl
  case key=>
   obtain⟨x,u,rfl⟩:=n3.1 hd;obtain⟨k,p,rfl⟩:=n3.1 u;obtain⟨k1,k2⟩:=H p;have I:za QaT k=some _:=(gA w0 We We).trans (by rw[oo]);refine aQ (bw (ael (El (aQ (v_ (Ni (i:=2) rfl Wl))) (dF _)) (bR (bY (cL (E.aP) (E.bX) Qjb iW) Qja I) (aQ (e7 (E.tY) (UX Wl))) G7) (N6 k2) (λi hi=>aoQ hi)) ?_);show T.sh _=T.sh (.int ((C5 ln (ws.getD (k:Int).toNat w0).src:Nat):Int));rw[oo]
  case eq=>
   rw[qk];rfl
def dP:TQ (ai B3) ([("chart",.cell),("opens",dH),("leaf",dH),("sign",dH),("found",dH),("number",dH),("way",dH),("line",.cell),("above",cu),("enumerate",cu),("SIGN",cu),("SOURCE",cu),("fits",cu),("ASKS",cu),("sorted",cu)])=true:=by decide +kernel
def Mj:dw SG ["chart","opens","leaf","sign"] (ai B3):=kg
abbrev Pr:=top 20
abbrev Pu:=Str×Int×Int×Int×Int×AT
noncomputable abbrev YV:At:=["ask","boxes","mark","one","other"]
noncomputable def DQ:Pu->BB:=λ(mk,b1,m1,b2,m2,bs)=>[.tup [.str mk,.tup [.int b1,.int m1],.tup [.int b2,.int m2]],.lst Qbz]
def DR:Pu->Prop:=λ(mk,b1,m1,b2,m2,bs)=>(b1=-1\/(0<=b1/\b1<bs.length))/\(b2=-1\/(0<=b2/\b2<bs.length))
def DS:Pu->T:=λ(mk,b1,m1,b2,m2,bs)=>(.sh (.bl (Vh mk (qC b1 m1 bs) (qC b2 m2 bs))):T)
structure aki(X:Cx)(CL:BC):Prop extends bN X where
 rO:Ln X 0 "ask"
 cR:Ln X 1 "boxes"
 Pw:Ln X 2 "mark"
 qG:Ln X 3 "one"
 i6:Ln X 4 "other"
 uZ:Gl X "value"
 BR:Fc X CL "value" 1 2 yN tV yO
def akj(E:aki X CL) :
  mO X CL b Pr YV DQ DR DS:=by
 rintro⟨mk,b1,m1,b2,m2,bs⟩ h;apply bu E.g E.Pw (dB Qco rfl);refine bu E.g E.qG (c_ (b1,m1,bs) E.BR E.uZ (ah Qco Qcr) h.1 rfl) ?_;refine bu E.g E.i6 (c_ (b2,m2,bs) E.BR E.uZ (ah Qco Qcr) h.2 rfl) ?_;refine fK (fj (aW E.Pw) cG).1 (λa=>?_) (λa=>ak ?_)
 .apply bG (Lj QcE QbR).2;show T.sh _=T.sh _;rw[Vh,cq (n8 a)]
 refine fK (fj (aW E.Pw) cG).1 (λc=>?_) (λc=>ak ?_)
 .apply bG (asq QcE QbR).2;show T.sh _=T.sh _;rw[Vh,bF (ph a),cq (n8 c)]
 refine fK (fj (aW E.Pw) cG).1 (λd=>?_) (λd=>ak ?_)
 .apply bG (eW QcE QbR).2;show T.sh _=T.sh _;rw[Vh,bF (ph a),bF (ph c),cq (n8 d)]
 .apply bG (MK QcE QbR).2;show T.sh _=T.sh _;rw[Vh,bF (ph a),bF (ph c),bF (ph d)]
def qV:FG YV ["ask","boxes"] ["value"] (ai Pr):=fG
abbrev An:=top 21
abbrev Ao:=Bool×List Ask×AT
noncomputable abbrev IL:At:=["asks","boxes","ask"]
def vj:Ao->BB:=λ(l,a,bs)=>[MX l (a.map LI),.lst Qbz]
def vm:Ao->Prop:=λ(l,a,bs)=>∀q∈a,XX bs q
def pY:Ao->T:=λ(l,a,bs)=>(.sh (.bl (a.all (hQ bs))):T)
structure Wa(X:Cx)(CL:BC):Prop extends bN X where
 Ac:Ln X 0 "asks"
 cR:Ln X 1 "boxes"
 rO:Ln X 2 "ask"
 Px:Gl X "holds"
 akk:Fc X CL "holds" 2 2 DQ DR DS
def Wb(E:Wa X CL) :
  mO X CL b An IL vj vm pY:=by
 rintro⟨l,c,bs⟩ h;dsimp [pY]at h ⊢;have i:∀(p m:Pos) (o:Qcd),ZE X CL b (.Name "ask" p) (.Name "asks" m) [some (.sh (MX l (c.map LI))),some Qdi,o] (c.map LI) [some (.sh (MX l (c.map LI))),some Qdi,o]:=by
  intro p m o;cases l
  .exact GD (v_ E.Ac.1)
  .exact fJ (v_ E.Ac.1)
 refine jn E.g E.rO (λj δ=>(∃o,δ=[some _,some _,o])/\∀q∈c.take j,hQ bs q=true) (i _ _ _) ⟨⟨_,rfl⟩,WA⟩ (λj δ ⟨⟨o,e⟩,_⟩=>by subst e;exact k6 rfl) ?_ ?_
 .rintro j d δ r ⟨⟨o,rfl⟩,f⟩;rw[o2]at r;obtain⟨q,n,rfl⟩:=MU.1 r;have hm:=qz n;refine fK (Gz (qx (c_ (q.1,q.2.1,q.2.2.1,q.2.2.2.1,q.2.2.2.2,bs) E.akk E.Px (ah (aW E.rO) Qcr) (h q hm) rfl))) (λk=>?_) (λk=>?_)
  .apply bG pD;show T.sh _=T.sh _;have hf:hQ bs q=false:=by simpa [hQ] using k
   rw[List.all_eq_false.2 ⟨q,hm,by simp[hf]⟩]
  .refine ak (ak ⟨⟨_,rfl⟩,?_⟩);have hf:=by simpa using k
   intro s a;rw[x3,n]at a;obtain h'|h':=f9.1 a
   .exact f s h'
   .have:=by simpa using h'
    exact this▸hf
 .rintro δ ⟨⟨o,rfl⟩,f⟩;apply bG pD;rw[dm,pz]at f;rw[w1.2 f]
def oB:FG IL ["asks","boxes"] ["holds"] (ai An):=fG
abbrev sL:=top 25
abbrev sM:=BB×BB×D×BB×BB×List cg×Nat×cg
abbrev zC:At:=["chart","way"]
def pe:sM->BB:=λ(bs,nm,tr,is,os,ws,k,w)=>[iE bs nm tr is os QaT,.int k]
def pA:sM->Prop:=λ(bs,nm,tr,is,os,ws,k,w)=>ws[k]? = some w/\w.asks.length<=1000/\D.ck w.asks=true/\∀d∈w.asks,∃x r,d=.tup (.str x::r)
def pB:sM->T:=λ(bs,nm,tr,is,os,ws,k,w)=>(.sh (.tup (RS w.asks)):T)
structure Kl(X:Cx)(CL:BC):Prop extends bN X where
 aY:Ln X 0 "chart"
 gS:Ln X 1 "way"
 yC:Gl X "tuple"
 V8:Gl X "ASKS"
 yE:mK X "tuple"
 V9:∃u,X.mg "ASKS" = some (.int 2 u)
 aP:jC X.K QE
 bX:aU X.K QE "ways"
def Km(E:Kl X CL) :
  mO X CL b sL zC pe pA pB:=by
 rintro⟨bs,nm,tr,is,os,ws,k,w⟩ h;obtain⟨c,a,hi,e⟩:=h;have f:za _ k=some (jL w):=fD (by rw[o2,c];rfl);refine bG (CJ E.yE (aip (bw (rJ (b8 .nil Wl) E.g.calm (GD (oM (Uw Qfm QbN f) (aQ (e7 E.V9 E.V8)) rfl)) QaK (λC s0 j f0 i d hd=>?EY) (p7 (dG a))) rfl) rfl) (jo λd hd=>jH hi d (oC.1 hd).1) E.yC) rfl
 case EY=>
  obtain⟨x,r,rfl⟩:=e d hd;exact⟨(aiw (bR (lF 0) ao G7) (aQ (iS (aO fZ (aO fZ fz)) aZ)) rfl rfl).1,λ_=>v_ (J2 0)⟩
def jO:FG zC ["chart","way"] ["tuple","ASKS"] (ai sL):=fG
abbrev Py:=top 27
abbrev Pz:=BB×BB×At×AT×AT×BB×BB×List cg×AT×AT×Str
noncomputable abbrev YW:At:=["chart","opens","boxes","sign","found","leaf","number"]
def DT:Pz->BB:=λ(bs,nm,ks,es,ss,is,os,ws,ops,vs,sg)=>[iE bs nm Qa3 is os QaT,.lst QdS,.lst (vs.map .int),.str sg]
def DU:Pz->Prop:=λ(bs,nm,ks,es,ss,is,os,ws,ops,vs,sg)=>fM es/\es.length<=900/\ks.length=es.length/\ws.length<=63/\ops.length<=1000/\(∀x∈ops,0<=x/\x<es.length)/\FZ es.length vs ws
def yQ:Pz->T:=λ(bs,nm,ks,es,ss,is,os,ws,ops,vs,sg)=>(.lst (((QD ws ops vs sg es (rA ks ops)).map .int).map T.sh):T)
structure akl(X:Cx)(CL:BC):Prop extends bN X where
 aY:Ln X 0 "chart"
 dz:Ln X 1 "opens"
 cR:Ln X 2 "boxes"
 lJ:Ln X 3 "sign"
 dM:Ln X 4 "found"
 IK:Ln X 5 "leaf"
 cJ:Ln X 6 "number"
 sN:Gl X "open_leaves"
 B4:Gl X "goable"
 Aq:Gl X "all_hold"
 sO:Gl X "number_asks"
 cN:Gl X "list"
 Kn:Fc X CL "open_leaves" 1 2 oZ o9 kE
 t6:Fc X CL "goable" 2 4 Al Am qU
 Wc:Fc X CL "all_hold" 3 2 vj vm pY
 Ko:Fc X CL "number_asks" 1 2 pe pA pB
 cO:mK X "list"
theorem akm(E:akl X CL) :
  mO X CL b Py YW DT DU yQ:=by
 rintro⟨bs,nm,ks,es,ss,is,os,ws,ops,vs,sg⟩ h;dsimp [yQ]at h ⊢;obtain⟨V,Z,R,C,n,P,p⟩:=h;apply bu E.g E.dM aiK;have I:∀x∈rA ks _,0<=x/\x<es.length:=λx B=>P x (oC.1 B).1;have Y:(rA ks _).length<=1000:=oy (vw _ _) n;refine jn E.g E.IK (λj δ=>∃v c,δ=[some _,some _,some _,some _,some (.tE (tJ (QD ws ops vs sg es ((rA ks ops).take j)))),v,c])
  (fJ (eY (bw (c_ (bs,nm,ks,es,ss,is,os,ws.map _,ops) E.Kn E.sN (ah QaH (ah Qca aS)) (⟨n,λx B=>by have:=P x B;lia⟩) (aV _)) rfl))) ⟨_,_,rfl⟩ (λj δ ⟨_,_,e⟩=>by subst e;exact k6 rfl) ?turn ?fin
 case turn=>
  rintro j d δ hj ⟨v,c,rfl⟩;obtain⟨x,rfl,_,A,Lw,_,S⟩:=jU hj;obtain⟨x0,U⟩:=I x A;rw[S,afs];have hpl:=Yn ws ops vs sg es ((rA ks ops).take j);have aa:((rA ks ops).take j).length<=1000:=by rw[sk];lia
  generalize QD ws _ vs sg es _=acc at hpl ⊢;have NQ:(tJ acc).length<=1000000:=by unfold tJ;rw[dm];lia
  have o:∀{k:Int},k∈Hc ws ops sg (x::bV es x)->0<=k/\k<ws.length:=N7;have F:vb ws _ vs sg es _ x=match (Hc ws ops sg _).filter _ with | []=>acc|k::_=>J6 _ k:=rfl
  rw[F];have O:qU (bs,nm,ks,es,ss,is,os,ws,ops,x,sg)=T.lst _:=rfl;generalize Hc ws _ sg _=go at o O ⊢;refine jn E.g E.cJ (λi δ=>∃c,(∀k∈go.take i,KI vs (ws.getD k.toNat w0)=false)/\δ=[some _,some _,some _,some _,some _,some _,c])
   (fJ (eY (bw (c_ _ E.t6 E.B4 (ah QaH (ah Qca (ah (aW E.IK) (ah (aW E.lJ) aS)))) (⟨V,Z,x0,U,C,p.ok⟩) (O▸aV _)) O))) ⟨_,λk R=>by simp at R,rfl⟩ (λj δ ⟨_,_,e⟩=>by subst e;exact k6 rfl) ?agt ?fin2
  case agt=>
   rintro i d δ hi ⟨c,l,rfl⟩;obtain⟨k,rfl,K,J,_,_,M⟩:=jU hi;obtain⟨k0,k1⟩:=o J;obtain⟨w,hw⟩:∃w,ws.getD k.toNat w0=w:=⟨_,rfl⟩;have m:ws[k.toNat]? = some w:=by rw[← hw,ox,pv We];rfl
   obtain⟨al,t,N,f⟩:=p w (qz m);have H:=t▸ajA f;have D:(al.flatMap NU).all (hQ vs)=KI vs w:=by unfold KI;exact t▸(aoV f).symm
   have Cz:w.asks.length<=2:=by rw[t,dm];exact N
   have s:=t▸eZ (HB) _;have Et:∀d∈w.asks,∃x r,d=.tup (.str x::r):=λd hd=>by
    rw[t]at hd;obtain⟨q,_,rfl⟩:=n3.1 hd;cases q<;>exact⟨_,_,rfl⟩
   have L:k.toNat=k:=by lia
   refine fK (qx (bw (c_ (false,al.flatMap _,vs) E.Wc E.Aq (ah (aQ (bw (c_ (bs,nm,eO ks es ss,is,os,ws,k.toNat,w) E.Ko E.sO (ah QaH (ah (El QeO (congrArg _ L.symm)) aS)) (⟨m,We,s,Et⟩) ((jo λd hd=>jH s d (oC.1 hd).1))) (congrArg (λz=>T.sh _) H))) Qcr) (ajB f) rfl) (congrArg (λz=>T.sh _) D))) (λG=>?_) (λG=>ak (ak ⟨_,?_,rfl⟩))
   .refine aob (.inl k) E.u E.dM.1 pD QeO rfl NQ (XM (ak ?_));rw[ajD];obtain⟨r,W⟩:=aaP K (hw▸G) l;exact W▸⟨_,_,rfl⟩
   .intro y a;rw[M]at a;obtain a|a:=f9.1 a
    .exact l y a
    .rw[n4.1 a,hw];exact G
  case fin2=>
   rintro δ ⟨c,l,rfl⟩;rw[dm,pz]at l;rw[List.filter_eq_nil_iff.2 (λy a=>by rw[l y a];decide)];exact ak ⟨_,_,rfl⟩
 case fin=>
  rintro δ ⟨v,c,rfl⟩;rw[dm,pz];apply bG (ad2 E.g E.cO (vE E.dM.1 rfl (by rw[T.gM])) E.cN);rw[afq]
def iK:FG YW ["chart","opens","boxes","sign"] ["open_leaves","goable","all_hold","number_asks","list"] (ai Py):=fG
abbrev PB:=top 36
abbrev Wd:=At×AT×AT×AT×Int
noncomputable abbrev agu:At:=["tree","opens","upper"]
def IQ:Wd->BB:=λ(ks,es,ss,ops,u)=>[eO ks es ss,.lst QdS,.int u]
def IU:Wd->Prop:=λ(ks,es,ss,ops,u)=>fM es/\es.length<=1000/\ops.length<=1000/\∀m∈ops,0<=m/\m<es.length
def IV:Wd->T:=λ(ks,es,ss,ops,u)=>(.lst (((zl es ops u).map .int).map T.sh):T)
structure apS(X:Cx)(CL:BC):Prop extends bN X where
 cC:Ln X 0 "tree"
 VG:Bd X "tree"
 dz:Ln X 1 "opens"
 jy:Ln X 2 "upper"
 Pq:Bd X "upper"
 vn:Gl X "reversed"
 vo:mK X "reversed"
 ow:Fc X CL "within" 2 3 nh ni nj
theorem apT(E:apS X CL) :
  mO X CL b PB agu IQ IU IV:=by
 rintro⟨ks,es,ss,ops,u⟩ h;obtain⟨a,c,f,hm⟩:=h;refine bG (rJ (p:=λd=>decide (u=-1) || decide (u∈bV es d.zj)) (g:=T.sh) (b8 (.cons E.cC.1 (.inl E.VG) (.cons E.jy.1 (.inl E.Pq) .nil)) Wl) E.g.calm
  (anT E.vo (v_ E.dz.1) E.vn) QaK (λC s0 k f0 j d hd=>?EY) Qe5) ?eq
 case EY=>
  obtain⟨i,hi,rfl⟩:=n3.1 (IH.1 hd);have e:=hm i hi;exact⟨qx (c_ (ks,es,ss,i,u) (ly E.ow) wB (ah (gR 1) (ah (lF 0) (ah (gR 2) aS))) (⟨a,We,We,c⟩) rfl),λ_=>v_ (J2 0)⟩
 case eq=>
  rw[← List.map_reverse,yl,List.filter_reverse];rfl
def yR:TQ (ai PB) ([("tree",.cell),("opens",dH),("upper",.cell),("reversed",cu)])=true:=by decide +kernel
def ako:dw agu ["tree","opens","upper"] (ai PB):=kg
abbrev As:=top 42
abbrev Au:=BB×BB×At×AT×AT×BB×BB×List cg×AT×AT
noncomputable abbrev IW:At:=["chart","opens","going","gone","number"]
def vp:Au->BB:=λ(bs,nm,ks,es,ss,is,os,ws,ops,gs)=>[iE bs nm Qa3 is os QaT,.lst QdS,.lst (gs.map .int)]
def pZ:Au->Prop:=λ(bs,nm,ks,es,ss,is,os,ws,ops,gs)=>fM es/\es.length<=1000/\ks.length=es.length/\ops.length<=1000/\(∀m∈ops,0<=m/\m<es.length)/\(∀i∈gs,Qez/\Qgx/\0<=(iy ws i).nN/\(iy ws i).nN<es.length)/\((gs.map QbF).flatMap λw=>zl es ops QaM).length<64
def p9:Au->T:=λ(bs,nm,ks,es,ss,is,os,ws,ops,gs)=>(.lst (((pN ks es ops (gs.map QbF)).map .int).map T.sh):T)
structure Wf(X:Cx)(CL:BC):Prop extends bN X where
 aY:Ln X 0 "chart"
 dz:Ln X 1 "opens"
 mw:Ln X 2 "going"
 sP:Ln X 3 "gone"
 cJ:Ln X 4 "number"
 Wg:Gl X "left"
 nu:Gl X "way_top"
 gT:Gl X "sorted"
 apU:Fc X CL "left" 3 3 IQ IU IV
 tZ:Fc X CL "way_top" 4 2 oz k9 oA
 gU:mK X "sorted"
 aP:jC X.K QE
 bL:aU X.K QE "tree"
theorem Wh(E:Wf X CL) :
  mO X CL b As IW vp pZ p9:=by
 rintro⟨bs,nm,ks,es,ss,is,os,ws,ops,gs⟩ h;dsimp [p9]at h ⊢;obtain⟨f,k,r,a,p,t,l⟩:=h;apply bu E.g E.sP QaS;refine jn E.g E.cJ (λj δ=>∃o,δ=[some _,some _,some _,some (.lst (((((gs.take j).map QbF).flatMap λw=>zl es ops QaM).map .int).map T.sh)),o])
  (fJ (v_ E.mw.1)) ⟨_,rfl⟩ (λj δ ⟨_,e⟩=>by subst e;exact k6 rfl) ?turn ?fin
 case turn=>
  rintro j d δ s ⟨o,rfl⟩;obtain⟨i,rfl,_,hi,v,_,m⟩:=jU s;obtain⟨⟨n,i1⟩,hs,c⟩:=t i hi;have u:(((gs.take j).map _).flatMap _).length<64:=List.map_take▸vT (r6 _ _) l;have q:(zl es ops (i7 ks es QbP)).length<=1000:=by
   unfold zl;rw[x7];exact oy (vw _ _) a
  refine mU E.sP.1 rfl (cA (bw (c_ (ks,es,ss,ops,i7 ks es _) E.apU E.Wg (ah QcT (ah Qca (ah (aQ (bw (c_ (bs,nm,ks,es,ss,is,os,ws,i) E.tZ E.nu QgX (⟨f,k,r,⟨n,i1⟩,hs,c⟩) rfl) rfl)) aS))) (⟨f,k,a,p⟩) (aV _)) rfl)) (cB _) rfl (by simp only[dm];lia) (ak ⟨some (.sh QaL),?_⟩);rw[m];simp
 case fin=>
  rintro δ ⟨o,rfl⟩;rw[dm,pz];exact bG (UN E.gU (vL E.sP.1) l E.gT) rfl
def gY:FG IW ["chart","opens","going"] ["left","way_top","sorted"] (ai As):=fG
abbrev vq:=top 37
abbrev vt:=At×AT×AT×AT×AT×AT
noncomputable abbrev B5:At:=["tree","memory","opens","moods","behind","mood","elder"]
def qW:vt->BB:=λ(ks,es,ss,mem,ops,gC)=>[eO ks es ss,.lst Qc1,.lst QdS,.lst (gC.map .int)]
def mz:vt->Prop:=λ(ks,es,ss,mem,ops,gC)=>fM es/\ks.length=es.length/\mem.length=es.length/\(∀m∈ops,0<=m/\m<es.length)/\(∀m∈gC,0<=m/\m<es.length)
def qX:vt->T:=λ(ks,es,ss,mem,ops,gC)=>(.lst (((U7 QaC es gC mem ops).map .int).map T.sh):T)
structure PC(X:Cx)(CL:BC):Prop extends bN X where
 cC:Ln X 0 "tree"
 dJ:Ln X 1 "memory"
 dz:Ln X 2 "opens"
 fS:Ln X 3 "moods"
 cW:Ln X 4 "behind"
 cS:Ln X 5 "mood"
 jx:Ln X 6 "elder"
 cN:Gl X "list"
 cO:mK X "list"
 c6:jC X.K Qap
 d7:aU X.K Qap "elders"
 cQ:aU X.K Qap "kinds"
theorem PD(E:PC X CL) :
  mO X CL b vq B5 qW mz qX:=by
 rintro⟨ks,es,ss,mem,ops,gC⟩ h;obtain⟨t,u,hm,p,a⟩:=h;refine bu E.g E.cW (jF E.cO QbQ (cB _) E.cN bS) ?_;refine jn E.g E.cS (λj δ=>∃i f,δ=[some _,some _,some _,some _,some (.lst (((U7 QaC es gC mem (ops.take j)).map _).map _)),i,f])
  (fJ (v_ E.dz.1)) ⟨_,_,rfl⟩ (λj δ ⟨_,_,e⟩=>by subst e;exact k6 rfl) ?turn ?fin
 case turn=>
  rintro j d δ s ⟨i,f,rfl⟩;obtain⟨x,rfl,_,k,_,_,m⟩:=jU s;have n:=p x k;have r:=FQ QaC es gC (ops.take j) mem;apply bu E.g E.jx (dB (bY Qjq QaU (g8 We We)) rfl);rw[m,ae0];unfold uC;generalize es.getD _ 0=q;generalize U7 _ es gC mem _=acc at r ⊢;refine fK (uo (jE (FE Qfe Qd3 (rfl) rfl).1 (λl=>(jP (fj (bY Qft Qfe (gA Str.empty (a q (n8 l)).1 (by have:=a q (n8 l);lia))) cG).1)))) (λc=>?_) (λc=>ak (ak ?_))
  .rw[oD,FC]at c;have o:=a q c.1;have hlen:((acc.map D.int).map T.sh).length=acc.length:=by simp
   refine CT (v_ E.cS.1) (cD E.cW.1 rfl) Qfe rfl rfl (adL o.1 We) (ak (ak ?_));rw[cq (show q∈gC/\cM ks q=true from c),List.map_set,List.map_set];exact⟨_,_,rfl⟩
  .rw[bF (λz=>by
    have:(decide (q∈gC)&&decide (ks.getD q.toNat Str.empty="one"))=true:=by
     rw[oD,FC];exact z
    rw[this]at c;cases c)]
   exact⟨_,_,rfl⟩
 case fin=>
  rintro δ ⟨i,f,rfl⟩;rw[dm,pz];exact bG Qf2 rfl
def fE:FG B5 ["tree","memory","opens","moods"] ["list"] (ai vq):=fG
abbrev Wi:=top 16
abbrev Wj:=At×AT×AT×Int×Int
noncomputable abbrev agv:At:=["tree","upper","mood","steps","elder"]
def IX:Wj->BB:=λ(ks,es,ss,u,m)=>[eO ks es ss,.int u,.int m]
def B6:Wj->Prop:=λ(ks,es,ss,u,m)=>fM es/\0<=m/\m<es.length/\es.length<=1000
def xO:Wj->T:=λ(ks,es,ss,u,m)=>(.lst (((dh es u m).map .int).map T.sh):T)
structure apV(X:Cx)(CL:BC):Prop extends bN X where
 cC:Ln X 0 "tree"
 jy:Ln X 1 "upper"
 cS:Ln X 2 "mood"
 qa:Ln X 3 "steps"
 jx:Ln X 4 "elder"
 mj:Gl X "above"
 cN:Gl X "list"
 vn:Gl X "reversed"
 pW:Fc X CL "above" 1 2 m8 m9 ng
 cO:mK X "list"
 vo:mK X "reversed"
theorem apW(E:apV X CL) :
  mO X CL b Wi agv IX B6 xO:=by
 rintro⟨ks,es,ss,u,m⟩ h;dsimp [B6,xO]at h ⊢;have h':=h;have t:(bV es m).length<=es.length+1:=yp _ _ _;apply bu E.g E.qa (eX QhI aZ);refine jn E.g E.jx (λj δ=>∃o,(∀x∈(bV es m).take j,x≠u)/\δ=[some _,some _,some _,some (.lst (((m::(bV es m).take j).map _).map _)),o])
  (fJ (eY (c_ (_,_,_,_) E.pW E.mj Qg8 (h') (aV _)))) ⟨_,λx c=>by simp at c,rfl⟩ (λj δ ⟨_,_,e⟩=>by subst e;exact k6 rfl) ?turn ?fin
 case turn=>
  rintro j d δ k ⟨o,i,rfl⟩;rw[o2]at k;cases c:(bV es m)[j]? with
  | none=>rw[c]at k;cases k
  | some x=>
   rw[c]at k;cases k;have r:=(pd.1 c).1;have n:(bV es m).take QA=(bV es m).take j++[x]:=by rw[x3,c];rfl
   refine fK (eW Qfe (aW E.jy)).1 (λl=>XM ?brk) (λl=>ak ?_)
   case brk=>
    have e:=n8 l;have f:(bV es m).takeWhile QcR=(bV es m).take j:=by
     have s:=by
      have h2:=MI j (bV es m);rw[O3 r]at h2;have:=(pd.1 c).2;rw[this]at h2;exact h2.symm
     conv=>lhs;rw[s]
     rw[List.takeWhile_append_of_pos (λy a=>by simpa using i y a),List.takeWhile_cons,if_neg (by simp[e]),List.append_nil]
    apply bG QkW;unfold dh;rw[f];simp only[List.map_reverse]
   .have e:=ph l;refine lz E.qa.1 rfl (v_ E.jx.1) rfl WF (ak ?_);have q:(((m::(bV es m).take j).map D.int).map T.sh)++[T.sh (.int x)]=((m::(bV es m).take QA).map D.int).map T.sh:=by rw[n];simp
    rw[q];refine⟨_,λy a=>?_,rfl⟩;rw[n]at a;obtain a|a:=f9.1 a
    .exact i y a
    .have:=by simpa using a
     exact this▸e
 case fin=>
  rintro δ ⟨o,i,rfl⟩;apply bG QkW;rw[dm,pz]at i ⊢;unfold dh;have f:(bV es m).takeWhile QcR=bV es m:=by
   have:=List.takeWhile_append_of_pos (p:=λx=>decide _) (l₂:=[]) (λy a=>by simpa using i y a);simpa using this
  rw[f];simp only[List.map_reverse]
def qb:FG agv ["tree","upper","mood"] ["above","list","reversed"] (ai Wi):=fG
abbrev DV:=top 35
abbrev DW:=At×AT×AT×AT×Int×Nat×Str
noncomputable abbrev Ml:At:=["tree","memory","upper","target","mode","steps","found","step","place"]
def rP:DW->BB:=λ(ks,es,ss,mem,u,tg,mode)=>[eO ks es ss,.lst Qc1,.int u,.int tg,.str mode]
def rQ:DW->Prop:=λ(ks,es,ss,mem,u,tg,mode)=>(es.length<=900/\ks.length=es.length/\ss.length=es.length/\mem.length=es.length/\tg<es.length/\uE mode/\∀k:Nat,k<es.length->bE ks k=true\/aF ks k=true\/ks.getD k Str.empty="one")/\dX QaB QR es ss mem/\es.length<=41/\(u=-1\/u∈bV es tg)
def rR:DW->T:=λ(ks,es,ss,mem,u,tg,mode)=>(.lst (((sortI (vl QaB QR es ss mem (fB mode) (iD mode) u tg)).map .int).map T.sh):T)
structure abi(X:Cx)(CL:BC):Prop extends bN X where
 cC:Ln X 0 "tree"
 dJ:Ln X 1 "memory"
 jy:Ln X 2 "upper"
 lK:Ln X 3 "target"
 sd:Ln X 4 "mode"
 qa:Ln X 5 "steps"
 dM:Ln X 6 "found"
 fV:Ln X 7 "step"
 jT:Ln X 8 "place"
 Wk:Gl X "road"
 lX:Gl X "opened"
 BQ:Gl X "inner"
 gT:Gl X "sorted"
 apX:Fc X CL "road" 2 3 IX B6 xO
 tT:Fc X CL "opened" 43 4 qQ (kY 40) m7
 O4:Fc X CL "inner" 1 2 yK ql yL
 gU:mK X "sorted"
 c6:jC X.K Qap
 cQ:aU X.K Qap "kinds"
theorem abj(E:abi X CL) :
  mO X CL b DV Ml rP rQ rR:=by
 rintro⟨ks,es,ss,mem,u,tg,mode⟩ h;dsimp only [rQ,rP,rR]at h ⊢;obtain⟨Et,z,A,hu⟩:=h;obtain⟨hl,K,hs,hm,I,R,w⟩:=Et;have J:=z.pre.1;have P:fM es/\(0:Int)<=tg/\(tg:Int)<es.length/\es.length<=1000:=⟨J,We,We,We⟩;refine bu E.g E.qa (c_ ((ks,es,ss,u,(tg:Int))) E.apX E.Wk (ah Qbg (ah (aW E.jy) (ah (aW E.lK) aS))) (P) (aV _)) ?_;rw[show xO _=T.lst _ from rfl];have li:=Hq J (u:=u) (t:=(tg:Int)) We We hu;have aa:(dh es u tg).length<=es.length+2:=by
  unfold dh;rw[x7,o1];have h1:=(OR (l:=bV es (tg:Int)) QcR).length_le;have h2:(bV es (tg:Int)).length<=es.length+1:=yp _ _ _;lia
 have S:(dh es u tg).dropLast.length<=es.length+2:=by rw[List.length_dropLast];lia
 have o:∀(far near:Bool) (k:Nat),k<es.length->(ki QaB QR es ss mem far es.length near k).length<=41:=λfar near k K=>oy (Bg z K) A;have ag:(J4 ks es ss mem mode tg).length<=41:=o _ _ tg I;have H:∀p:Int,J4 ks es ss mem "new" p=ki QaB QR es ss mem false es.length false p:=λp=>by
  unfold J4;rw[show fB "new" = false by decide +kernel,show iD "new" = false by decide +kernel]
 have f:cutD ((dh es u tg).map D.int) none (some (-1))=(dh es u tg).dropLast.map D.int:=by rw[Ra,aaE]
 refine bu E.g E.dM (bw (t2:=T.lst (((((dh es u tg).dropLast++J4 ks es ss mem mode tg)).map D.int).map T.sh)) (A2 (cA Qlt) (cA (c_ ((ks,es,ss,mem,tg,mode)) E.tT E.lX (ah Qbg (ah QbQ (ah (aW E.lK) (ah (aW E.sd) aS)))) (by dsimp only [kY];exact(⟨⟨hl,K,hs,hm,I,R,w⟩,z,We⟩)) (aV _))) ((by rw[f];exact cB _)) (cB _) (Nat.le_of_lt (dG (by rw[f,List.length_map,List.length_map];exact(show(dh es u tg).dropLast.length+(J4 ks es ss mem mode tg).length<=1000 by lia))))) (by rw[f,← List.map_append])) ?_;generalize Y:(λs:Int=>((jK es s).filter _).flatMap Qch)=F;have V:∀s:Int,(F s).length<=41*41:=λs=>by
  rw[← Y];have h1:((jK es s).filter Qcj).length<=41:=oy (vw _ _) (oy (Yb es s) A);refine oy (Bj (c:=41) λp a=>?_) (Nat.mul_le_mul_right _ h1);have hb:=yq (oC.1 a).1;obtain⟨q,rfl⟩:∃q:Nat,p=q:=⟨p.toNat,We⟩;exact o _ _ q We
 have W:∀l:AT,l.length<=44->(l.flatMap F).length<=44*(41*41):=λl h=>oy (Bj (c:=41*41) λp _=>V p) (Nat.mul_le_mul_right _ h);have B:vl QaB QR es ss mem (fB mode) (iD mode) u tg=(dh es u tg).dropLast++J4 ks es ss mem mode tg++((dh es u tg).dropLast.filter Qcs).flatMap F:=by
  rw[← Y];rfl
 have C:=ae6 z (far:=fB mode) (near:=iD mode) I hu (iV:=dh es u tg) li;have hpl:=C.length_eq;have n:=(Yg (isAll:=aF ks) (es:=es) (ss:=ss) (mem:=mem) (far:=fB mode) (near:=iD mode) (iV:=dh es u tg) (t:=tg) es.length).2.2.2.1;rw[hpl]at n;rw[B]at n ⊢;clear B C hpl;have y:∀s∈(dh es u tg).dropLast,0<=s/\s<es.length:=λs hs=>by
  have:=jW J I ((li s).1 (yt J I hs).1);lia
 generalize j4:(dh es u tg).dropLast++J4 ks es ss mem mode tg=base at n ⊢;have Ry:base.length<=100:=by
  rw[← j4,n6];lia
 generalize ae:(dh es u tg).dropLast=r at S y n f ⊢;refine jn E.g E.fV (λj δ=>∃v m,δ=[some (.sh Qa3),some Qj8,some (.sh (.int u)),some (.sh (.int tg)),some (.sh (.str mode)),some Qli,some (.lst (((base++((r.take j).filter Qcs).flatMap F).map .int).map T.sh)),v,m])
  (fJ (eY (bw Qlt (by rw[f])))) ⟨_,_,by simp;rfl⟩ (λj δ ⟨_,_,e⟩=>by subst e;exact k6 rfl) ?turn ?fin
 case turn=>
  rintro j d δ hj ⟨v,m,rfl⟩;obtain⟨x,rfl,_,L,Lw,_,yi⟩:=jU hj;have M:=y x L;have Rx:((r.take j).filter Qcs).length<=44:=oy (vw _ _) (by rw[sk];lia);have aw:=W _ Rx;refine fK (fj (bY Qft (aW E.fV) (gA Str.empty M.1 We)) cG).1 (λa=>?_) (λa=>ak (ak ?_))
  .have a:aF ks x=true:=a;have Z:((r.take QA).filter Qcs).flatMap F=((r.take j).filter Qcs).flatMap F++F x:=by
    rw[yi,tq,Fu a,z6,IS];simp
   show dW X CL b _ _ {nx:=λδ=>dW X CL b _ δ {nx:=λδ=>∃v m,δ=[_,_,_,_,_,_,some (.lst (((base++((r.take QA).filter Qcs).flatMap F).map .int).map T.sh)),v,m],rt:=_,bk:=_,ct:=_},rt:=_,bk:=_,ct:=_};rw[Z,← nr];generalize U:base++((r.take j).filter Qcs).flatMap F=cur;have Cz:cur.length<=100+44*(41*41):=by rw[← U,n6];lia
   have eF:F x=((jK es x).filter Qcj).flatMap Qch:=by rw[← Y]
   have J1:=Yb es x;refine jn E.g E.jT (λi δ=>∃m,δ=[some (.sh Qa3),some Qj8,some (.sh (.int u)),some (.sh (.int tg)),some (.sh (.str mode)),some Qli,some (.lst (((cur++(((jK es x).take i).filter Qcj).flatMap Qch).map .int).map T.sh)),some (.sh (.int x)),m])
    (fJ (eY (c_ ((ks,es,ss,x)) E.O4 E.BQ (ah Qbg (ah (aW E.fV) aS)) ((by dsimp only [ql];lia)) (aV _)))) ⟨_,by simp;rfl⟩ (λj δ ⟨_,e⟩=>by subst e;exact Nat.le_of_ble_eq_true rfl) ?agt ?fin2
   case agt=>
    rintro i d δ hi ⟨m,rfl⟩;obtain⟨p,rfl,_,O,ar,_,G⟩:=jU hi;have hb:=yq O;obtain⟨q,rfl⟩:∃q:Nat,p=q:=⟨p.toNat,We⟩;have QX:((((jK es x).take i).filter Qcj).flatMap Qch).length<=41*41:=by
     have h1:(((jK es x).take i).filter Qcj).length<=41:=oy (vw _ _) (by rw[sk];lia);refine oy (Bj (c:=41) λp a=>?_) (Nat.mul_le_mul_right _ h1);have hb:=yq (w7 (oC.1 a).1);obtain⟨q,rfl⟩:∃q:Nat,p=q:=⟨p.toNat,We⟩;exact o _ _ q We
    refine fK (M3 (l:=dh es u tg) (aW E.jT) (vL E.qa.1) rfl rfl).1 (λN=>?_) (λN=>ak (ak ?_))
    .refine mU E.dM.1 rfl (cA (bw (c_ ((ks,es,ss,mem,q,("new":Str))) E.tT E.lX (ah Qbg (ah QbQ (ah (aW E.jT) (ah cG aS)))) (by dsimp only [kY];exact(⟨⟨hl,K,hs,hm,We,.inl rfl,w⟩,z,We⟩)) (aV _)) rfl)) (cB _) rfl ?len (ak (ak ?_))
     case len=>
      have:=o false false q We;rw[H];simp only[dm,n6];lia
     have e1:(((cur++(((jK es x).take i).filter Qcj).flatMap Qch).map D.int).map T.sh)++(((J4 ks es ss mem "new" q).map D.int).map T.sh)=((cur++(((jK es x).take (i+1)).filter Qcj).flatMap Qch).map D.int).map T.sh:=by
      rw[G,tq,Fu (p:=λp=>!decide (p∈dh es u tg)) N,z6,IS,H,← nr,← nH,← nH];simp
     rw[show((((cur++(((jK es x).take i).filter _).flatMap Qch).map D.int).map T.sh)++(((J4 ks es ss mem "new" q).map D.int).map T.sh))=_ from e1];exact⟨_,rfl⟩
    .have e1:(((jK es x).take i).filter Qcj).flatMap Qch=(((jK es x).take (i+1)).filter Qcj).flatMap Qch:=by
      rw[G,tq,Nb (by rw[N];decide),z6,n2]
     rw[e1];exact⟨_,rfl⟩
   case fin2=>
    rintro δ ⟨m,rfl⟩;rw[dm,pz];refine ak (ak ?_);dsimp only;rw[eF];exact⟨_,_,rfl⟩
  .have a:aF ks x=false:=a;have e1:((r.take j).filter Qcs).flatMap F=((r.take QA).filter Qcs).flatMap F:=by
    rw[yi,tq,Nb (p:=λs=>aF ks s) (by rw[a];decide),z6,n2]
   rw[e1];exact⟨_,_,rfl⟩
 case fin=>
  rintro δ ⟨v,m,rfl⟩;rw[dm,pz];exact bG (ux E.gU (vL E.dM.1) We E.gT) rfl
def eL:FG Ml ["tree","memory","upper","target","mode"] ["road","opened","inner","sorted"] (ai DV):=fG
abbrev sQ:=top 43
abbrev sR:=BB×BB×At×AT×AT×BB×BB×List cg×AT×AT
noncomputable abbrev zE:At:=["chart","memory","going","come","number","way"]
def kF:sR->BB:=λ(bs,nm,ks,es,ss,is,os,ws,mem,gs)=>[iE bs nm Qa3 is os QaT,.lst Qc1,.lst (gs.map .int)]
def jc:sR->Prop:=λ(bs,nm,ks,es,ss,is,os,ws,mem,gs)=>(es.length<=40/\ks.length=es.length/\ss.length=es.length/\mem.length=es.length/\∀k:Nat,k<es.length->bE ks k=true\/aF ks k=true\/ks.getD k Str.empty="one")/\dX QaB QR es ss mem/\(∀i∈gs,Qez/\Qgx/\(0<=(iy ws i).nN/\(iy ws i).nN<es.length)/\uE (iy ws i).mode/\Qlk)/\((gs.map QbF).flatMap Qc2).length<64
def kG:sR->T:=λ(bs,nm,ks,es,ss,is,os,ws,mem,gs)=>(.lst (((z8 ks es ss mem (gs.map QbF)).map .int).map T.sh):T)
structure Kp(X:Cx)(CL:BC):Prop extends bN X where
 aY:Ln X 0 "chart"
 dJ:Ln X 1 "memory"
 mw:Ln X 2 "going"
 uW:Ln X 3 "come"
 cJ:Ln X 4 "number"
 gS:Ln X 5 "way"
 DX:Gl X "entered"
 nu:Gl X "way_top"
 om:Gl X "TARGET"
 PF:Gl X "MODE"
 gT:Gl X "sorted"
 abk:Fc X CL "entered" 44 5 rP rQ rR
 tZ:Fc X CL "way_top" 4 2 oz k9 oA
 oq:∃u,X.mg "TARGET" = some (.int 4 u)
 PJ:∃u,X.mg "MODE" = some (.int 5 u)
 gU:mK X "sorted"
 aP:jC X.K QE
 bX:aU X.K QE "ways"
 bL:aU X.K QE "tree"
theorem Kq(E:Kp X CL) :
  mO X CL b sQ zE kF jc kG:=by
 rintro⟨bs,nm,ks,es,ss,is,os,ws,mem,gs⟩ h;dsimp only [jc,kF,kG]at h ⊢;obtain⟨⟨C,t,f,A,m⟩,u,z,q⟩:=h;have x:=u.pre.1;have r:∀l:List cg,(l.flatMap _).length=(l.flatMap Qc2).length:=λl=>(C3 l).length_eq;refine bu E.g E.uW QaS ?_;refine jn E.g E.cJ (λj δ=>∃o o',δ=[some _,some _,some _,some (.lst (((((gs.take j).map QbF).flatMap λw=>sortI QfF).map .int).map T.sh)),o,o'])
  (fJ (v_ E.mw.1)) ⟨_,_,rfl⟩ (λj δ ⟨_,_,e⟩=>by subst e;exact k6 rfl) ?turn ?fin
 case turn=>
  rintro j d δ y ⟨o,o',rfl⟩;obtain⟨i,rfl,_,hi,D,_,v⟩:=jU y;obtain⟨⟨s,i1⟩,hs,c,k,a⟩:=z i hi;have B:(((gs.take j).map QbF).flatMap λw=>sortI QfF).length<64:=by
   rw[r,List.map_take];exact vT (r6 _ _) q
  have p:(((gs.take QA).map QbF).flatMap λw=>sortI QfF).length<64:=by
   rw[r,List.map_take];exact vT (r6 _ _) q
  have e2:((gs.take QA).map QbF).flatMap (λw=>sortI QfF)=(((gs.take j).map QbF).flatMap λw=>sortI QfF)++sortI (QC ks es ss mem QbP):=by
   rw[v,nH];simp
  rw[e2,n6]at p;have n:((iy ws i).nN.toNat:Int)=(iy ws i).nN:=by lia
  refine bu E.g E.gS (bw (Uw Qfm QeO (gA w0 s i1)) (t2:=.sh (jL QbP)) rfl) ?_;refine mU E.uW.1 rfl (cA (bw (c_ (ks,es,ss,mem,i7 ks es _,(iy ws i).nN.toNat,(iy ws i).mode) E.abk E.DX (ah QcT (ah QbQ (ah (aQ (bw (c_ (bs,nm,ks,es,ss,is,os,ws,i) E.tZ E.nu QgX (by exact⟨x,We,t,⟨s,i1⟩,hs,c⟩) rfl) rfl)) (ah (El Qgw (congrArg _ n.symm)) (ah QiA aS))))) (by exact⟨⟨We,t,f,A,We,k,m⟩,u,We,a⟩) (aV _)) (t2:=.lst (((sortI (QC ks es ss mem _)).map .int).map T.sh)) rfl)) (cB _) rfl (by simp only[dm];lia) (ak ⟨some (.sh QaL),some (.sh (jL QbP)),?_⟩);rw[e2];simp
 case fin=>
  rintro δ ⟨o,o',rfl⟩;rw[dm,pz];refine bG (ux E.gU (vL E.uW.1) (by rw[r];exact q) E.gT) ?_;rw[LV (C3 _)];rfl
def cX:FG zE ["chart","memory","going"] ["entered","way_top","TARGET","MODE","sorted"] (ai sQ):=fG
abbrev IY:=top 39
abbrev IZ:=BB×BB×At×AT×AT×BB×BB×List cg×Int
noncomputable abbrev SJ:At:=["chart","mood","way"]
def vv:IZ->BB:=λ(bs,nm,ks,es,ss,is,os,ws,m)=>[iE bs nm Qa3 is os QaT,.int m]
def qY:IZ->Prop:=λ(bs,nm,ks,es,ss,is,os,ws,m)=>fM es/\ks.length=es.length/\es.length<=1000/\0<=m/\m<es.length
def qZ:IZ->T:=λ(bs,nm,ks,es,ss,is,os,ws,m)=>(.sh (.bl (mP ks es ws m)):T)
structure agx(X:Cx)(CL:BC):Prop extends bN X where
 aY:Ln X 0 "chart"
 cS:Ln X 1 "mood"
 gS:Ln X 2 "way"
 PF:Gl X "MODE"
 om:Gl X "TARGET"
 ou:Gl X "within"
 PJ:∃u,X.mg "MODE" = some (.int 5 u)
 oq:∃u,X.mg "TARGET" = some (.int 4 u)
 ow:Fc X CL "within" 2 3 nh ni nj
 aP:jC X.K QE
 c6:jC X.K Qap
 bX:aU X.K QE "ways"
 cQ:aU X.K Qap "kinds"
 bL:aU X.K QE "tree"
theorem agy(E:agx X CL) :
  mO X CL b IY SJ vv qY qZ:=by
 rintro⟨bs,nm,ks,es,ss,is,os,ws,m⟩ h;dsimp [qZ]at h ⊢;obtain⟨p,s,q,m0,m1⟩:=h;refine fK (adD (bY (cL E.c6 E.cQ QcT kR) QaU (gA Str.empty m0 We)) cG).1 (λa=>?_) (λa=>ak ?_)
 .apply bG pD;have:cM ks m=false:=by
   rw[Bool.not_eq_true']at a;exact a
  unfold mP;rw[this];rfl
 have n:cM ks m=true:=by
  rw[Bool.not_eq_false']at a;exact a
 have k:mP ks es ws m=ws.any (LW es m):=by unfold mP;rw[n];rfl
 rw[k];refine jn E.g E.gS (λj δ=>(∀i x,i<j->ws[i]? = some x->LW es m x=false)/\∃o,δ=[some _,some _,o])
  (fJ Qfm) ⟨λi x hi=>by lia,_,rfl⟩ (λj δ ⟨_,_,e⟩=>by subst e;exact k6 rfl) ?turn ?fin
 case turn=>
  rintro j d δ r ⟨c,o,rfl⟩;obtain⟨w,rfl,hw,_,t,_,_⟩:=jU r;refine fK (uo (jE (adD QiA cG).1 (λ_=>jP (eW Qgw QaU).1))) (λa=>?_) (λa=>ak ?_)
  .apply bG pD;rw[RX hw (by unfold LW;rw[a];rfl)]
  refine fK (uo (jE (fj QiA cG).1 (λ_=>jP (qx (c_ (ks,es,ss,m,w.nN) E.ow E.ou (ah QcT (ah QaU (ah Qgw aS))) (⟨p,m0,m1,q⟩) rfl))))) (λl=>?_) (λl=>ak (ak ?_))
  .apply bG pD;rw[RX hw (by unfold LW;rw[l,Bool.or_true])]
  .refine⟨λi x hi f=>?_,_,rfl⟩;by_cases e:i=j
   .subst e;rw[hw]at f;cases f;unfold LW;rw[a,l];rfl
   .exact c i x We f
 case fin=>
  rintro δ ⟨c,o,rfl⟩;apply bG pD;rw[any_none λi x f=>c i x (by rw[dm];exact(pd.1 f).1) f]
def ny:FG SJ ["chart","mood"] ["MODE","TARGET","within"] (ai IY):=fG
abbrev Av:=top 44
abbrev Aw:=BB×BB×At×AT×AT×BB×Ee×List cg×AT×AT×AT
noncomputable abbrev I0:At:=["chart","gone","memory","behind","rows","mood"]
def vz:Aw->BB:=λ(bs,nm,ks,es,ss,is,os,ws,gone,mem,bh)=>[iE bs nm Qa3 is (os.map .tup) QaT,.lst (gone.map .int),.lst Qc1,.lst (bh.map .int)]
def qc:Aw->Prop:=λ(bs,nm,ks,es,ss,is,os,ws,gone,mem,bh)=>fM es/\es.length<=1000/\ks.length=es.length/\os.length=es.length/\mem.length=es.length/\bh.length=es.length/\uG os/\gone.length<=1000/\∀m∈gone,0<=m/\m<es.length
def qd:Aw->T:=λ(bs,nm,ks,es,ss,is,os,ws,gone,mem,bh)=>(.lst ((NX QdV os mem bh gone).map T.sh):T)
structure Wm(X:Cx)(CL:BC):Prop extends bN X where
 aY:Ln X 0 "chart"
 sP:Ln X 1 "gone"
 dJ:Ln X 2 "memory"
 cW:Ln X 3 "behind"
 bT:Ln X 4 "rows"
 cS:Ln X 5 "mood"
 Ja:Gl X "heeded"
 Jb:Fc X CL "heeded" 3 2 vv qY qZ
 aP:jC X.K QE
 uQ:aU X.K QE "outs"
theorem Wn(E:Wm X CL) :
  mO X CL b Av I0 vz qc qd:=by
 rintro⟨bs,nm,ks,es,ss,is,os,ws,gone,mem,bh⟩ h;dsimp [qd]at h ⊢;obtain⟨l,p,q,n,y,w,f,s,t⟩:=h;apply bu E.g E.bT QaS;refine jn E.g E.cS (λj δ=>∃o,δ=[some _,some _,some _,some _,some (.lst ((NX QdV os mem bh (gone.take j)).map T.sh)),o])
  (fJ (v_ E.sP.1)) ⟨_,rfl⟩ (λj δ ⟨_,e⟩=>by subst e;exact k6 rfl) ?turn ?fin
 case turn=>
  rintro j d δ r ⟨o,rfl⟩;obtain⟨m,rfl,_,hm,x,_,i⟩:=jU r;obtain⟨m0,m1⟩:=t m hm;have c:=(N1 (E1:=mP ks es ws) (mem:=mem) (bh:=bh) f (gone.take j)).1;have k:(gone.take j).length<=j:=by simp;lia
  obtain⟨g1,g2⟩:=f.get m.toNat;rw[i,aaI];generalize NX _ os _ bh _=rs at c ⊢;apply lz E.bT.1 rfl (iS (aO fZ QhI) aZ) rfl (by rw[dm];lia);refine AX (λδ=>δ=[some (.sh (iE bs nm Qa3 is (os.map .tup) QaT)),some (.sh (.lst (gone.map .int))),some Qj8,some (.sh (.lst (bh.map .int))),some (.lst ((rs++(D.tup [.str "out",.int m]::(if mP ks es ws m=true then [D.tup [.str "keep",.int m,.int QjW,.int Qkb]] else []))).map T.sh)),some Qct])
   (qx (bw (c_ (bs,nm,ks,es,ss,is,os.map _,ws,m) E.Jb E.Ja (ah QaH (ah QaU aS)) (⟨l,q,p,m0,m1⟩) rfl) rfl)) (λa=>?_) (λa=>?_) ?_
  .rw[cq a];refine lz E.bT.1 rfl (iS (aO fZ (aO (v_ E.cS.1) (aO (dB (bY QbQ QaU (g8 m0 We)) rfl) (aO (dB (bY (aW E.cW) QaU (g8 m0 We)) rfl) fz)))) aZ) rfl WF (ak ?_);simp
  .rw[bF (by rw[a];decide)];apply ak;simp
  rintro δ rfl;have u:(if mP ks es ws m=true then [D.tup [.str "keep",.int m,.int QjW,.int Qkb]] else []).length<=1:=by split<;>simp
  generalize (if mP ks es ws m=true then [D.tup _] else [])=v at u ⊢;refine mU E.bT.1 rfl (bY (cL E.aP E.uQ QaH Vd) QaU (gA [] m0 We)) g2 rfl (by rw[dm,n6,o1];lia) (ak ⟨some Qct,?_⟩);simp
 case fin=>
  rintro δ ⟨o,rfl⟩;rw[dm,pz];exact bG QdX rfl
def iR:FG I0 ["chart","gone","memory","behind"] ["heeded"] (ai Av):=fG
abbrev Ax:=top 45
abbrev Ay:=BB×BB×D×BB×BB×List cg×Nat×AT
noncomputable abbrev Jc:At:=["chart","ways","rows","number"]
def vA:Ay->BB:=λ(bs,nm,tr,is,os,ws,n,sel)=>[iE bs nm tr is os QaT,.lst (sel.map .int)]
def qe:Ay->Prop:=λ(bs,nm,tr,is,os,ws,n,sel)=>sel.length<=1000/\(∀i∈sel,Qez/\JU n QbP)
def qf:Ay->T:=λ(bs,nm,tr,is,os,ws,n,sel)=>(.lst ((NZ ws sel).map T.sh):T)
structure Wo(X:Cx)(CL:BC):Prop extends bN X where
 aY:Ln X 0 "chart"
 oQ:Ln X 1 "ways"
 bT:Ln X 2 "rows"
 cJ:Ln X 3 "number"
 akp:Gl X "DEEDS"
 akq:∃u,X.mg "DEEDS" = some (.int 3 u)
 aP:jC X.K QE
 bX:aU X.K QE "ways"
theorem Wr(E:Wo X CL) :
  mO X CL b Ax Jc vA qe qf:=by
 rintro⟨bs,nm,tr,is,os,ws,n,sel⟩ h;dsimp [qf]at h ⊢;obtain⟨p,hs⟩:=h;apply bu E.g E.bT QaS;refine jn E.g E.cJ (λj δ=>∃o,δ=[Option.some _,Option.some _,Option.some (.lst ((NZ ws (sel.take j)).map T.sh)),o])
  (fJ (v_ E.oQ.1)) ⟨_,rfl⟩ (λj δ ⟨_,e⟩=>by subst e;exact k6 rfl) ?turn ?fin
 case turn=>
  rintro j d δ m ⟨o,rfl⟩;obtain⟨i,rfl,_,hi,q,_,a⟩:=jU m;obtain⟨⟨c,i1⟩,hw⟩:=hs i hi;have l:=(N2 (some:=sel.take j) (λx f=>(hs x (w7 f)).2)).1;have k:(sel.take j).length<=j:=by simp;lia
  have d1:=hw.2.2.2.1;apply lz E.bT.1 rfl (iS (aO fZ (aO (v_ E.cJ.1) fz)) aZ) rfl (by rw[dm];lia);refine mU E.bT.1 rfl (bR (bY (cL E.aP E.bX QaH iW) QeO (gA w0 c i1)) (aQ (e7 E.akq E.akp)) axz) hw.2.2.2.2.1 rfl (by rw[n6,dm];show _+1+(iy ws i).Eu.length<=_;lia) (ak ⟨Option.some (.sh QaL),?_⟩);rw[a,aaJ,nH,nr];rfl
 case fin=>
  rintro δ ⟨o,rfl⟩;rw[dm,pz];exact bG QdX rfl
def lg:FG Jc ["chart","ways"] ["DEEDS"] (ai Ax):=fG
abbrev Gf:=top 40
abbrev PL:=BB×BB×At×AT×AT×Ee×Ee×List cg×AT×AT×AT
noncomputable abbrev YX:At:=["chart","opens","memory","ways","going","gone","behind","come","script"]
def yS:PL->BB:=λ(bs,nm,ks,es,ss,is,os,ws,ch,mem,a)=>[iE bs nm Qa3 (is.map .tup) (os.map .tup) QaT,.lst ((iQ QR es ch Q2).map .int),.lst Qc1,.lst (a.map .int)]
def yT:PL->Prop:=λ(bs,nm,ks,es,ss,is,os,ws,ch,mem,a)=>nE ks es ss is os ws/\(ch.length=es.length/\Hr QaC es ch)/\LX ks es mem/\uH ks es ws QaY a
def t7:PL->T:=λ(bs,nm,ks,es,ss,is,os,ws,ch,mem,a)=>(.tup [.lst ((NY ks es ss is os ws mem QaY a).map T.sh),.lst (((N0 ks es ss (r8 ks es ws mem QaY Qaw) QaY Qaw).map .int).map T.sh),.lst (((r8 ks es ws mem QaY Qaw).map .int).map T.sh)]:T)
structure akr(X:Cx)(CL:BC):Prop extends bN X where
 aY:Ln X 0 "chart"
 pX:Bd X "chart"
 dz:Ln X 1 "opens"
 dJ:Ln X 2 "memory"
 oQ:Ln X 3 "ways"
 mw:Ln X 4 "going"
 sP:Ln X 5 "gone"
 apY:Bd X "gone"
 cW:Ln X 6 "behind"
 uW:Ln X 7 "come"
 cy:Ln X 8 "script"
 Az:Gl X "all_left"
 vC:Gl X "remembered"
 sS:Gl X "all_entered"
 AA:Gl X "out_rows"
 AF:Gl X "way_rows"
 tU:Gl X "in_rows"
 gT:Gl X "sorted"
 Ws:Fc X CL "all_left" 5 3 vp pZ p9
 PN:Fc X CL "remembered" 1 4 qW mz qX
 Kr:Fc X CL "all_entered" 45 3 kF jc kG
 Wt:Fc X CL "out_rows" 4 4 vz qc qd
 Wu:Fc X CL "way_rows" 1 2 vA qe qf
 DK:Fc X CL "in_rows" 1 2 rN oi oj
 gU:mK X "sorted"
 vh:Fc X CL "has_target" 1 2 lZ iJ mh
 Jb:Fc X CL "heeded" 3 2 vv qY qZ
 aP:jC X.K QE
 bL:aU X.K QE "tree"
theorem aks(E:akr X CL) :
  mO X CL b Gf YX yS yT t7:=by
 rintro⟨bs,nm,ks,es,ss,is,os,ws,ch,mem,a⟩ h;dsimp only [yT,yS,t7]at h ⊢;obtain⟨c,⟨I,B⟩,hm,hs⟩:=h;have q:=c.pre.1;have n0:=c.n0;have n1:=c.n1;have H:=hs.Lu c;have o:=hs.GG c;have k:=hs.i;have L:=hs.l;have f:=hs.ap;have u:∀x∈iQ QR es ch Q2,0<=x/\x<es.length:=λx j=>RW n0 j;have r:=kT (isAll:=aF ks) (es:=es) (ch:=ch) Q2;have M:=FP (isAll:=aF ks) (es:=es) (ch:=ch) Q2;obtain⟨Vc,_,_,_,R⟩:=RT c.kd (c.tree (Ta c B I hm Qaw)) n0 I B f H;have m:=Ta c B I hm Qaw;have t:=c.tree m;obtain⟨f1,f2⟩:=RP (ks:=ks) q r u f;obtain⟨g1,g2⟩:=LR (ks:=ks) q r u f;obtain⟨Z,P,O⟩:=RQ t f H;have e:∀x∈pN ks es QaY Qaw,0<=x/\x<es.length:=λx j=>u x (FU.1 j).1;have s:(a.filter QcD).map QbF=rZ ws a:=rfl;have v:∀i∈a.filter QcD,Qez/\Qgx/\(0<=(iy ws i).nN/\(iy ws i).nN<es.length)/\uE (iy ws i).mode/\Qlk:=λi hi=>by
  have h1:=(oC.1 hi).1;have w:=o i h1;have g:=H QbP (n3.2 ⟨i,hi,rfl⟩);exact⟨(k i h1).1,w.1,g.1,w.2.2.1,g.up⟩
 unfold NY;generalize U:iQ QR es ch Q2=ops at *;refine UO (p:=λd=>pP ws d.zj) (gg:=λd=>T.sh d) E.g E.mw QgD (fJ (v_ E.oQ.1)) QaK (λC s0 K f0 J d hd=>?ayh) Qe5 ?rest (by exact k6 rfl) QhP
 case ayh=>
  obtain⟨i,hi,rfl⟩:=n3.1 hd;exact⟨qx (c_ (bs,nm,eO ks es ss,is.map .tup,os.map .tup,ws,i) (ly E.vh) wB (ah (gR 1) (ah (lF 0) aS)) (by dsimp only [iJ];exact(k i hi).1) rfl),λ_=>(v_ (J2 0))⟩
 case rest=>
 have G:(((a.map D.int).filter (λd=>pP ws d.zj)).map λd=>T.sh d)=((a.filter QcD).map D.int).map T.sh:=by
  rw[yl,n7];exact(n7 ..).symm
 rw[G];refine bu E.g E.sP (eY (ds:=(pN ks es ops Qaw).map .int) (bw (c_ (bs,nm,ks,es,ss,is.map .tup,os.map .tup,ws,ops,a.filter QcD) E.Ws E.Az (ah QaH (ah Qca (ah (vL E.mw.1) aS))) (by dsimp only [pZ];exact⟨q,We,c.kl,We,u,λi hi=>⟨(v i hi).1,(v i hi).2.1,(v i hi).2.2.1⟩,by rw[s];lia⟩) (aV _)) rfl)) ?_;have Rx:((pN ks es ops Qaw).filter QdV).length<=es.length:=oy (vw _ _) g2;refine bu E.g E.cW (bw (c_ (ks,es,ss,mem,ops,(pN ks es ops Qaw).filter QdV) E.PN E.vC (ah QcT (ah QbQ (ah Qca (ah (cA (bw (rJ (p:=λd=>mP ks es ws d.zj) (g:=λd=>T.sh d) QgD E.g.calm (fJ (v_ E.sP.1)) QaK (λC s0 K f0 J d hd=>?apt) Qe5) (t2:=.lst _) (by
  refine congrArg T.lst ?_;rw[yl,n7];exact(List.map_map ..).symm))) aS)))) (by dsimp only [mz];exact⟨q,c.kl,hm.1,u,λx j=>e x (List.mem_filter.1 j).1⟩) (aV _)) (t2:=.lst (((r8 ks es ws mem ops Qaw).map .int).map T.sh)) rfl) ?_
 case apt=>
  obtain⟨i,hi,rfl⟩:=n3.1 hd;exact⟨qx (c_ (bs,nm,ks,es,ss,is.map .tup,os.map .tup,ws,i) (ly E.Jb) wB (ah (gR 1) (ah (lF 0) aS)) (by dsimp only [qY];exact⟨q,c.kl,We,(e i hi).1,(e i hi).2⟩) rfl),λ_=>(v_ (J2 0))⟩
 generalize Y:r8 ks es ws mem ops Qaw=bh at *;refine bu E.g E.uW (bw (c_ (bs,nm,ks,es,ss,is.map .tup,os.map .tup,ws,bh,a.filter QcD) E.Kr E.sS (ah QaH (ah (vL E.cW.1) (ah (vL E.mw.1) aS))) (by dsimp only [jc];exact⟨⟨n1,c.kl,c.sl,m.1,c.kinds⟩,t,v,by rw[s];lia⟩) (aV _)) rfl) ?_;obtain⟨W,z⟩:=N1 (E1:=mP ks es ws) (mem:=mem) (bh:=bh) c.or (pN ks es ops Qaw);obtain⟨V,y⟩:=N2 (n:=es.length) o;have S:(z8 ks es ss bh Qaw).length<=es.length:=by unfold z8;rw[qi];exact P
 have A:∀x∈z8 ks es ss bh Qaw,0<=x/\x<is.length:=λx j=>by
  rw[c.il];exact(O x (qh.1 j)).1
 obtain⟨i1,i2⟩:=Hw c.ir (z8 ks es ss bh Qaw);refine bu E.g E.cy (A2 (cA (A2 (cA (bw (c_ (bs,nm,ks,es,ss,is.map .tup,os,ws,pN ks es ops Qaw,mem,bh) E.Wt E.AA (ah QaH (ah (aW E.sP) (ah QbQ Qkh))) (by dsimp only [qc];exact⟨q,We,c.kl,c.ol,hm.1,m.1,c.or,We,e⟩) (eB z)) (t2:=.lst _) rfl))
  (cA (bw (c_ (bs,nm,eO ks es ss,is.map .tup,os.map .tup,ws,es.length,a) E.Wu E.AF (ah QaH (ah (aW E.oQ) aS)) (by dsimp only [qe];exact⟨We,λi hi=>⟨(k i hi).1,o i hi⟩⟩) (eB y)) (t2:=.lst ((NZ ws a).map T.sh)) rfl)) z y (Nat.le_of_lt (dG We))))
  (cA (bw (c_ (bs,nm,eO ks es ss,is,os.map .tup,ws.map jL,z8 ks es ss bh Qaw) E.DK E.tU (ah QaH (ah (vL E.uW.1) aS)) (by dsimp only [oi];exact⟨c.ir,We,A⟩) (eB i2)) rfl)) (RV z y) i2 (Nat.le_of_lt (dG (by rw[List.length_append];lia)))) ?_
 have F:((((ops.map D.int).filter (λd=>!decide (d.zj∈pN ks es ops Qaw))).map λd=>T.sh d))=((ops.filter Qit).map D.int).map T.sh:=by
  rw[yl,n7];exact(n7 ..).symm
 have N:(ops.filter Qit).length<=ops.length:=vw _ _;refine bG (qw (bq (vM E.cy.1) (bq (bw (ux E.gU (cA (bw (A2 (ZI:=(z8 ks es ss bh Qaw).map .int) (cA (bw (rJ (g:=λd=>T.sh d) (b8 (.cons E.sP.1 (.inl E.apY) .nil) Wl) E.g.calm (fJ (v_ E.dz.1)) QaK (λC s0 K f0 J d hd=>?apu) Qe5) (congrArg T.lst F))) (vL E.uW.1) (cB _) (cB _) (p7 (dG (by simp only[dm];lia)))) (t2:=.lst (((ops.filter Qit++z8 ks es ss bh Qaw).map .int).map T.sh)) (by rw[← nH]))) We E.gT) rfl) (bq Qf2 bI))) aZ) rfl
 case apu=>
  obtain⟨i,hi,rfl⟩:=n3.1 hd;exact⟨(M3 (l:=pN ks es ops Qaw) (lF 0) (gR 1) rfl rfl).1,λ_=>(v_ (J2 0))⟩
def fh:TQ (ai Gf) ([("chart",.cell),("opens",dH),("memory",dH),("ways",dH),("going",dH),("gone",.cell),("behind",dH),("come",dH),("script",dH),("all_left",cu),("remembered",cu),("all_entered",cu),("out_rows",cu),("way_rows",cu),("in_rows",cu),("sorted",cu)])=true:=by decide +kernel
def agz:dw YX ["chart","opens","memory","ways"] (ai Gf):=kg
abbrev mC:=inClass (top 71) 1
abbrev mF:=CH×Pl×BB×AT×Cs×Str
noncomputable abbrev rS:At:=["self","sign","opens","ways","move"]
def jY:mF->BB:=λ(c,p,pa,bs,ex,sg)=>[.ins "NestRun" (oO c.d (vI p) pa bs ex),.str sg]
def iB:mF->Prop:=λ(c,p,pa,bs,ex,sg)=>c.Ok/\Gd c p/\bs.length=c.bs.length
def jZ:mF->T:=λ(c,p,pa,bs,ex,sg)=>(.tup [.lst (((goN c p sg bs).1.map It.d).map T.sh),.tup [.lst (((goN c p sg bs).2.1.map .int).map T.sh),.lst (((goN c p sg bs).2.2.map .int).map T.sh)]]:T)
structure B7(X:Cx)(CL:BC):Prop extends bN X where
 bJ:Ln X 0 "self"
 lJ:Ln X 1 "sign"
 dz:Ln X 2 "opens"
 oQ:Ln X 3 "ways"
 PR:Ln X 4 "move"
 PV:Gl X "kept"
 PX:Gl X "picks"
 PY:Gl X "moved"
 DY:Fc X CL "kept" 5 2 BV BW BX
 akt:Fc X CL "picks" 4 4 DT DU yQ
 aku:Fc X CL "moved" 46 4 yS yT t7
 aP:jC X.K QE
 ay:jC X.K QU
 bP:aU X.K QU "place"
 jd:aU X.K QU "chart"
 d9:aU X.K QE "boxes"
 bK:aU X.K QU "boxes"
theorem B8(E:B7 X CL) :
  mO X CL b mC rS jY iB jZ:=by
 rintro⟨c,p,pa,bs,ex,sg⟩ h;obtain⟨j,l,r⟩:=h;have go:=N9 j l sg bs;have hs:=go.s;have hd:=go.d;obtain⟨ch,⟨v,u⟩,e,t⟩:=l;have a:=j.k;have n0:=a.n0;have n1:=a.n1;have wl:=a.wl;have y:∀x∈p.1,0<=x/\x<c.es.length:=e▸λx m=>RW n0 m;have n:p.1.length<=c.es.length:=by have:=FP (isAll:=aF c.ks) (es:=c.es) (ch:=ch) (c.es.length-1);lia
 have hpl:=Yn c.ws p.1 bs sg c.es (rA c.ks p.1);have o:(rA c.ks p.1).length<=p.1.length:=vw _ _;have i:∀k∈QD _ p.1 bs sg c.es (rA c.ks p.1),0<=k/\k<c.ws.length:=aoZ;show dW X CL b _ _ {nx:=_,rt:=λf _=>f=T.tup _,bk:=_,ct:=_};rw[hd];apply bu E.g E.dz (oM Qix ao G7);refine bu E.g E.oQ (bw (c_ (c.bs.map C1,c.nm,c.ks,c.es,c.ss,c.is.map _,c.os.map _,c.ws,QD _ p.1 bs sg _ _) E.DY E.PV (ah Qjc (ah (cA (bw (c_ (c.bs.map C1,c.nm,c.ks,c.es,c.ss,c.is.map _,c.os.map _,c.ws,p.1,bs,sg) E.akt E.PX (ah Qjc (ah Qca (ah (cL E.ay E.bK (aW E.bJ) yw) (ah (aW E.lJ) aS)))) (⟨a.pre.1,We,a.kl,We,We,y,j.q bs r⟩) (aV _)) rfl)) aS)) (⟨a.pre.1,We,a.kl,We,i,λw hw=>by have:=a.wo w hw;exact⟨this.1,by obtain z|z:=this.2.1<;>lia⟩⟩) (aV _)) rfl) ?_;have em:t7 (c.bs.map C1,c.nm,c.ks,c.es,c.ss,c.is,c.os,c.ws,ch,p.2,sy c p.1 bs sg)=T.tup [.lst ((y5 c p Qc5).map T.sh),.lst (((toN c p Qc5).1.map .int).map T.sh),.lst (((toN c p Qc5).2.map .int).map T.sh)]:=by unfold y5 toN;rw[e];rfl
 refine bu E.g E.PR (bw (c_ (c.bs.map C1,c.nm,c.ks,c.es,c.ss,c.is,c.os,c.ws,ch,p.2,sy c p.1 bs sg) E.aku E.PY (ah Qjc (ah (El Qca (by rw[e])) (ah (bR (cL E.ay E.bP (aW E.bJ) tP) ao HE) (ah (vL E.oQ.1) aS)))) (⟨a,⟨v,u⟩,t,e▸hs⟩) (by rw[em,T.clean,T.cZ,T.cZ,T.cZ,aV,aV,eB (hd▸eZ N4 _)];rfl)) em) ?_;exact bG (qw (bq Qir (bq (qw (bq Qir (bq Qir bI)) aZ) bI)) aZ) rfl
def cT:FG rS ["self","sign"] ["kept","picks","moved"] (ai mC):=fG
abbrev q8:=inClass (top 69) 2
abbrev mG:=Addr×CH×Pl×Bi×AT×Dx×At
abbrev xP:At:=["self","called","waiting","rows","many","sign","going","step"]
def iL:mG->Bi:=λ(y,c,p,pt,bs,eo,cs)=>[.pin y (.ins "NestRun" (jA c.d (vI p) pt bs Qbt)),.sh (.lst (cs.map .str))]
def iM:mG->Bi:=λ(y,c,p,pt,bs,eo,cs)=>[.pin y (.ins "NestRun" (jA c.d (vI (r4 c (cs,p,bs))) pt (r3 c (cs,p,bs)) Qbt)),.sh (.lst (cs.map .str))]
def iN:mG->Prop:=λ(y,c,p,pt,bs,eo,cs)=>c.Ok/\Gd c p/\bs.length=c.bs.length/\cs.length<=1000
def iO:mG->T:=λ(y,c,p,pt,bs,eo,cs)=>(.lst ((Ew c (cs,p,bs)).map T.sh):T)
structure Jd(X:Cx)(CL:BC):Prop extends bN X where
 bJ:Ln X 0 "self"
 lY:Ln X 1 "called"
 qo:Ln X 2 "waiting"
 bT:Ln X 3 "rows"
 dZ:Ln X 4 "many"
 lJ:Ln X 5 "sign"
 mw:Ln X 6 "going"
 fV:Ln X 7 "step"
 cN:Gl X "list"
 PZ:Gl X "MOST_SIGNS"
 oE:Gl X "performed"
 ig:Gl X "len"
 cO:mK X "list"
 P0:∃u,X.mg "MOST_SIGNS" = some (.int 8 u)
 xQ:Fc X CL "performed" 5 2 j8 ji nK
 iu:mK X "len"
 B9:Fq X CL "NestRun" "step_at" 47 2 jY iB jZ
 aP:jC X.K QE
 ay:jC X.K QU
 bP:aU X.K QU "place"
 d9:aU X.K QE "boxes"
 bK:aU X.K QU "boxes"
theorem Je(E:Jd X CL) :
  wb X CL b q8 xP iL iN iO iM:=by
 rintro⟨y,c,p,pt,bs,eo,cs⟩ h;dsimp only [iN,iL,iO,iM]at h ⊢;obtain⟨n,J,I,L⟩:=h;refine bu E.g E.qo (j5 E.cO (v_ E.lY.1) E.cN bS) ?_;refine bu E.g E.bT Qhy ?_;refine bu E.g E.dZ bM ?_;refine FD E.g (λk δ=>∃(j:Nat) (A v u:Qcd),k+j=8/\δ=[some (.pin y (.ins "NestRun" (jA c.d (vI (zm c j (cs,p,bs)).2.2.1) pt (zm c j (cs,p,bs)).2.2.2 Qbt))),some _,some (.lst (((zm c j (cs,p,bs)).2.1.map .str).map T.sh)),some (.lst ((zm c j (cs,p,bs)).1.map T.sh)),some QcW,A,v,u]) 8 ⟨0,_,_,_,rfl,rfl⟩ ?loop
 case loop=>
  rintro k δ ⟨j,A,v,u,hm,rfl⟩;obtain⟨k1,k2,k5,k3,B⟩:=Df n (cs:=cs) J I j;have r:=@R5 c (cs,p,bs) j;have e:=@HF c (cs,p,bs) j;have o:(zm c j (cs,p,bs)).2.1=[]\/j=8->zm c 8 (cs,p,bs)=zm c j (cs,p,bs):=λz=>by
   obtain z|z:=z
   .have:=r z (8-j)
    rwa [show j+(8-j)=8 by lia]at this
   .rw[z]
  unfold r3 r4 Ew;generalize G:zm c j (cs,p,bs)=s at k1 k2 k3 B k5 o e ⊢;obtain⟨rs,w,q,cur⟩:=s;dsimp only at k1 k2 k3 B k5 o ⊢;refine⟨_,_,uo (jE (aen (vL E.qo.1)) (λ_=>jP (Lj Qd7 (aQ (e7 E.P0 E.PZ))).1)),λf=>?_,λf=>?_⟩
  .rw[oD]at f;obtain⟨l,H⟩:=f;cases w with
   | nil=>cases l
   | cons sg w=>
    have C:=e (rs:=rs) (sg:=sg) (w:=w) (a:=q) (bs:=cur) rfl;obtain⟨_,_,D,s1,gn⟩:=N9 n k5 sg cur;generalize K:goN c q sg cur=gg at D s1 gn C;have s3:(dY gg.1).length<=gg.1.length:=JJ _ _;rw[o1]at k2;refine aoz E.g E.dZ rfl ao ?_;refine g9 E.g E.lJ (aeG (t:=.sh (.str sg)) (cD E.qo.1 rfl) rfl rfl) ?_;refine bu E.g E.mw (A5 (d:=.tup [.lst (gg.1.map It.d),vI gg.2]) (bw (q_ (c,q,T.fO pt,cur,JK eo,sg) E.B9 (vE E.bJ.1 rfl C9) (C8 Wl Wl Wl Wl Wl) (ah (aW E.lJ) aS) rfl (by dsimp only [iB];exact⟨n,k5,k3⟩) (by show T.cZ _=true;rw[T.cZ,T.cZ,T.cZ,eB (eZ N4 _),T.clean,T.cZ,T.cZ,T.cZ,aV,aV];rfl)) (t2:=.tup [.lst ((gg.1.map It.d).map T.sh),.tup [.lst ((gg.2.1.map .int).map T.sh),.lst ((gg.2.2.map .int).map T.sh)]]) (by rw[← K];rfl)) (by rw[T.gM,T.fO,T.fO,T.fO,dF,T.gM,T.fO,T.fO,T.fO,dF,dF];rfl)) ?_;refine bu E.g E.fV (bw (c_ (true,gg.1,cur) E.xQ E.oE (ah (bR (aW E.mw) ao G7) (ah (cL E.ay E.bK (vE E.bJ.1 rfl C9) yw) aS)) (by dsimp only [ji];exact⟨We,λx F=>afC (D x F) k3⟩) (N5 (cB _) (FY _ _) (eZ Qdb _))) (t2:=.tup [.lst _,.lst _,.lst _]) rfl) ?_;refine jl E.ay E.bP E.bJ.1 (oM (v_ E.mw.1) ao HE).m rfl Qia ?_;rw[Vm];refine jl E.ay E.bK E.bJ.1 (eY QbY).m rfl Qia ?_;rw[Vo];refine lz E.bT.1 rfl (iS (aO fZ (aO (v_ E.lJ.1) fz)) aZ) rfl (by rw[dm];lia) ?_;refine mU E.bT.1 rfl (cA QbY) (FY _ _) rfl (by simp[Bm];lia) ?_;refine mU E.qo.1 rfl (cA QbY) (v8 _) rfl WF (ak ⟨k-1,We,j+1,some QfS,some (.sh (.tup [.lst (gg.1.map It.d),vI gg.2])),some (.tup [.sh .any,.sh .any,.sh .any]),We,?_⟩);rw[C];dsimp only;rw[nH,nH,nH,og,nr];rfl
  .have hz:w=[]\/j=8:=by
    cases w with
    | nil=>exact .inl rfl
    | cons sg w=>
     right;have:=ph ((Bool.true_and _).symm.trans f);lia
   rw[o hz];dsimp only;refine fK (aen (vL E.qo.1)) (λi=>?_) (λi=>ak ?_)
   .have hw:w≠[]:=by
     rintro rfl;cases i
    rw[bF hw];refine lz E.bT.1 rfl (iS (aO fZ (aO (bw (Fx E.iu (vL E.qo.1) E.ig) (by rw[dm])) fz)) aZ) rfl (by rw[dm];lia) (ak (bG QdX ⟨?_,mS (ds:=[_])⟩));rw[nH];rfl
   .have hw:w=[]:=by
     cases w with
     | nil=>rfl
     | cons sg w=>cases i
    subst hw;rw[cq rfl,n2];exact bG QdX ⟨rfl,mS (ds:=[_])⟩
def cj:FG xP ["self","called"] ["list","MOST_SIGNS","performed","len"] (ai q8):=fG
abbrev sU:=inClass (top 69) 0
abbrev nQ:=Addr×CH×Pl×AT×List It
noncomputable abbrev zF:At:=["self","boxes","place","script","step"]
def je:nQ->Bi:=λ(y,c,p,bs,xs)=>[.pin y (.ins "NestRun" [("chart",.sh c.d)]),.sh Qep,.sh (vI p),.sh (.lst QeS)]
def jf:nQ->Bi:=λ(y,c,p,bs,xs)=>[.pin y (.ins "NestRun" (R1 c.d (vI (r4 c (dY xs,p,xs.foldl It.af bs))) [] (r3 c (dY xs,p,xs.foldl It.af bs)) (C6 (some ((Hx xs bs).map J.d++Ew c (dY xs,p,xs.foldl It.af bs)))))),.sh Qep,.sh (vI p),.sh (.lst QeS)]
def pC:nQ->Prop:=λ(y,c,p,bs,xs)=>c.Ok/\Gd c p/\bs.length=c.bs.length/\xs.length<=200/\(∀x∈xs,uu c.bs.length x)
noncomputable def kH:nQ->T:=λ(y,c,p,bs,xs)=>(.sh .non:T)
structure Ks(X:Cx)(CL:BC):Prop extends bN X where
 bJ:Ln X 0 "self"
 cR:Ln X 1 "boxes"
 jT:Ln X 2 "place"
 cy:Ln X 3 "script"
 fV:Ln X 4 "step"
 oE:Gl X "performed"
 xQ:Fc X CL "performed" 5 2 j8 ji nK
 rg:yZ X CL "NestRun" "dealt" 48 2 iL iN iO iM
 aP:jC X.K QE
 ay:jC X.K QU
 bP:aU X.K QU "place"
 di:aU X.K QU "past"
 d9:aU X.K QE "boxes"
 bK:aU X.K QU "boxes"
 jN:aU X.K QU "first_rows"
theorem Ku(E:Ks X CL) :
  wb X CL b sU zF je pC kH jf:=by
 rintro⟨y,c,p,bs,xs⟩ h;dsimp [je,kH,jf]at h ⊢;obtain⟨i,hf,f,k,e⟩:=h;have l:(dY xs).length<=xs.length:=JJ _ _;have j:=uI xs bs;have a:=j.trans f;obtain⟨d1,d2⟩:=Oa i (cs:=dY xs) hf a;apply jl E.ay E.bP E.bJ.1 (v_ E.jT.1).m rfl Qa7;rw[show zS _ _ _=[(("chart":Str),T.sh c.d),(("place"),T.sh _)] by rfl];apply jl E.ay E.di E.bJ.1 (c9 bI aZ).m rfl Qa7;rw[show zS _ _ _=[(("chart":Str),T.sh c.d),(("place"),T.sh _),(("past"),T.lst [])] by rfl];refine bu E.g E.fV (bw (c_ (true,xs,bs) E.xQ E.oE (ah Qdl Qcr) (⟨We,λx hm=>afC (e x hm) f⟩) (N5 (cB _) (FY _ _) (eZ Qdb _))) rfl) ?_;apply jl E.ay E.bK E.bJ.1 (eY QbY).m rfl Qa7;rw[show zS _ _ _=R1 c.d _ [] _ (C6 none) by rfl];generalize xs.foldl _ bs=cur at j a d1 d2 ⊢;refine jl E.ay E.jN E.bJ.1 (ai4 QbY (qM (dl:=[.lst _]) (λz=>(z,c,p,[],cur,none,dY xs)) (.pin y (.ins _ (R1 c.d _ [] _ _))) E.rg E.bJ.1 (.pin rfl) (bq (eY QbY) bI) (λz _=>⟨i,hf,a,We⟩) Qbp (λz hz=>by subst hz;exact⟨rfl,.inr rfl,trivial⟩) (ajH Wl Wl Wl Wl Wl) (λz hz=>by rfl)) (by rw[p3,dm,Bm];lia)) rfl (afz _ _ _ _ _) (ak ⟨rfl,?_⟩);exact mS (ds:=[_,_,_])
def fN:FG zF ["self","boxes","place","script"] ["performed"] (ai sU):=fG
abbrev rj:=inClass (top 71) 0
abbrev rq:=CH
abbrev xR:At:=["self","chart","start"]
def t8:rq->BB:=λc=>[c.d]
def t9:rq->Prop:=λc=>c.Ok
def ua:rq->B1:=λc=>(R1 c.d (vI (r4 c (dY (Bs c),T4 c,(Bs c).foldl It.af (c.bs.map (·.2))))) [] (r3 c (dY (Bs c),T4 c,(Bs c).foldl It.af (c.bs.map (·.2)))) (C6 (some ((Hx (Bs c) (c.bs.map (·.2))).map J.d++Ew c (dY (Bs c),T4 c,(Bs c).foldl It.af (c.bs.map (·.2)))))):B1)
structure Jf(X:Cx)(CL:BC):Prop extends bN X where
 bJ:Ln X 0 "self"
 aY:Ln X 1 "chart"
 uU:Ln X 2 "start"
 P1:Gl X "begun"
 agA:Gl X "Runner"
 Jg:Gl X "firsts"
 akv:Fc X CL "begun" 44 1 DI DJ yM
 agB:Fc X CL "firsts" 1 1 Ad uX uY
 Kv:FkM X CL "Runner" "__init__" 49 4 je pC kH jf
 ay:jC X.K QU
 jd:aU X.K QU "chart"
def Jh(E:Jf X CL)(c:CH)(y:Addr)(h:c.Ok) :
  dW X CL b (dQ rj) (UA xR y "NestRun" [c.d]) {nx:=λδ=>δ[0]? = some (some (.pin y (.ins "NestRun" (R1 c.d (vI (r4 c (dY (Bs c),T4 c,(Bs c).foldl It.af (c.bs.map (·.2))))) [] (r3 c (dY (Bs c),T4 c,(Bs c).foldl It.af (c.bs.map (·.2)))) (C6 (some ((Hx (Bs c) (c.bs.map (·.2))).map J.d++Ew c (dY (Bs c),T4 c,(Bs c).foldl It.af (c.bs.map (·.2)))))))))),rt:=λ_ _=>False}:=by
 have e:=h;have a:=e.k;obtain⟨g0,i1,i2,f⟩:=afF e;apply jl E.ay E.jd E.bJ.1 (v_ E.aY.1).m rfl Qa7;apply bu E.g E.uU (A5 (d:=.tup [.lst ((Bs c).map _),.lst _,.lst _]) (bw (c_ (c.bs.map C1,c.nm,c.ks,c.es,c.ss,c.is,c.os.map _,c.ws.map jL) E.akv E.P1 (ah QaH aS) (⟨e.nl,a.n0,a.n1,a.kl,a.sl,a.il,a.ir,a.kinds,R6 e⟩) (by show T.cZ _=true;rw[T.cZ,T.cZ,T.cZ,aV,aV,eB (i1▸eZ N4 _)];rfl)) (t2:=.tup [.lst ((inR _ (T4 c).1).map _),.lst _,.lst _]) rfl) (by rw[i1,T.gM,T.fO,T.fO,T.fO,T.fO,dF,dF,dF]));have i:(c.bs.map (·.2)).length=c.bs.length:=dm ..;refine Ng (kM1 (λz=>(z,c,T4 c,c.bs.map _,Bs c)) _
  E.Kv E.agA (A8 E.bJ.1 rfl (rL (eY (c_ (c.bs,c.nm,eO _ _ _,c.is.map _,c.os.map _,c.ws.map jL) E.agB E.Jg (ah QaH aS) e.bl (aV _))) (rL (iS (aO (oM (v_ E.uU.1) ao HE) (aO (oM (v_ E.uU.1) ao RY) fz)) aZ) (rL (oM (v_ E.uU.1) ao G7) uz))))
  (λz _=>⟨e,g0,i,f,i2⟩) Qbp (λz hz=>by cases hz.1;exact⟨rfl,.inr rfl,trivial⟩) (λz hz=>by cases hz.1;rfl)) (ak rfl)
def eS:FG xR ["self","chart"] ["begun","Runner","firsts"] (ai rj):=fG
abbrev sV:=inClass (top 69) 3
abbrev nR:=Addr×CH×Pl×List vR×AT×Dx×Str
noncomputable abbrev zG:At:=["self","sign","place","boxes","rows"]
def kI:nR->Bi:=λ(y,c,p,l,bs,eo,sg)=>[.pin y (.ins "NestRun" (jA c.d (vI p) (j6 l) bs Qbt)),.sh (.str sg)]
def kJ:nR->Bi:=λ(y,c,p,l,bs,eo,sg)=>[.pin y (.ins "NestRun" (jA c.d (vI (r4 c ([sg],p,bs))) (j6 (l++[(p,bs,Ew c ([sg],p,bs))])) (r3 c ([sg],p,bs)) Qbt)),.sh (.str sg)]
def jg:nR->Prop:=λ(y,c,p,l,bs,eo,sg)=>c.Ok/\Gd c p/\bs.length=c.bs.length/\l.length<=1000
def kK:nR->T:=λ(y,c,p,l,bs,eo,sg)=>(.lst ((Ew c ([sg],p,bs)).map T.sh):T)
structure Kw(X:Cx)(CL:BC):Prop extends bN X where
 bJ:Ln X 0 "self"
 lJ:Ln X 1 "sign"
 jT:Ln X 2 "place"
 cR:Ln X 3 "boxes"
 bT:Ln X 4 "rows"
 cN:Gl X "list"
 cO:mK X "list"
 rg:yZ X CL "NestRun" "dealt" 48 2 iL iN iO iM
 aP:jC X.K QE
 ay:jC X.K QU
 bP:aU X.K QU "place"
 d9:aU X.K QE "boxes"
 bK:aU X.K QU "boxes"
 di:aU X.K QU "past"
theorem Kx(E:Kw X CL) :
  wb X CL b sV zG kI jg kK kJ:=by
 rintro⟨y,c,p,l,bs,eo,sg⟩ h;dsimp [kI,kK,kJ]at h ⊢;obtain⟨f,e,d,a⟩:=h;obtain⟨_,j⟩:=Oa f (cs:=[sg]) e d;refine bu E.g E.jT (ym (Nq E.ay E.bP (cD E.bJ.1 rfl) rfl rfl Vk) rfl Vp) ?_;refine bu E.g E.cR (ym (Nq E.ay E.bK (cD E.bJ.1 rfl) rfl rfl Vl) rfl Vq) ?_;refine g9 E.g E.bT (qM (dl:=[.lst [.str sg]]) (λz=>(z,c,p,j6 l,bs,eo,[sg])) _ E.rg E.bJ.1 (.pin rfl) (bq (eY (c9 (bq (v_ E.lJ.1) bI) aZ)) bI) (λz _=>⟨f,e,d,WA⟩) Qbp (λz hz=>by subst hz;exact⟨rfl,.inr rfl,trivial⟩) QeJ (λz hz=>by rfl)) ?_;rw[HD];generalize Ew c _=fr at j ⊢;have hpl:(j6 l).length<=1000:=by unfold j6;rw[dm];exact a
 generalize j6 l=pt at hpl ⊢;refine Nv (i:=4) rfl λz=>?_;apply aow (p:=[.fld _]) Qlh rfl De (qw (bq (v_ E.jT.1) (bq (v_ E.cR.1) (bq (aeS E.bT.1 rfl) bI))) aZ) rfl De We;rw[Vr];exact bG (as9 (δ2:=[some _,some _,some _,some _,some _]) (aeT (i:=0) _ (jF E.cO (aax (i:=0) E.bT.1 rfl rfl L6 (dF fr)) j E.cN bS) rfl L6) (by rw[aaS];rfl)) ⟨rfl,mS (ds:=[_])⟩
def gI:FG zG ["self","sign"] ["list"] (ai sV):=fG
theorem SK(c:CH)(sg:Str)(p:Pl)(bs:AT):∀j,∃r,(zm c QA ([sg],p,bs)).1=D.tup [.str "sign",.str sg]::r
 | 0=>⟨_,rfl⟩
 | j+1=>by
  obtain⟨r,e⟩:=SK c sg p bs j;rw[zm];generalize zm c _ _=x at e ⊢;obtain⟨rs,w,q⟩:=x;cases w with
  | nil=>exact⟨r,e⟩
  | cons s w=>
   subst e;exact⟨_,rfl⟩
def abl(c:CH)(sg:Str)(p:Pl)(bs:AT):∃r,Ew c ([sg],p,bs)=D.tup [.str "sign",.str sg]::r:=by
 obtain⟨r,e⟩:=SK c sg p bs 7;unfold Ew;rw[e];exact⟨_,rfl⟩
structure Wv(c:CH)(p:Pl)(bs:AT)(l:QaD):Prop where
 g:Gd c p
 b:bs.length=c.bs.length
 q:∀q∈l,(Gd c q.1/\q.2.1.length=c.bs.length)/\∃sg,PyData.strOk sg=true/\q.2.2=Ew c ([sg],q.1,q.2.1)
theorem Wv.rows{c:CH}(a:c.Ok){p:Pl}(h:Wv c p bs l):∀q∈l,q.2.2.length<=4000/\∀d∈q.2.2,Vs d:=λq f=>by
 obtain⟨⟨g1,g2⟩,sg,hs,e⟩:=h.q q f;rw[e];exact⟨(Oa a g1 g2).1,Yp a g1 g2 λx b=>n4.1 b▸hs ⟩
theorem Wv.st{c:CH}(a:c.Ok){p:Pl}(h:Wv c p bs l)(h1:r.length<=5000)(h2:∀d∈r,Vs d):sr r l:=⟨h1,h2,h.rows a⟩
theorem Wv.feed{c:CH}(e:c.Ok){p:Pl}(h:Wv c p bs l)(hs:PyData.strOk sg=true):Wv c (r4 c ([sg],p,bs)) (r3 c ([sg],p,bs)) (l++[(p,bs,Ew c ([sg],p,bs))]):=by
 have d:=Df e (cs:=[sg]) h.g h.b 8;refine⟨d.g,d.b,λq a=>?_⟩;obtain z|z:=f9.1 a
 .exact h.q q z
 .rw[n4.1 z];refine⟨⟨h.g,h.b⟩,sg,hs,?_⟩;dsimp
theorem Wv.back{c:CH}{p:Pl}{q:vR}(h:Wv c p bs (l++[q])):Wv c q.1 q.2.1 l/\∃sg,PyData.strOk sg=true/\q.2.2=Ew c ([sg],q.1,q.2.1):=by
 obtain⟨⟨g1,g2⟩,e⟩:=h.q q WA;exact⟨⟨g1,g2,λz hz=>h.q z (nv _ hz)⟩,e⟩
def vc(l:QaD):BB:=(List.range l.length).map λi=>Ka (l.getD i (([],[]),[],[])).1 (l.getD i (([],[]),[],[])).2.1 i
def akw(l:QaD):(vc l).length=l.length:=by unfold vc;rw[dm,sm]
def Ji(l:QaD)(q:vR):vc (l++[q])=vc l++[Ka q.1 q.2.1 l.length]:=by
 unfold vc;rw[n6,wy,M1,nH,List.map_singleton];congr 1
 .refine tH λi hi=>?_;have hi:=rb.1 hi;rw[ox,Pc hi,← ox]
 .rw[ox,Nf (iP _),Nat.sub_self];rfl
noncomputable def QF(l:QaD):BB:=l.map λq=>.lst q.2.2
def Jj(l:QaD)(q:vR):QF (l++[q])=QF l++[.lst q.2.2]:=by unfold QF;rw[nH];rfl
def YY(ds:BB):MS QcC Qdv=ds.isEmpty:=by cases ds<;>rfl
def abm(l:QaD):(xo l).length=l.length:=by unfold xo;rw[dm]
noncomputable def SM:At:=["go","go2","ago","gog"]
def akx(k:Nat):PyData.strOk (SM.getD k Str.empty)=true:=by
 have:∀x∈SM,PyData.strOk x=true:=by decide +kernel
 rw[ox];cases e:SM[k]? with
 | none=>decide +kernel
 | some x=>exact this x (qz e)
def agC(h:∀q∈l,∀d∈q.2.2,Vs d):rW 60 (.lst (QF l)):=.lst λd hd=>by
 obtain⟨q,a,rfl⟩:=n3.1 hd;exact ju (h q a)
noncomputable def YZ:rW 60 Qdv:=.lst λd hd=>by cases hd
def HA(h:rW 60 d):(!MS d d)=false:=by rw[AY h];rfl
abbrev S3:=top 89
abbrev S1:=AT
noncomputable abbrev amL:At:=["script","run","first","looks","parts","cell","rows"]
noncomputable def yU:S1->BB:=λa=>[.lst (a.map .int)]
def yV:S1->Prop:=λa=>a.length<=63
noncomputable def yW:S1->T:=λa=>(.sh Qbh:T)
structure aus(X:Cx)(CL:BC):Prop extends bN X where
 cy:Ln X 0 "script"
 jw:Ln X 1 "run"
 BO:Ln X 2 "first"
 vD:Ln X 3 "looks"
 pT:Ln X 4 "parts"
 uM:Ln X 5 "cell"
 bT:Ln X 6 "rows"
 abo:Gl X "NestRun"
 P4:Gl X "_law_chart"
 SN:Gl X "_law_look"
 P5:Gl X "_law_turns"
 xS:Gl X "_law_refused"
 P6:Gl X "_law_bases"
 Ca:Gl X "_law_story"
 abp:Fm X CL "NestRun" 51 2 t8 t9 ua
 yX:Fc X CL "_law_chart" 5 1 yF yG yH
 ap1:Fc X CL "_law_look" 2 1 HX HY HZ
 aky:Fc X CL "_law_turns" 1 3 Dl Dm yI
 Mm:Fc X CL "_law_refused" 2 1 w9 xg xh
 akz:Fc X CL "_law_bases" 2 1 Dt Du Dv
 Y0:Fc X CL "_law_story" 2 3 DE DF yJ
 qP:Fq X CL "NestRun" "story" 1 1 jQ jR jS
 lT:FR X CL "NestRun" "back" 1 1 gV gW gX
 j7:yZ X CL "NestRun" "back" 1 1 gO i9 ja gP
 zH:yZ X CL "NestRun" "feed" 49 2 kI jg kK kJ
theorem aut(E:aus X CL) :
  mO X CL b S3 amL yU yV yW:=by
 intro a h;dsimp only [yV,yU,yW]at h ⊢;have hs:a.length<=63:=by lia
 obtain⟨c,hc⟩:∃c,c=Hm qH 9 a:=⟨_,rfl⟩;have y:c.Ok:=by rw[hc];exact apc Wp Wp
 obtain⟨g0,i1,i2,i3⟩:=afF y;have JY:(c.bs.map (·.2)).length=c.bs.length:=dm ..;have Cz:((Bs c).foldl It.af (c.bs.map (·.2))).length=c.bs.length:=(uI _ _).trans JY;obtain⟨O,M⟩:∃O,O=r4 c (dY (Bs c),T4 c,(Bs c).foldl It.af (c.bs.map (·.2))):=⟨_,rfl⟩;obtain⟨N,L⟩:∃N,N=r3 c (dY (Bs c),T4 c,(Bs c).foldl It.af (c.bs.map (·.2))):=⟨_,rfl⟩;obtain⟨f,F⟩:∃f,f=(Hx (Bs c) (c.bs.map (·.2))).map J.d++Ew c (dY (Bs c),T4 c,(Bs c).foldl It.af (c.bs.map (·.2))):=⟨_,rfl⟩;have P:Wv c O N []:=by
  have d:=Df y (cs:=dY (Bs c)) g0 Cz 8;rw[M,L];exact⟨d.g,d.b,λq G=>absurd G oe⟩
 have I:f.length<=5000:=by
  have:=(Oa y (cs:=dY (Bs c)) g0 Cz).1;rw[F,n6,dm,Bm];lia
 have C:∀d∈f,Vs d:=λd hd=>by
  rw[F]at hd;obtain z|z:=f9.1 hd
  .exact Vt _ i2 d z
  .exact Yp y g0 Cz (R4 i2) d z
 refine bu E.g E.jw (bw (mkF c E.abp E.abo (bq (A5 (cF a E.yX E.P4 (bq (v_ E.cy.1) bI) (show a.length<=1000 by lia)) (by rw[hc];exact aaZ _)) bI) y) (t2:=.ins "NestRun" (jA c.d (vI O) (j6 []) N (C6 (some f)))) (by rw[M,L,F];rfl)) ?_;clear M L F hc;have no:∀{cd pl:D} {pa:BB} {bs:AT} {r:BB},(oO cd pl pa bs (JK (some r))).lookup ("story":Str)=none:=λ{cd pl pa bs r}=>C8 Wl Wl Wl Wl Wl;have W:jm f []=f:=n2 _;have ag:=P.st y I C;refine bu E.g E.BO (eY (bw (q0_ (c.d,vI O,[],N,f) E.qP (vE E.jw.1 rfl qO) no rfl (ag.pre (nZ _)) (by show(T.lst ((jm f []).map T.sh)).clean=true;rw[W];exact eB (wI C))) (t2:=.lst (f.map T.sh)) (by show T.lst ((jm f []).map T.sh)=_;rw[W]))) ?_;have A:∀{p:Pl} {B:AT} {l:QaD} {δ:BA} {p1 p2 S:Pos},δ[1]? = some _->cY X CL b (.Call (.Name "_law_look" p1) [.Name "run" p2] [] S) δ (.sh (Ka p B l.length)) δ:=λ{p B l δ p1 p2 S} hd=>A5 (bw (c_ (c.d,p,xo l,B,some f) E.ap1 E.SN (ah (vE E.jw.1 hd qO) aS) trivial (af2 _ _ _)) (t2:=y8 p B l.length) (by show y8 p B (xo l).length=_;rw[abm])) (apA ..);refine bu E.g E.vD (bw (c9 (bq (A rfl) bI) aZ) rfl) ?_;refine bu E.g E.pT QaS ?_;have V:∀{p:Pl} {B:AT} {l:QaD} {δ:BA} {p1 p2 S p4 p5:Pos},Wv c p B l->l.length<=63->δ[1]? = some _->δ[2]? = some (some QfY)->δ[4]? = some (some Qhg)->cY X CL b (.Call (.Name "_law_story" p1) [.Name "run" p2,.Name "first" S,.Name "parts" p4] [] p5) δ (.sh Qbh) δ:=λ{p B l δ p1 p2 S p4 p5} st hl h1 h2 h4=>bw (c_ (c.d,vI p,l,B,f) E.Y0 E.Ca (ah (vE E.jw.1 h1 qO) (ah (aQ (v_ E.BO.1 h2)) (ah (vL E.pT.1 h4) aS))) ⟨st.st y I C,We⟩ rfl) rfl;have ar:=ajW a 21 24;refine jn E.g E.uM (λj δ=>∃(p:Pl) (B:AT) (l:QaD) (U:Qcd),(Wv c p B l/\l.length<=j)/\δ=[some Qha,some Qio,some QfY,some QiB,some Qhg,U,none]) (fJ (eY (bw (c_ (a,21,24) E.aky E.P5 (ah Qdl (ah ao (ah ao aS))) ?tp (aV _)) rfl))) ⟨O,N,[],_,⟨P,iP _⟩,rfl⟩ (λj δ ⟨_,_,_,_,_,e⟩=>by subst e;exact k6 rfl) ?turn ?fin
 case tp=>exact⟨hs,Wp,Wp,Wp⟩
 case turn=>
  rintro j d δ hj ⟨p,B,l,U,⟨st,v⟩,rfl⟩;rw[o2]at hj;obtain⟨x,hx,rfl⟩:=MU.1 hj;have aw:j<63:=by have:=(pd.1 hx).1;lia
  have ae:=akw l;refine Su (λδ=>∃(p:Pl) (B:AT) (l:QaD),(Wv c p B l/\l.length<=j+1)/\δ=[some Qha,some Qio,some QfY,some QiB,some Qhg,some (.sh (.int x)),none]) ?k1 (λk=>?i1)
  case i1=>
   have s:=st.rows y;refine fK (uo (jE (eW (aQ (jD Qfd ao Wp)) ao).1 (λ_=>jP (HH (MV E.u (d1:=.lst (QF l)) (d2:=.lst []) (vL E.pT.1) (cA Qhy) (agC λq G=>(s q G).2) YZ).1 (YY _))))) (λi=>?_) (λi=>?_)
   .rw[oD]at i;have K:l=[]:=by
     have:=List.isEmpty_iff.1 i.2;exact List.map_eq_nil_iff.1 this
    subst K;refine fK (uo (XC (Gz (qx Qkm)) (λ_=>MP (Gz (qx (bw (c_ (c.d,vI p,B,some f) E.akz E.P6 (ah (vE E.jw.1 rfl qO) aS) trivial rfl) (t2:=.sh Qbh) rfl)))))) (λi=>by cases i) (λ_=>ak (ak (k _ ⟨p,B,[],⟨st,We⟩,rfl⟩)))
   .refine fK (eW (aQ (jD Qfd ao Wp)) ao).1 (λG=>?_) (λG=>?_)
    .obtain rfl|⟨o,q,rfl⟩:=List.eq_nil_or_concat l
     .rw[G]at i;cases i
     rw[List.concat_eq_append]at st v s ⊢;obtain⟨R,_⟩:=st.back;have w:=(s q WA).2;rw[n6,wy]at v;rw[Ji,Jj];refine Ng (Bb (p:=[]) (t:=.sh (Ka p B (o++[q]).length)) (cD E.vD.1 rfl) rfl (by rw[nH];rfl)) ?_;refine XZ (ai8 E.u (RE Qlx _ E.j7 E.jw.1 (.own rfl) (λz _=>by show o.length<=1000;lia) (t:=.lst QfQ) Qbp Qfh QeJ Qbp) (dF _) (Bb (p:=[]) (tl:=(QF o).map T.sh) (t:=.sh (.lst q.2.2)) (cD E.pT.1 rfl) rfl (by rw[nH];rfl)) (by rw[T.gM]) (ju w) (ju w)) (λi=>absurd i (by rw[HA (ju w)];decide)) (λ_=>ak (ak (ak (k _ ⟨q.1,q.2.1,o,⟨R,We⟩,rfl⟩))))
    .have c0:=pj (x / 3) (b:=4) Wp;have c1:=o4 (x / 3) (b:=4) Wp;have H:=akx (x / 3 % 4).toNat;refine aoE E.pT.1 rfl (aeN (qM (dl:=[.str (SM.getD (x / 3 % 4).toNat Str.empty)]) (λz=>(z,c,p,l,B,some f,SM.getD (x / 3 % 4).toNat Str.empty)) (.ins "NestRun" (jA c.d _ _ _ (C6 (some f)))) E.zH E.jw.1 (.own rfl) (bq (dB (bY (cA (eX (rG (l:=SM) rfl) aZ)) (aQ (jD (aQ (yf Qfd ao ⟨Wp,Wp⟩)) ao Wp)) (gA Str.empty (l:=SM) c0 (show x / 3 % 4<4 from c1))) rfl) bI) (λz _=>by dsimp only [jg];exact⟨y,st.g,st.b,We⟩) Qbp Qfh QeJ Qbp) (dF _)) rfl (by unfold QF;rw[List.length_map,List.length_map];lia) ?_;generalize SM.getD (x / 3 % 4).toNat Str.empty=sg at H ⊢;have sf:=st.feed y H;have ep:(QF l).map T.sh++[T.sh (.lst (Ew c ([sg],p,B)))]=(QF (l++[(p,B,Ew c ([sg],p,B))])).map T.sh:=by rw[Jj,nH];rfl
     rw[ep];refine lz E.vD.1 rfl (A rfl) rfl (by rw[dm,n6,ae];show l.length+1<=_;lia) (ak (ak (k _ ⟨_,_,_,⟨sf,by rw[n6,wy];lia⟩,?_⟩)));have el:((vc l++[Ka p B l.length]).map T.sh)++[T.sh (Ka (r4 c ([sg],p,B)) (r3 c ([sg],p,B)) (l++[(p,B,Ew c ([sg],p,B))]).length)]=(vc (l++[(p,B,Ew c ([sg],p,B))])++[Ka (r4 c ([sg],p,B)) (r3 c ([sg],p,B)) (l++[(p,B,Ew c ([sg],p,B))]).length]).map T.sh:=by rw[Ji,nH (l₂:=[Ka (r4 c ([sg],p,B)) (r3 c ([sg],p,B)) (l++[(p,B,Ew c ([sg],p,B))]).length])];rfl
     rw[← el];rfl
  case k1=>
  rintro δ ⟨p,B,l,⟨st,v⟩,rfl⟩;refine fK (GH E.u (d1:=Ka p B l.length) (d2:=Ka p B l.length) (aQ (A rfl)) (bY (vL E.vD.1) Qbr (Gs _ _)) (uT ..) (uT ..)).1 (λi=>absurd i (by rw[HA (uT ..)];decide)) (λ_=>ak ?_);exact fK (uo (jE (eW (aQ (jD (aQ (yf Qfd ao ⟨Wp,Wp⟩)) ao Wp)) ao).1 (λ_=>jP (Gz (qx (V st We rfl rfl rfl)))))) (λi=>by rw[oD]at i;cases i.2) (λ_=>ak (ak ⟨p,B,l,_,⟨st,v⟩,rfl⟩))
 case fin=>
  rintro δ ⟨p,B,l,U,⟨st,v⟩,rfl⟩;rw[dm]at v;refine fK (Gz (qx (V st We rfl rfl rfl))) (λi=>by cases i) (λ_=>ak ?_);refine FD E.g (λn δ=>∃(p:Pl) (B:AT) (l:QaD) (o6:Qcd),(Wv c p B l/\l.length=n/\n<=63)/\δ=[some Qha,some Qio,some QfY,some QiB,some Qhg,U,o6]) l.length ⟨p,B,l,_,⟨st,rfl,We⟩,rfl⟩ ?_;clear st v;rintro n δ ⟨p,B,l,o6,⟨st,Y,hn⟩,rfl⟩;have s:=st.rows y;refine⟨_,_,HH (GH E.u (d1:=.lst (QF l)) (d2:=.lst []) (vL E.pT.1) (cA Qhy) (agC λq G=>(s q G).2) YZ).1 (show _=!(QF l).isEmpty by rw[YY]),λi=>?_,λi=>?_⟩
  .obtain rfl|⟨o,q,rfl⟩:=List.eq_nil_or_concat l
   .cases i
   rw[List.concat_eq_append]at st Y s ⊢;obtain⟨R,sg,H,aa⟩:=st.back;have w:=(s q WA).2;rw[n6,wy]at Y;rw[Ji,Jj];obtain⟨rr,Z⟩:=abl c sg q.1 q.2.1;refine g9 E.g E.bT (Bb (p:=[]) (tl:=(QF o).map T.sh) (t:=.sh (.lst q.2.2)) (cD E.pT.1 rfl) rfl (by rw[nH];rfl)) ?_;refine Ng (Bb (p:=[]) (t:=.sh (Ka p B (o++[q]).length)) (cD E.vD.1 rfl) rfl (by rw[nH];rfl)) ?_;refine XZ (Tu (aoA (Nr E.u (RE Qlx _ E.j7 E.jw.1 (.own rfl) (λz _=>by show o.length<=1000;lia) (t:=.lst QfQ) Qbp Qfh QeJ Qbp) (dF _) (aW E.bT) (ju w) (ju w)) (λ_=>(MP (GH E.u (d1:=Ka q.1 q.2.1 o.length) (d2:=Ka q.1 q.2.1 o.length) (aQ (A rfl)) (bY (vL E.vD.1) Qbr (Gs _ _)) (uT ..) (uT ..)).1).m))) (λi=>absurd i (by rw[HA (ju w),HA (uT ..)];decide)) (λ_=>ak ?_);show dW X CL b _ [some Qha,some _,some QfY,some _,some (.lst ((QF o).map T.sh)),U,some (.sh (.lst q.2.2))] _;rw[aa]at w ⊢;have EK:za (Ew c ([sg],q.1,q.2.1)) 0=some (.tup [.str "sign",.str sg]):=by rw[Z];exact fD (j:=0) rfl
   refine XZ (Tu (ajb (Nr E.u (qM (dl:=[.str sg]) (λz=>(z,c,q.1,o,q.2.1,some f,sg)) (.ins "NestRun" (jA c.d (vI (r4 c ([sg],q.1,q.2.1))) _ (r3 c ([sg],q.1,q.2.1)) (C6 (some f)))) E.zH E.jw.1 (.own rfl) (bq (dB (bR (bY (aW E.bT) ao EK) ao HE) rfl) bI) (λz _=>by dsimp only [jg];exact⟨y,R.g,R.b,We⟩) Qbp Qfh QeJ Qbp) (dF _) (aW E.bT) (ju w) (ju w)) (HA (ju w)) (aja (Nr E.u (RE (λz=>(z,c.d,vI (r4 c ([sg],q.1,q.2.1)),o,(q.1,q.2.1,Ew c ([sg],q.1,q.2.1)),r3 c ([sg],q.1,q.2.1),some f)) _ E.j7 E.jw.1 (.own rfl) (λz _=>by show o.length<=1000;lia) Qbp Qfh QeJ Qbp) (dF _) (aW E.bT) (ju w) (ju w))))) (λi=>absurd i (by rw[HA (ju w)];decide)) (λ_=>ak (ak ⟨n-1,We,q.1,q.2.1,o,_,⟨R,We,We⟩,rfl⟩))
  .have K:l=[]:=by
    have:(QF l).isEmpty=true:=by simpa using i
    exact List.map_eq_nil_iff.1 (List.isEmpty_iff.1 this)
   subst K;refine bG (bw (Uv Qkm (λ_=>Uv (MV E.u (d1:=Ka p B 0) (d2:=Ka p B 0) (aQ (A (l:=[]) rfl)) (bY (vL E.vD.1) ao G7) (uT ..) (uT ..)).2 (λ_=>MQ (bw (c_ (c.d,vI p,[],B,f) E.Y0 E.Ca (ah (vE E.jw.1 rfl qO) (ah (aW E.BO) (ah (cA (ds:=[]) Qhy) aS))) ⟨st.st y I C,nZ _⟩ rfl) (t2:=.sh Qbh) rfl)))) (t2:=.sh Qbh) (by rw[AY (uT ..)];rfl)) rfl
def j3:FG amL ["script"] ["NestRun","_law_chart","_law_look","_law_turns","_law_refused","_law_bases","_law_story"] (ai S3):=fG
noncomputable def cl(aA aR av aj au aB aC aH aD aJ aE aq aK aL bB bQ aX:Addr):Str->Addr:=λc=>if c="Chart" then aA else if c="Tree" then aR else if c="Runner" then av else if c="NestRun" then aj else if c="MoodError" then au else if c="BadTree" then aB else if c="BadName" then aC else if c="BadBox" then aH else if c="BadDeed" then aD else if c="BadWay" then aJ else if c="TooWide" then aE else if c="NoStep" then aq else if c="BadRow" then aK else if c="NoName" then aL else if c="#_law_chart.<locals>.<lambda>" then bB else if c="#kept.<locals>.<lambda>" then bQ else if c="#goable.<locals>.<lambda>" then aX else 0
variable{aA aR av aj au aB aC aH aD aJ aE aq aK aL bB bQ aX:Addr}
def Ww:cl aA aR av aj au aB aC aH aD aJ aE aq aK aL bB bQ aX "#_law_chart.<locals>.<lambda>" = bB:=by unfold cl;rw[bF Wl];rw[bF Wl];rw[bF Wl];rw[bF Wl];rw[bF Wl];rw[bF Wl];rw[bF Wl];rw[bF Wl];rw[bF Wl];rw[bF Wl];rw[bF Wl];rw[bF Wl];rw[bF Wl];rw[bF Wl];rw[cq rfl]
def abq:cl aA aR av aj au aB aC aH aD aJ aE aq aK aL bB bQ aX "#kept.<locals>.<lambda>" = bQ:=by unfold cl;rw[bF Wl];rw[bF Wl];rw[bF Wl];rw[bF Wl];rw[bF Wl];rw[bF Wl];rw[bF Wl];rw[bF Wl];rw[bF Wl];rw[bF Wl];rw[bF Wl];rw[bF Wl];rw[bF Wl];rw[bF Wl];rw[bF Wl];rw[cq rfl]
def SQ:cl aA aR av aj au aB aC aH aD aJ aE aq aK aL bB bQ aX "#goable.<locals>.<lambda>" = aX:=by unfold cl;rw[bF Wl];rw[bF Wl];rw[bF Wl];rw[bF Wl];rw[bF Wl];rw[bF Wl];rw[bF Wl];rw[bF Wl];rw[bF Wl];rw[bF Wl];rw[bF Wl];rw[bF Wl];rw[bF Wl];rw[bF Wl];rw[bF Wl];rw[bF Wl];rw[cq rfl]
def agF:cl aA aR av aj au aB aC aH aD aJ aE aq aK aL bB bQ aX "Chart" = aA:=by unfold cl;rw[cq rfl]
def akA:cl aA aR av aj au aB aC aH aD aJ aE aq aK aL bB bQ aX "Tree" = aR:=by unfold cl;rw[bF Wl];rw[cq rfl]
def abr:cl aA aR av aj au aB aC aH aD aJ aE aq aK aL bB bQ aX "Runner" = av:=by unfold cl;rw[bF Wl];rw[bF Wl];rw[cq rfl]
def Wx:cl aA aR av aj au aB aC aH aD aJ aE aq aK aL bB bQ aX "NestRun" = aj:=by unfold cl;rw[bF Wl];rw[bF Wl];rw[bF Wl];rw[cq rfl]
def P7:cl aA aR av aj au aB aC aH aD aJ aE aq aK aL bB bQ aX "MoodError" = au:=by unfold cl;rw[bF Wl];rw[bF Wl];rw[bF Wl];rw[bF Wl];rw[cq rfl]
def Wy:cl aA aR av aj au aB aC aH aD aJ aE aq aK aL bB bQ aX "BadTree" = aB:=by unfold cl;rw[bF Wl];rw[bF Wl];rw[bF Wl];rw[bF Wl];rw[bF Wl];rw[cq rfl]
def Wz:cl aA aR av aj au aB aC aH aD aJ aE aq aK aL bB bQ aX "BadName" = aC:=by unfold cl;rw[bF Wl];rw[bF Wl];rw[bF Wl];rw[bF Wl];rw[bF Wl];rw[bF Wl];rw[cq rfl]
def abt:cl aA aR av aj au aB aC aH aD aJ aE aq aK aL bB bQ aX "BadBox" = aH:=by unfold cl;rw[bF Wl];rw[bF Wl];rw[bF Wl];rw[bF Wl];rw[bF Wl];rw[bF Wl];rw[bF Wl];rw[cq rfl]
def WB:cl aA aR av aj au aB aC aH aD aJ aE aq aK aL bB bQ aX "BadDeed" = aD:=by unfold cl;rw[bF Wl];rw[bF Wl];rw[bF Wl];rw[bF Wl];rw[bF Wl];rw[bF Wl];rw[bF Wl];rw[bF Wl];rw[cq rfl]
def abu:cl aA aR av aj au aB aC aH aD aJ aE aq aK aL bB bQ aX "BadWay" = aJ:=by unfold cl;rw[bF Wl];rw[bF Wl];rw[bF Wl];rw[bF Wl];rw[bF Wl];rw[bF Wl];rw[bF Wl];rw[bF Wl];rw[bF Wl];rw[cq rfl]
def WC:cl aA aR av aj au aB aC aH aD aJ aE aq aK aL bB bQ aX "TooWide" = aE:=by unfold cl;rw[bF Wl];rw[bF Wl];rw[bF Wl];rw[bF Wl];rw[bF Wl];rw[bF Wl];rw[bF Wl];rw[bF Wl];rw[bF Wl];rw[bF Wl];rw[cq rfl]
def abv:cl aA aR av aj au aB aC aH aD aJ aE aq aK aL bB bQ aX "NoStep" = aq:=by unfold cl;rw[bF Wl];rw[bF Wl];rw[bF Wl];rw[bF Wl];rw[bF Wl];rw[bF Wl];rw[bF Wl];rw[bF Wl];rw[bF Wl];rw[bF Wl];rw[bF Wl];rw[cq rfl]
def abw:cl aA aR av aj au aB aC aH aD aJ aE aq aK aL bB bQ aX "BadRow" = aK:=by unfold cl;rw[bF Wl];rw[bF Wl];rw[bF Wl];rw[bF Wl];rw[bF Wl];rw[bF Wl];rw[bF Wl];rw[bF Wl];rw[bF Wl];rw[bF Wl];rw[bF Wl];rw[bF Wl];rw[cq rfl]
def abx:cl aA aR av aj au aB aC aH aD aJ aE aq aK aL bB bQ aX "NoName" = aL:=by unfold cl;rw[bF Wl];rw[bF Wl];rw[bF Wl];rw[bF Wl];rw[bF Wl];rw[bF Wl];rw[bF Wl];rw[bF Wl];rw[bF Wl];rw[bF Wl];rw[bF Wl];rw[bF Wl];rw[bF Wl];rw[cq rfl]
def akB{x:Str}(h:Li x=true)(h0:cl aA aR av aj au aB aC aH aD aJ aE aq aK aL bB bQ aX x≠0):(cl aA aR av aj au aB aC aH aD aJ aE aq aK aL bB bQ aX x,MC x)∈([(bB,"_law_chart.<locals>.<lambda>"),(bQ,"kept.<locals>.<lambda>"),(aX,"goable.<locals>.<lambda>")]:Co):=by
 unfold cl at h0 ⊢;rw[bF (λe=>by rw[e]at h;exact absurd h Wl)]at h0 ⊢;rw[bF (λe=>by rw[e]at h;exact absurd h Wl)]at h0 ⊢;rw[bF (λe=>by rw[e]at h;exact absurd h Wl)]at h0 ⊢;rw[bF (λe=>by rw[e]at h;exact absurd h Wl)]at h0 ⊢;rw[bF (λe=>by rw[e]at h;exact absurd h Wl)]at h0 ⊢;rw[bF (λe=>by rw[e]at h;exact absurd h Wl)]at h0 ⊢;rw[bF (λe=>by rw[e]at h;exact absurd h Wl)]at h0 ⊢;rw[bF (λe=>by rw[e]at h;exact absurd h Wl)]at h0 ⊢;rw[bF (λe=>by rw[e]at h;exact absurd h Wl)]at h0 ⊢;rw[bF (λe=>by rw[e]at h;exact absurd h Wl)]at h0 ⊢;rw[bF (λe=>by rw[e]at h;exact absurd h Wl)]at h0 ⊢;rw[bF (λe=>by rw[e]at h;exact absurd h Wl)]at h0 ⊢;rw[bF (λe=>by rw[e]at h;exact absurd h Wl)]at h0 ⊢;rw[bF (λe=>by rw[e]at h;exact absurd h Wl)]at h0 ⊢;by_cases b:x="#_law_chart.<locals>.<lambda>"
 .rw[cq b,b,show MC ("#_law_chart.<locals>.<lambda>":Str)="_law_chart.<locals>.<lambda>" by decide +kernel];simp
 rw[bF b]at h0 ⊢;by_cases a:x="#kept.<locals>.<lambda>"
 .rw[cq a,a,show MC ("#kept.<locals>.<lambda>":Str)="kept.<locals>.<lambda>" by decide +kernel];simp
 rw[bF a]at h0 ⊢;by_cases c:x="#goable.<locals>.<lambda>"
 .rw[cq c,c,show MC ("#goable.<locals>.<lambda>":Str)="goable.<locals>.<lambda>" by decide +kernel];simp
 rw[bF c]at h0 ⊢;exact absurd rfl h0
theorem all_mk{l:PySem.W.OpenLaw}{w:World}{K:Frag}{h:Heap}{mg:Bn}{T0:BN}{fa kr ep en h8 EC el ek ej P9 ax aw Cb Y3 Fb DZ Fd Qa f_look gC sW kq gz Jl gx gw SR SV mc gv h7 gr Ky h6 ei WG SW Qc gq h5 ar ma gm SX Z Kz dE SY gk WH KC gh dC WK Qd dA l9 KD h4 WL WM gg Cd Jm sX xT KG ag:Addr}(g:K.In h)(G:h.Ns mainGlobals mg)(aa:mg "law" = some (.ref fa))
  {l8 dy du h3 S9 dt dr dq Qe cn cm Qf Y4 Fe D0 Ff Qg dn gd KH l7 gc Jo f7 BQ xC lX tU P1 Jg uZ sH Iv VZ Aj oE vg mj ou SO nu f6 Tc PV sN V7 B4 Px Aq sO PX Wg Az vC Wk DX sS Ja AA AF PY Ce Jp KJ Jq KL T:Qax}
  (f5:TY K "Chart" aA) (hZ:plainGet K aA Str.empty=true) (hY:hasDictIn K aA=true) (hX:plainOver K aA=true) (hW:findIn K Qdw "__setattr__" = some Qeh) (hV:makesIn K aA=true) (hU:keepIn K Qdw=true)
  (t:findIn K Qdw "boxes" = some none)
  (zI:findIn K Qdw "names" = some none)
  (r:findIn K Qdw "tree" = some none)
  (ED:findIn K Qdw "ins" = some none)
  (Cg:findIn K Qdw "outs" = some none)
  (B:findIn K Qdw "ways" = some none)
  (dk:TY K "Tree" aR) (f3:plainGet K aR Str.empty=true) (fT:hasDictIn K aR=true) (fR:plainOver K aR=true) (fI:findIn K (.ref aR) "__setattr__" = some Qeh) (fA:makesIn K aR=true) (fy:keepIn K (.ref aR)=true)
  (C:findIn K (.ref aR) "kinds" = some none)
  (R:findIn K (.ref aR) "elders" = some none)
  (zJ:findIn K (.ref aR) "starts" = some none)
  (hT:TY K "Runner" av) (l6:plainGet K av Str.empty=true) (l5:hasDictIn K av=true) (l4:plainOver K av=true) (l3:findIn K Qdx "__setattr__" = some Qeh) (nc:makesIn K av=true) (m6:keepIn K Qdx=true)
  (nq:findIn K Qdx "place" = some none)
  (nf:findIn K Qdx "past" = some none)
  (nk:findIn K Qdx "boxes" = some none)
  (T7:findIn K Qdx "first_rows" = some none)
  (l2:TY K "NestRun" aj) (WN:plainGet K aj Str.empty=true) (WO:hasDictIn K aj=true) (WQ:plainOver K aj=true) (WR:findIn K Qd8 "__setattr__" = some Qeh) (WT:makesIn K aj=true) (WU:keepIn K Qd8=true)
  (vN:findIn K Qd8 "chart" = some none)
  (D:findIn K Qd8 "place" = some none)
  (M:findIn K Qd8 "past" = some none)
  (z:findIn K Qd8 "boxes" = some none)
  (oF:findIn K Qd8 "first_rows" = some none)
  (Td:TY K "MoodError" au)
  (l1:TY K "BadTree" aB)
  (l0:TY K "BadName" aC)
  (hS:TY K "BadBox" aH)
  (lL:TY K "BadDeed" aD)
  (hR:TY K "BadWay" aJ)
  (lC:TY K "TooWide" aE)
  (hP:TY K "NoStep" aq)
  {lx lr:Str} {Jr:Addr} {ll Mp lj:B2} {lh lb:Bool} {la:At} {WV:Option Bool} {k4:Da} {kA ky kx kv my:Qf8} (mx:K.lookup aq=some (excClassObj lx lr aq Jr ll Mp lh la lj lb WV k4 kA ky kx kv my "ValueError.__new__")) (mv:Wq 2 (nsOkIn K Jr=true)) (mu:nsIn K Jr "__init__" = some none) (mn:Wq 2 (tailIn K XW Mp=true))
  (hO:TY K "BadRow" aK)
  (iw:TY K "NoName" aL)
  (D3:Wq 4 (kitOne K Qa6 (.ref aH)=some false))
  (Ci:Wq 4 (kitOne K Qa6 (.ref aD)=some false))
  (Cj:Wq 4 (kitOne K Qa6 (.ref aC)=some false))
  (D4:Wq 4 (kitOne K Qa6 (.ref aK)=some false))
  (Ck:Wq 4 (kitOne K Qa6 (.ref aB)=some false))
  (D5:Wq 4 (kitOne K Qa6 (.ref aJ)=some false))
  (D6:Wq 4 (kitOne K Qa6 (.ref aL)=some false))
  (Cm:Wq 4 (kitOne K Qa6 (.ref aE)=some false))
  (xU:Wq 4 (kitOne K Qa6 QjI=some true))
  (ml:findIn K Qa6 "__getattribute__" = some QkF) (mi:findIn K Qa6 "__getattr__" = some none) (mf:hasDictIn K aq=true) (me:findIn K Qa6 "__class__" = some (some QcQ)) (md:mroIn K aq (.type "object")=some true) (kf:mroIn K aq Qjp=some true)
  (dj:specialIn K QcQ "__get__" = some (some QgB)) (df:takesIn K QcQ=some true)
  (D7:Wq 5 (exmOne K Qa6 Qa6=some true))
  (zc:Wq 5 (exmOne K Qa6 (.ref au)=some true))
  (ke:mL K "_law_cell_at" Dg kr l8)
  (de:mL K "_law_take" Vy ep dy)
  (dc:mL K "_law_line" Vz en du)
  (iv:mL K "_law_elders" HM h8 h3)
  (rT:T3 K aR "__init__" "Tree.__init__" wJ EC S9)
  (da:mL K "_law_tree" Og el dt)
  (c8:mL K "_law_term" VC ek dr)
  (c5:mL K "_law_deed" VD ej dq)
  (Qh:mL K "_law_some_deeds" pS P9 Qe)
  (cf:mL K "_law_ask" Tb ax cn)
  (cc:mL K "_law_way" Yz aw cm)
  (qg:T3 K aA "__init__" "Chart.__init__" uO Cb Qf)
  (Gg:mL K "_law_chart" F7 Y3 Y4)
  {yX:Addr} {iq:Da} {Te:CO} {ip:Cn} (ik:Wq 1 (Y4.code=.ref yX)) (mT:K.lookup yX=some ⟨.type "code",iq,.fields Te,ip⟩) (mN:Wq 1 (Te[11]? = some (.ref bB))) (Tf:Wq 2 (codeHdIn K yX bB=true)) (ij:Wq 3 (bB≠0)) (ie:Wq 2 (K.lookup bB=none)) (ib:Wq 3 (bB∈T0))
  (Fg:T3 K aj "state" "NestRun.state" oR Fb Fe)
  (D8:T3 K aj "numbers" "Runner.numbers" mY DZ D0)
  (Fi:T3 K aj "moods" "NestRun.moods" oU Fd Ff)
  (Qi:T3 K aj "fed" "Runner.fed" uR Qa Qg)
  (c4:mL K "_law_look" VH f_look dn)
  (fw:mL K "_law_turns" F8 gC gd)
  (k:T3 K aj "back" "Runner.back" nG sW KH)
  (kc:mL K "_law_refused" Dp kq l7)
  (fv:mL K "_law_bases" OS gz gc)
  (Js:T3 K aj "story" "Runner.story" qL Jl Jo)
  (hh:mL K "_law_story" OZ gx f7)
  (hg:mL K "inner" F9 gw BQ)
  (Tg:mL K "opened_in" xA SR xC)
  (O:mL K "opened" Ii SV lX)
  (ka:mL K "in_rows" DG mc tU)
  (hc:mL K "begun" O5 gv P1)
  (ia:mL K "firsts" Ik h7 Jg)
  (hb:mL K "value" O7 gr uZ)
  (KN:mL K "with_number" sF Ky sH)
  (h9:mL K "redone" Im h6 Iv)
  (c3:mL K "done" VW ei VZ)
  (WW:mL K "all_done" Ah WG Aj)
  (Ti:mL K "performed" xG SW oE)
  (Qj:mL K "has_target" ve Qc vg)
  (ha:mL K "above" Pb gq mj)
  (hM:mL K "within" Iz h5 ou)
  (cb:mL K "top" SU ar SO)
  (j4:mL K "way_top" DL ma nu)
  (g5:mL K "depth" Pk gm f6)
  (Tj:mL K "tops_meet" xM SX Tc)
  (Qk:mL K "kept" Pp Z PV)
  {DY:Addr} {g4:Da} {Y5:CO} {g0:Cn} (gN:Wq 1 (PV.code=.ref DY)) (mI:K.lookup DY=some ⟨.type "code",g4,.fields Y5,g0⟩) (mE:Wq 1 (Y5[11]? = some (.ref bQ))) (Y6:Wq 2 (codeHdIn K DY bQ=true)) (ff:Wq 3 (bQ≠0)) (fe:Wq 2 (K.lookup bQ=none)) (fb:Wq 3 (bQ∈T0))
  (KP:mL K "open_leaves" nP Kz sN)
  (c2:mL K "fits" V4 dE V7)
  (Cp:mL K "goable" B3 SY B4)
  {t6:Addr} {j2:Da} {Mq:CO} {j1:Cn} (j0:Wq 1 (B4.code=.ref t6)) (m4:K.lookup t6=some ⟨.type "code",j2,.fields Mq,j1⟩) (m3:Wq 1 (Mq[11]? = some (.ref aX))) (Mr:Wq 2 (codeHdIn K t6 aX=true)) (jB:Wq 3 (aX≠0)) (js:Wq 2 (K.lookup aX=none)) (jj:Wq 3 (aX∈T0))
  (e8:mL K "holds" Pr gk Px)
  (WX:mL K "all_hold" An WH Aq)
  (KQ:mL K "number_asks" sL KC sO)
  (e6:mL K "picks" Py gh PX)
  (c1:mL K "left" PB dC Wg)
  (WY:mL K "all_left" As WK Az)
  (Ql:mL K "remembered" vq Qd vC)
  (cP:mL K "road" Wi dA Wk)
  (i8:mL K "entered" DV l9 DX)
  (KR:mL K "all_entered" sQ KD sS)
  (hL:mL K "heeded" IY h4 Ja)
  (WZ:mL K "out_rows" Av WL AA)
  (W0:mL K "way_rows" Ax WM AF)
  (e5:mL K "moved" Gf gg PY)
  (Cq:T3 K aj "step_at" "NestRun.step_at" mC Cd Ce)
  (Jt:T3 K aj "dealt" "Runner.dealt" q8 Jm Jp)
  (sY:T3 K av "__init__" "Runner.__init__" sU sX KJ)
  (Ju:specialIn K Qdx "__getattribute__" = some Qk3) (Jv:readsIn K av Qh6=true) (Jw:findCls K Qdx Qh6 "__init__" = some (.val (.ref sX)))
  (mH:T3 K aj "__init__" "NestRun.__init__" rj xT Jq)
  (KS:T3 K aj "feed" "Runner.feed" sV KG KL)
  (Tp:mL K "law" S3 ag T)
  (b7:nsIn K mainGlobals "len" = some none)
  (e4:nsIn K mainGlobals "range" = some none)
  (cx:nsIn K mainGlobals "list" = some none)
  (b6:nsIn K mainGlobals "int" = some none)
  (b5:nsIn K mainGlobals "str" = some none)
  (e3:nsIn K mainGlobals "tuple" = some none)
  (hK:nsIn K mainGlobals "sorted" = some none)
  (b4:nsIn K mainGlobals "min" = some none)
  (b0:nsIn K mainGlobals "max" = some none)
  (bx:nsIn K mainGlobals "sum" = some none)
  (Qm:nsIn K mainGlobals "isinstance" = some none)
  (Qn:nsIn K mainGlobals "ValueError" = some none)
  (Tq:nsIn K mainGlobals "enumerate" = some none)
  {hJ:Tok} (eT:nsIn K mainGlobals "AFTER" = some (some (.int 3 hJ)))
  {Y7:Addr} {hI:Da} {Ga:Nat} {hH:Cn} {W2 W3 W4 W5:Tok} (eR:nsIn K mainGlobals "MARKS" = some (some (.ref Y7))) (hG:K.lookup Y7=some ⟨.type "tuple",hI,.seq #[.str "out" W2,.str "keep" W3,.str "way" W4,.str "in" W5] Ga,hH⟩)
  {i5:Tok} (hF:nsIn K mainGlobals "TARGET" = some (some (.int 4 i5)))
  {i4:Tok} (hC:nsIn K mainGlobals "SOURCE" = some (some (.int 0 i4)))
  (bt:nsIn K mainGlobals "any" = some none)
  {eP:Tok} (cw:nsIn K mainGlobals "SIGN" = some (some (.int 1 eP)))
  {eM:Tok} (cv:nsIn K mainGlobals "ASKS" = some (some (.int 2 eM)))
  (W6:nsIn K mainGlobals "reversed" = some none)
  {eJ:Tok} (cp:nsIn K mainGlobals "MODE" = some (some (.int 5 eJ)))
  {hB:Tok} (eI:nsIn K mainGlobals "DEEDS" = some (some (.int 3 hB)))
  {KW:Tok} (Qo:nsIn K mainGlobals "MOST_SIGNS" = some (some (.int 8 KW)))
  (KY:Wq 3 (bQ≠bB)) (Fj:Wq 3 (aX≠bB)) (Jx:Wq 3 (aX≠bQ))
  : ∃(fd:Qax) (ts:Co),(∀p∈ts,p.1∈T0/\ts.lookup p.1=some p.2/\K.lookup p.1=none/\∃c,CodeHd h c p.1)/\(∀(s:Qb) (v:Value),BindsTo s fd ⟨[v],[]⟩ [("script",v)])/\∀base:Heap,K.In base->base.Ns mainGlobals mg->GY mg base->eV l.prog w K mg base mJ 53 fa fd ["script"] (spT K ts 1 yU yV yW):=by
 have e:=aa.symm.trans (ov g G Tp.m);cases e;obtain⟨f,rfl,rfl,rfl,rfl,rfl,rfl,rfl,rfl,rfl,rfl,rfl,rfl,rfl,rfl,rfl,rfl,rfl,ae⟩:∃f:Str->Addr,aA=f "Chart" /\ aR=f "Tree" /\ av=f "Runner" /\ aj=f "NestRun" /\ au=f "MoodError" /\ aB=f "BadTree" /\ aC=f "BadName" /\ aH=f "BadBox" /\ aD=f "BadDeed" /\ aJ=f "BadWay" /\ aE=f "TooWide" /\ aq=f "NoStep" /\ aK=f "BadRow" /\ aL=f "NoName" /\ bB=f "#_law_chart.<locals>.<lambda>" /\ bQ=f "#kept.<locals>.<lambda>" /\ aX=f "#goable.<locals>.<lambda>" /\ ∀x,Li x=true->f x≠0->(f x,MC x)∈([(bB,"_law_chart.<locals>.<lambda>"),(bQ,"kept.<locals>.<lambda>"),(aX,"goable.<locals>.<lambda>")]:Co):=⟨(cl aA aR av aj au aB aC aH aD aJ aE aq aK aL bB bQ aX),agF.symm,akA.symm,abr.symm,Wx.symm,P7.symm,Wy.symm,Wz.symm,abt.symm,WB.symm,abu.symm,WC.symm,abv.symm,abw.symm,abx.symm,Ww.symm,abq.symm,SQ.symm,λx=>akB⟩;have Tr:=rT.binds (ps:=["self","kinds","elders","starts"]) λ_ _ _ _ _ _=>by refine lE ?_;exactλ_ _ _ _=>rfl
 have Qp:=qg.binds (ps:=["self","boxes","names","tree","ins","outs","ways"]) λ_ _ _ _ _ _=>by refine lE ?_;exactλ_ _ _ _ _ _ _=>rfl
 have eH:=ov g G Gg.m;have eF:=Gg.binds (ps:=["script"]) λ_ _ _ _ _ _=>by refine lE ?_;exactλ_=>rfl
 have L:=k.binds (ps:=["self"]) λ_ _ _ _ _ _=>by refine lE ?_;exactλ_=>rfl
 have Tt:=ov g G O.m;have Tv:=O.binds (ps:=["tree","memory","mood","mode"]) λ_ _ _ _ _ _=>by refine lE ?_;exactλ_ _ _ _=>rfl
 have eh:=ov g G Qk.m;have eg:=Qk.binds (ps:=["chart","found"]) λ_ _ _ _ _ _=>by refine lE ?_;exactλ_ _=>rfl
 have hA:=ov g G Cp.m;have hz:=Cp.binds (ps:=["chart","opens","leaf","sign"]) λ_ _ _ _ _ _=>by refine lE ?_;exactλ_ _ _ _=>rfl
 have KZ:=sY.binds (ps:=["self","boxes","place","script"]) λ_ _ _ _ _ _=>by refine lE ?_;exactλ_ _ _ _=>rfl
 have Jy:=mH.binds (ps:=["self","chart"]) λ_ _ _ _ _ _=>by refine lE ?_;exactλ_ _=>rfl
 have mD:=ov g G Tp.m;have mB:=Tp.binds (ps:=["script"]) λ_ _ _ _ _ _=>by refine lE ?_;exactλ_=>rfl
 have eE:=ov g G f5;have aP:jC K (f "Chart"):=⟨hZ,hY,hX,hW⟩;have ee:=ov g G dk;have c6:jC K (f "Tree"):=⟨f3,fT,fR,fI⟩;have hy:=ov g G hT;have mM:jC K (f "Runner"):=⟨l6,l5,l4,l3⟩;have i3:=ov g G l2;have ay:jC K (f "NestRun"):=⟨WN,WO,WQ,WR⟩;have Tw:=ov g G Td;have i2:=ov g G l1;have i1:=ov g G l0;have hx:=ov g G hS;have i0:=ov g G lL;have hu:=ov g G hR;have iV:=ov g G lC;have Jz:=ov g G hP;have iT:wk K (f "NoStep"):=⟨ml,mi,mf,me,dj,df,md,kf⟩;have D9:GZ K (f "NoStep"):=⟨⟨_,_,_,_,_,_,_,_,_,_,_,_,_,_,_,_,mx,mv.1,mu,mn.1⟩⟩;have ht:=ov g G hO;have hq:=ov g G iw;have o:=ri g G b7;have J:=ri g G e4;have n:=ri g G cx;have br:=ri g G b6;have S:=ri g G b5;have Qq:=ri g G e3;have F:=ri g G hK;have bp:=ri g G b4;have bo:=ri g G b0;have bj:=ri g G bx;have Cr:=ri g G Qm;have Qs:=ri g G Qn;have EE:=ri g G Tq;have eD:∃u,mg "AFTER" = some (.int 3 u):=⟨_,ov g G eT⟩;have eC:=ov g G eR;have Ct:∃u,mg "TARGET" = some (.int 4 u):=⟨_,ov g G hF⟩;have JA:∃u,mg "SOURCE" = some (.int 0 u):=⟨_,ov g G hC⟩;have bg:=ri g G bt;have ed:∃u,mg "SIGN" = some (.int 1 u):=⟨_,ov g G cw⟩;have Y:∃u,mg "ASKS" = some (.int 2 u):=⟨_,ov g G cv⟩;have JB:=ri g G W6;have X:∃u,mg "MODE" = some (.int 5 u):=⟨_,ov g G cp⟩;have eA:∃u,mg "DEEDS" = some (.int 3 u):=⟨_,ov g G eI⟩;have Qt:∃u,mg "MOST_SIGNS" = some (.int 8 u):=⟨_,ov g G Qo⟩;refine⟨T,[((f "#_law_chart.<locals>.<lambda>"),"_law_chart.<locals>.<lambda>"),((f "#kept.<locals>.<lambda>"),"kept.<locals>.<lambda>"),((f "#goable.<locals>.<lambda>"),"goable.<locals>.<lambda>")],?tabs,?bind,λbase kb _ bl=>?_⟩
 case tabs=>
  intro p j;simp only[eu,oe,or_false]at j;obtain rfl|rfl|rfl:=j
  .exact⟨ib.1,by simp only[pf,Na],ie.1,yX,Pm g Tf.1⟩
  .exact⟨fb.1,by simp only[pf,Na,beq_false_of_ne KY.1],fe.1,DY,Pm g Y6.1⟩
  .exact⟨jj.1,by simp only[pf,Na,beq_false_of_ne Fj.1,beq_false_of_ne Jx.1],js.1,t6,Pm g Mr.1⟩
 case bind=>
  obtain⟨oc,od,kV,doc,pm,an,gy,ct,TN,rfl,lk,kL⟩:=Tp.ex;exactλs v=>.of_eq rfl
 have q:=@ata l.prog w mg base K h f g G;have qm:=@atb l.prog w mg base K h f g G;have Ea:=q 0 nY n5 n9 ke  uK.1 λd u p=>aaX (by exact⟨u,gL uK 0,gL uK 1,gG uK 0,o⟩) p;have N:=qm 0 lG pre_take lI lH de  F3.1 λd u=>ape (by exact⟨u,gL F3 0,gL F3 1,gL F3 2⟩);have ec:=q 0 HJ HK HL dc  F4.1 λd u p=>apg (by exact⟨u,gL F4 0,gL F4 1,gL F4 2⟩) p;have ho:=q 1 z9 Aa Ab iv  iG.1 λd u p=>afU (by exact⟨u,gL iG 0,gL iG 1,gL iG 2,gL iG 3,gL iG 4,gL iG 5,gG iG 0,gG iG 1,gG iG 2,gG iG 3,J,dD ec d,o,dD Ea d⟩) p;have Tz:eV l.prog w K mg base mJ 1 EC _ ["self","kinds","elders","starts"] (y3 K f "Tree" 4 zo zq zu):=MZ rT.1 iY.1 λgy A outer s H E b a y d j=>by
  obtain⟨I,p1,p2⟩:=a;refine Se ?_ I p1 p2 y j;exact⟨⟨⟨iY.nd,rfl,.never⟩,d.units⟩,gL iY 0,gL iY 1,gL iY 2,gL iY 3,gG iY 0,n,c6,C,R,zJ⟩
 have eb:=q 2 HP HQ HR da  ajP λd u p=>apn (by exact⟨u,rX iA 0,rX iA 1,rX iA 2,A7 iA 3,cE iA 3 rfl,rX iA 4,rX iA 5,A7 iA 6,cE iA 6 rfl,rX iA 7,rK iA 8,rK iA 9,rK iA 10,rK iA 11,rK iA 12,rK iA 13,dD ho d,J,o,dD Ea d,br,⟨⟨_,_,_,⟨fA,rT.a,rT.i,fy⟩,Tz,ee,Tr⟩,d.mono Wp⟩⟩) p;have V:=qm 1 Bt wM wO wL c8  yz.1 λd u=>apq (by exact⟨u,gL yz 0,gL yz 1,gL yz 2,gL yz 3,gG yz 0,⟨N,d.mono Wp⟩⟩);have U:=qm 2 Bu Bw By Bv c5  nF.1 λd u=>aps (by exact⟨u,gL nF 0,gL nF 1,gL nF 2,gL nF 3,gL nF 4,gG nF 0,gG nF 1,gG nF 2,gG nF 3,⟨N,d.mono Wp⟩,⟨V,d.mono Wp⟩,S,o⟩);have Qu:=q 3 qD qE qF Qh  J9 λd u p=>Ol (by exact⟨u,rX d8 0,A7 d8 1,cE d8 1 rfl,A7 d8 2,cE d8 2 rfl,A7 d8 3,cE d8 3 rfl,rK d8 4,rK d8 5,rK d8 6,Qq,J,⟨N,d.mono Wp⟩,⟨U,d.mono Wp⟩⟩) p;have bc:=qm 2 Om Oq Ot Oo cf  wR.1 λd u=>atQ (by exact⟨u,gL wR 0,gL wR 1,gL wR 2,gL wR 3,gL wR 4,gG wR 0,gG wR 1,⟨N,d.mono Wp⟩,⟨V,d.mono Wp⟩⟩);have ba:=q 3 Ou Ov Ow cc  apv λd u p=>atV (by exact⟨u,rX gF 0,A7 gF 1,cE gF 1 rfl,A7 gF 2,cE gF 2 rfl,A7 gF 3,cE gF 3 rfl,rX gF 4,A7 gF 5,cE gF 5 rfl,A7 gF 6,cE gF 6 rfl,A7 gF 7,cE gF 7 rfl,rX gF 8,rX gF 9,rX gF 10,rX gF 11,rX gF 12,rK gF 13,rK gF 14,rK gF 15,rK gF 16,o,⟨N,d.mono Wp⟩,J,Qq,⟨bc,d.mono Wp⟩,⟨U,d.mono Wp⟩⟩) p;have Qv:eV l.prog w K mg base mJ 1 Cb _ ["self","boxes","names","tree","ins","outs","ways"] (y3 K f "Chart" 7 wV wW wX):=MZ qg.1 ef.1 λgy A outer s H E b a y d j=>by
  obtain⟨I,p1,p2,P,p4,p5⟩:=a;refine OB ?_ I p1 p2 P p4 p5 y j;exact⟨⟨⟨ef.nd,rfl,.never⟩,d.units⟩,gL ef 0,gL ef 1,gL ef 2,gL ef 3,gL ef 4,gL ef 5,gL ef 6,gG ef 0,n,aP,ay,t,z,zI,r,ED,Cg,B⟩
 have ez:eV l.prog w K mg base mJ 5 Y3 _ ["script"] (Q6 K f 1 yF yG yH):=GX Gg.1 Sg λgy A outer s H E b a kL d j=>by
  refine ajV ?_ j;exact⟨⟨⟨Sg.nd,rfl,.never⟩,d.units⟩,A7 cU 0,cE cU 0 rfl,rX cU 1,A7 cU 2,cE cU 2 rfl,rX cU 3,A7 cU 4,cE cU 4 rfl,rX cU 5,A7 cU 6,cE cU 6 rfl,A7 cU 7,cE cU 7 rfl,rX cU 8,rX cU 9,rX cU 10,rX cU 11,rX cU 12,rK cU 13,rK cU 14,rK cU 15,rK cU 16,rK cU 17,rK cU 18,rK cU 19,dD Ea d,⟨N,d.mono Wp⟩,dD eb d,o,J,⟨⟨_,_,_,⟨hV,qg.a,qg.i,hU⟩,Qv,eE,Qp⟩,d.mono Wp⟩,F,S,dD Qu d,dD ba d,c6,C,R,RL bl kb kL ik.1 (Tf.1) (ij.1),Nk d,d⟩
 have ey:=XT ez eH Gg.kp eF;have Fl:=LJ l.prog w mg base f 0 lM lN lO Fg  mX.1 λd u p=>E4 (by exact⟨u,gL mX 0,gG mX 0,n,aP,ay,t,z,D⟩) p;have Ec:=LJ l.prog w mg base f 0 kU kW kX D8  lP.1 λd u p=>Dj (by exact⟨u,gL lP 0,gG lP 0,n,aP,ay,t,z⟩) p;have Fo:=LJ l.prog w mg base f 0 lQ lR lS Fi  m5.1 λd u p=>E6 (by exact⟨u,gL m5 0,gG m5 0,n,ay,D⟩) p;have Qw:=LJ l.prog w mg base f 0 qI qJ qK Qi  su.1 λd u p=>OI (by exact⟨u,gL su 0,gG su 0,o,ay,M⟩) p;have ea:=q 1 HX HY HZ c4  YG.1 λd u p=>apC (by exact⟨u,gL YG 0,⟨Fl,d.mono Wp,ay⟩,⟨Ec,d.mono Wp,ay⟩,⟨Fo,d.mono Wp,ay⟩,⟨Qw,d.mono Wp,ay⟩⟩) p;have ew:=q 0 Dl Dm yI fw  af5 λd u p=>ajZ (by exact⟨u,A7 jM 0,cE jM 0 rfl,A7 jM 1,cE jM 1 rfl,A7 jM 2,cE jM 2 rfl,rX jM 3,rK jM 4,rK jM 5,rK jM 6,rK jM 7,bp,bo,o,J,bj⟩) p;have sZ:eV l.prog w K mg base mJ 1 sW _ ["self"] (sx K f 1 gO i9 ja gP):=M8 k.1 cV.1 (λa j=>by
  obtain⟨I,p1,p2,P,p4,p5,p6⟩:=a;dsimp only [gO,gP]
  repeat (first|exact trivial|refine⟨rfl,?_⟩)) λgy A outer s H E b a d j=>by
  refine Kc ?_ _ j;exact⟨⟨⟨cV.nd,rfl,.never⟩,d.units⟩,gL cV 0,gL cV 1,gG cV 0,gG cV 1,o,Jz,D9,aP,ay,D,t,z,M⟩
 have rB:eV l.prog w K mg base (Kj l.prog w) 1 sW _ ["self"] (NG K f 1 gV gW gX):=aor k.1 cV.1 λgy A outer s H E b a d j hE=>by
  obtain⟨I,p1,p2,P⟩:=a;refine Ie ?_ I p1 p2 P j hE;exact⟨⟨⟨cV.nd,rfl,aiX rfl rfl⟩,d.units⟩,gL cV 0,gL cV 1,gG cV 0,gG cV 1,o,Jz,D9,aP,ay,D,t,z,M⟩
 have ko:=q 1 w9 xg xh kc  uV.1 λd u p=>aa1 (by exact⟨u,gL uV 0,gL uV 1,gG uV 0,Jz,D9,⟨⟨_,_,_,⟨k.a,k.i,k.kp⟩,rB,L⟩,d.mono Wp,ay⟩,⟨⟨_,_,_,⟨k.a,k.i,k.kp⟩,sZ,L⟩,d.mono Wp,ay⟩,rfl,rfl,rfl,D7.1⟩) p;have er:=q 1 Dt Du Dv fv  gH.1 λd u p=>aj1 (by exact⟨u,gL gH 0,gL gH 1,gL gH 2,gG gH 0,gG gH 1,gG gH 2,gG gH 3,gG gH 4,gG gH 5,gG gH 6,gG gH 7,gG gH 8,gG gH 9,gG gH 10,Tw,Cr,Qs,i2,i1,hx,i0,hu,iV,ht,hq,⟨⟨_,_,_,⟨k.a,k.i,k.kp⟩,rB,L⟩,d.mono Wp,ay⟩,⟨⟨_,_,_,⟨k.a,k.i,k.kp⟩,sZ,L⟩,d.mono Wp,ay⟩,rfl,rfl,rfl,zc.1,rfl,rfl,D3.1,Ci.1,Cj.1,D4.1,Ck.1,D5.1,D6.1,Cm.1,xU.1,iT⟩) p;have xW:=LJ l.prog w mg base f 0 jQ jR jS Js  jb.1 λd u p=>Ih (by exact⟨u,gL jb 0,gL jb 1,gL jb 2,gG jb 0,n,ay,M,oF⟩) p;have fu:=q 1 DE DF yJ hh  lW.1 λd u p=>aj3 (by exact⟨u,gL lW 0,gL lW 1,gL lW 2,gL lW 3,gL lW 4,gL lW 5,gG lW 0,gG lW 1,n,Cr,⟨xW,d.mono Wp,ay⟩⟩) p;have Y8:=q 0 yK ql yL hg  aga λd u p=>aj5 (by exact⟨u,rX BP 0,A7 BP 1,cE BP 1 rfl,rK BP 2,EE,c6,R⟩) p;have TF:=q 1 sC sE nJ Tg  iZ.1 λd u p=>Sj (by exact⟨u,gL iZ 0,gL iZ 1,gL iZ 2,gL iZ 3,gL iZ 4,gG iZ 0,dD Y8 d,c6,C,zJ⟩) p;have kn:∀dd,eV l.prog w K mg base mJ (3+dd) SV lX ["tree","memory","mood","mode"] (Q6 K f 4 qQ (kY dd) m7):=by
  intro dd
  induction dd using Nat.strongRecOn with
  | ind dd ih=>
   rw[show 3+dd=(2+dd)+1 by lia];exact Fy O.1 iH.1 λgy A outer s H E b a d j=>by
    refine agc (dd:=dd) ?_ j;exact⟨⟨⟨iH.nd,rfl,.never⟩,d.units⟩,gL iH 0,gL iH 1,gL iH 2,gL iH 3,gL iH 4,gL iH 5,gL iH 6,gG iH 0,gG iH 1,dD TF d We,λd' hd=>⟨⟨_,_,_,ih d' hd,Tt,O.kp,Tv⟩,d.mono We⟩⟩
 have hn:=kn 40;have TH:=XT hn Tt O.kp Tv;have Ms:=q 0 rN oi oj ka  qR.1 λd u p=>abf (by exact⟨u,gL qR 0,gL qR 1,gL qR 2,gL qR 3,aP,ED⟩) p;have ft:=q 43 DI DJ yM hc  qS.1 λd u p=>aj8 (by exact⟨u,gL qS 0,gL qS 1,gL qS 2,gG qS 0,gG qS 1,gG qS 2,o,dD TH d,dD Ms d,aP,r,zI⟩) p;have hl:=q 0 Ad uX uY ia  Mh.1 λd u p=>age (by exact⟨u,gL Mh 0,aP,ay,t,z⟩) p;have Y9:=q 0 yN tV yO hb  xD.1 λd u p=>aka (by exact⟨u,gL xD 0,gL xD 1,gL xD 2,gL xD 3⟩) p;have K0:=q 0 oX oY kC KN  iI.1 λd u p=>Ke (by exact⟨u,gL iI 0,gL iI 1,gL iI 2,gL iI 3,gG iI 0,n⟩) p;have hk:=q 1 Ae Af Ag h9  tW.1 λd u p=>agh (by exact⟨u,gL tW 0,gL tW 1,gG tW 0,gG tW 1,dD K0 d,eD⟩) p;have d6:=q 2 Iq Ir Iu c3  u9.1 λd u p=>apG (by exact⟨u,gL u9 0,gL u9 1,gL u9 2,gL u9 3,gG u9 0,gG u9 1,dD Y9 d,dD hk d⟩) p;have W7:=q 3 vd pU pV WW  gu.1 λd u p=>V0 (by exact⟨u,gL gu 0,gL gu 1,gL gu 2,gL gu 3,gL gu 4,gL gu 5,gL gu 6,gG gu 0,gG gu 1,n,dD d6 d⟩) p;have EF:=q 4 j8 ji nK Ti  eK.1 λd u p=>Sw (by exact⟨u,gL eK 0,gL eK 1,gL eK 2,gL eK 3,gL eK 4,gL eK 5,gL eK 6,gG eK 0,gG eK 1,gG eK 2,n,axA eC hG,dD W7 d⟩) p;have Cu:=q 0 lZ iJ mh Qj  nL.1 λd u p=>Pa (by exact⟨u,gL nL 0,gL nL 1,gG nL 0,Ct,aP,B⟩) p;have Cv:=q 0 m8 m9 ng ha  xJ.1 λd u p=>ake (by exact⟨u,gL xJ 0,gL xJ 1,gL xJ 2,gL xJ 3,c6,R⟩) p;have Cw:=q 1 nh ni nj hM  tX.1 λd u p=>agl (by exact⟨u,gL tX 0,gL tX 1,gL tX 2,gG tX 0,dD Cv d⟩) p;have aT:=q 2 Ph Pj Gb cb  Ak.1 λd u p=>auf (by exact⟨u,gL Ak 0,gL Ak 1,gL Ak 2,gL Ak 3,gG Ak 0,gG Ak 1,dD Cv d,dD Cw d,c6,C⟩) p;have Ed:=q 3 oz k9 oA j4  kZ.1 λd u p=>abh (by exact⟨u,gL kZ 0,gL kZ 1,gL kZ 2,gG kZ 0,gG kZ 1,gG kZ 2,dD aT d,JA,Ct,aP,B,r⟩) p;have fo:=q 1 DN yP DP g5  xK.1 λd u p=>akg (by exact⟨u,gL xK 0,gL xK 1,gG xK 0,gG xK 1,o,dD Cv d⟩) p;have TJ:=q 2 sI nM nO Tj  mq.1 λd u p=>Sz (by exact⟨u,gL mq 0,gL mq 1,gL mq 2,gG mq 0,dD Cw d⟩) p;have d5:eV l.prog w K mg base mJ 5 Z _ ["chart","found"] (Q6 K f 2 BV BW BX):=GX Qk.1 YT λgy A outer s H E b a kL d j=>by
  refine apK ?_ j;exact⟨⟨⟨YT.nd,rfl,.never⟩,d.units⟩,A7 kD 0,cE kD 0 rfl,rX kD 1,rX kD 2,rX kD 3,rX kD 4,A7 kD 5,cE kD 5 rfl,rK kD 6,rK kD 7,rK kD 8,rK kD 9,F,dD Cu d,dD Ed d,bg,dD fo d,JA,dD TJ d,aP,r,B,RL bl kb kL gN.1 (Y6.1) (ff.1),Nk d,d⟩
 have d4:=XT d5 eh Qk.kp eg;have K1:=q 0 oZ o9 kE KP  IE λd u p=>Kh (by exact⟨u,A7 qT 0,cE qT 0 rfl,rX qT 1,aP,c6,C,r⟩) p;have d3:=q 0 IG II BZ c2  Ge.1 λd u p=>apM (by exact⟨u,gL Ge 0,gL Ge 1,gL Ge 2⟩) p;have hj:eV l.prog w K mg base mJ 2 SY _ ["chart","opens","leaf","sign"] (Q6 K f 4 Al Am qU):=GX Cp.1 Mj λgy A outer s H E b a kL d j=>by
  refine ags ?_ j;exact⟨⟨⟨Mj.nd,rfl,.never⟩,d.units⟩,A7 dP 0,cE dP 0 rfl,rX dP 1,rX dP 2,rX dP 3,rX dP 4,rX dP 5,rX dP 6,A7 dP 7,cE dP 7 rfl,rK dP 8,rK dP 9,rK dP 10,rK dP 11,rK dP 12,rK dP 13,rK dP 14,dD Cv d,EE,ed,JA,dD d3 d,Y,F,aP,B,r,RL bl kb kL j0.1 (Mr.1) (jB.1),Nk d,d⟩
 have hN:=XT hj hA Cp.kp hz;have fl:=q 1 DQ DR DS e8  qV.1 λd u p=>akj (by exact⟨u,gL qV 0,gL qV 1,gL qV 2,gL qV 3,gL qV 4,gG qV 0,dD Y9 d⟩) p;have W8:=q 2 vj vm pY WX  oB.1 λd u p=>Wb (by exact⟨u,gL oB 0,gL oB 1,gL oB 2,gG oB 0,dD fl d⟩) p;have K2:=q 0 pe pA pB KQ  jO.1 λd u p=>Km (by exact⟨u,gL jO 0,gL jO 1,gG jO 0,gG jO 1,Qq,Y,aP,B⟩) p;have fk:=q 3 DT DU yQ e6  iK.1 λd u p=>akm (by exact⟨u,gL iK 0,gL iK 1,gL iK 2,gL iK 3,gL iK 4,gL iK 5,gL iK 6,gG iK 0,gG iK 1,gG iK 2,gG iK 3,gG iK 4,dD K1 d,dD hN d,dD W8 d,dD K2 d,n⟩) p;have d0:=q 2 IQ IU IV c1  ako λd u p=>apT (by exact⟨u,A7 yR 0,cE yR 0 rfl,rX yR 1,A7 yR 2,cE yR 2 rfl,rK yR 3,JB,dD Cw d⟩) p;have W9:=q 4 vp pZ p9 WY  gY.1 λd u p=>Wh (by exact⟨u,gL gY 0,gL gY 1,gL gY 2,gL gY 3,gL gY 4,gG gY 0,gG gY 1,gG gY 2,dD d0 d,dD Ed d,F,aP,r⟩) p;have Qx:=q 0 qW mz qX Ql  fE.1 λd u p=>PD (by exact⟨u,gL fE 0,gL fE 1,gL fE 2,gL fE 3,gL fE 4,gL fE 5,gL fE 6,gG fE 0,n,c6,R,C⟩) p;have dV:=q 1 IX B6 xO cP  qb.1 λd u p=>apW (by exact⟨u,gL qb 0,gL qb 1,gL qb 2,gL qb 3,gL qb 4,gG qb 0,gG qb 1,gG qb 2,dD Cv d,n,JB⟩) p;have km:=q 43 rP rQ rR i8  eL.1 λd u p=>abj (by exact⟨u,gL eL 0,gL eL 1,gL eL 2,gL eL 3,gL eL 4,gL eL 5,gL eL 6,gL eL 7,gL eL 8,gG eL 0,gG eL 1,gG eL 2,gG eL 3,dD dV d,dD TH d,dD Y8 d,F,c6,C⟩) p;have K3:=q 44 kF jc kG KR  cX.1 λd u p=>Kq (by exact⟨u,gL cX 0,gL cX 1,gL cX 2,gL cX 3,gL cX 4,gL cX 5,gG cX 0,gG cX 1,gG cX 2,gG cX 3,gG cX 4,dD km d,dD Ed d,Ct,X,F,aP,B,r⟩) p;have TL:=q 2 vv qY qZ hL  ny.1 λd u p=>agy (by exact⟨u,gL ny 0,gL ny 1,gL ny 2,gG ny 0,gG ny 1,gG ny 2,X,Ct,dD Cw d,aP,c6,B,C,r⟩) p;have Xa:=q 3 vz qc qd WZ  iR.1 λd u p=>Wn (by exact⟨u,gL iR 0,gL iR 1,gL iR 2,gL iR 3,gL iR 4,gL iR 5,gG iR 0,dD TL d,aP,Cg⟩) p;have Xb:=q 0 vA qe qf W0  lg.1 λd u p=>Wr (by exact⟨u,gL lg 0,gL lg 1,gL lg 2,gL lg 3,gG lg 0,eA,aP,B⟩) p;have fg:=q 45 yS yT t7 e5  agz λd u p=>aks (by exact⟨u,A7 fh 0,cE fh 0 rfl,rX fh 1,rX fh 2,rX fh 3,rX fh 4,A7 fh 5,cE fh 5 rfl,rX fh 6,rX fh 7,rX fh 8,rK fh 9,rK fh 10,rK fh 11,rK fh 12,rK fh 13,rK fh 14,rK fh 15,dD W9 d,dD Qx d,dD K3 d,dD Xa d,dD Xb d,dD Ms d,F,dD Cu d,dD TL d,aP,r⟩) p;have Cy:=LJ l.prog w mg base f 46 jY iB jZ Cq  cT.1 λd u p=>B8 (by exact⟨u,gL cT 0,gL cT 1,gL cT 2,gL cT 3,gL cT 4,gG cT 0,gG cT 1,gG cT 2,dD d4 d,dD fk d,dD fg d,aP,ay,D,vN,t,z⟩) p;have xX:=aeX l.prog w mg base f 47 iL iN iO iM Jt  cj.1 λd u=>Je (by exact⟨u,gL cj 0,gL cj 1,gL cj 2,gL cj 3,gL cj 4,gL cj 5,gL cj 6,gL cj 7,gG cj 0,gG cj 1,gG cj 2,gG cj 3,n,Qt,dD EF d,o,⟨Cy,d.mono Wp,ay⟩,aP,ay,D,t,z⟩);have K4:eV l.prog w K mg base mJ 49 sX _ ["self","boxes","place","script"] (sx K f 4 je pC kH jf):=M8 sY.1 fN.1 (λa j=>by
  obtain⟨I,p1,p2,P,p4⟩:=a;dsimp only [je,jf]
  repeat (first|exact trivial|refine⟨rfl,?_⟩)) λgy A outer s H E b a d j=>by
  refine Ku ?_ _ j;exact⟨⟨⟨fN.nd,rfl,.never⟩,d.units⟩,gL fN 0,gL fN 1,gL fN 2,gL fN 3,gL fN 4,gG fN 0,dD EF d,⟨xX,d.mono Wp,ay⟩,aP,ay,D,M,t,z,oF⟩
 have JC:eV l.prog w K mg base mJ 51 xT _ ["self","chart"] (y3 K f "NestRun" 2 t8 t9 ua):=MZ mH.1 eS.1 λgy A outer s H E b a y d j=>by
  refine Jh ?_ a y j;exact⟨⟨⟨eS.nd,rfl,.never⟩,d.units⟩,gL eS 0,gL eS 1,gL eS 2,gG eS 0,gG eS 1,gG eS 2,dD ft d,dD hl d,⟨⟨_,_,_,⟨Ju,Jv,Jw,sY.kp⟩,K4,hy,KZ⟩,d.mono Wp⟩,ay,vN⟩
 have K5:=aeX l.prog w mg base f 48 kI jg kK kJ KS  gI.1 λd u=>Kx (by exact⟨u,gL gI 0,gL gI 1,gL gI 2,gL gI 3,gL gI 4,gG gI 0,n,⟨xX,d.mono Wp,ay⟩,aP,ay,D,t,z,M⟩);have aI:eV l.prog w K mg base mJ 53 _ _ ["script"] (Q6 K f 1 yU yV yW):=Fy Tp.1 j3.1 λgy A outer s H E b a d j=>by
  refine aut ?_ j;exact⟨⟨⟨j3.nd,rfl,.never⟩,d.units⟩,gL j3 0,gL j3 1,gL j3 2,gL j3 3,gL j3 4,gL j3 5,gL j3 6,gG j3 0,gG j3 1,gG j3 2,gG j3 3,gG j3 4,gG j3 5,gG j3 6,⟨⟨_,_,_,⟨WT,mH.a,mH.i,WU⟩,JC,i3,Jy⟩,d.mono Wp⟩,dD ey d,dD ea d,dD ew d,dD ko d,dD er d,dD fu d,⟨xW,d.mono Wp,ay⟩,⟨⟨_,_,_,⟨k.a,k.i,k.kp⟩,rB,L⟩,d.mono Wp,ay⟩,⟨⟨_,_,_,⟨k.a,k.i,k.kp⟩,sZ,L⟩,d.mono Wp,ay⟩,⟨K5,d.mono Wp,ay⟩⟩
 exact aI.imp (aiT Qdb Qdb ae)
def walk{l:PySem.W.OpenLaw}{q:Qak}{loose:At}{v:Bn->Heap->Prop}{e:Qj1}{d:DefRec}{K:Params->Frag}{T0:BN}(j:l.most=some 63)(b:Qka)
  (o:∀(w:World) (h:Heap),e w h->(K w.params).In h) (r:∀(w:World) (h:Heap),e w h->∀P∈T0,h.get? P=some (tabObj #[]))
  (F:∀(w:World) (mg:Bn) (g:Addr) (h:Heap),(K w.params).In h->h.Ns mainGlobals mg->mg d.name=some (.ref g) →
   ∃(fd:Qax) (ts:Co),(∀p∈ts,p.1∈T0/\ts.lookup p.1=some p.2/\(K w.params).lookup p.1=none/\∃c,CodeHd h c p.1)/\(∀(s:Qb) (u:Value),BindsTo s fd ⟨[u],[]⟩ [("script",u)])/\∀base:Heap,(K w.params).In base->base.Ns mainGlobals mg->GY mg base->eV l.prog w Qf5 mg base mJ 53 g fd ["script"] (spT Qf5 ts 1 yU yV yW)) :
  PySem.W.WalkO q loose v e l.row.toRowW d [] QiY:=
 aej (n:=63) (k:=53) (x:="script") (sp:=λw ts=>spT Qf5 ts 1 yU yV yW) j Wp b ⟨rfl,Wp,Wp⟩ o r F (λ_ _ _ a ns m t i=>aiU rfl m rfl t i)
end Law
end
namespace PySem.W.Fast
def tw10069718349227133015:=0
def tw10133557780448528236:=0
def tw10176999017331737430:=0
def tw10213835771371122899:=0
def tw10228865595242894327:=0
def tw10254791924311155063:=0
def tw10259766691849041389:=0
def tw10399342616607435004:=0
def tw10523273416440467240:=0
def tw10532861618364855474:=0
def tw10543408088858312561:=0
def tw1066347291581248141:=0
def tw10692193373754808344:=0
def tw10712155688557814741:=0
def tw10763797359520586627:=0
def tw10799385887984286463:=0
def tw10883338140328775775:=0
def tw11019498191722122933:=0
def tw11026224573585261966:=0
def tw11092058754537020325:=0
def tw11132216773770239746:=0
def tw11178164484345174326:=0
def tw11420334166719086252:=0
def tw11459762999749787633:=0
def tw11463968790615111612:=0
def tw11495933254301349964:=0
def tw11582488760474925730:=0
def tw11583993243169998135:=0
def tw11586322638950038947:=0
def tw11693639158187521595:=0
def tw11744686742607068774:=0
def tw11805345292553591380:=0
def tw11860640640564815569:=0
def tw11979450920900591089:=0
def tw11983980577766933773:=0
def tw1221005972050415988:=0
def tw12266475930892104386:=0
def tw1246647413178804736:=0
def tw12470932281241941285:=0
def tw12490697385737821917:=0
def tw12494307095833021767:=0
def tw12532689836587411584:=0
def tw12534113714215820121:=0
def tw12592481451518769341:=0
def tw12604727883428202:=0
def tw12713466397779758080:=0
def tw12807508955865791187:=0
def tw12907160039524811879:=0
def tw1293023821593659598:=0
def tw12975443092023618305:=0
def tw13049946795505056123:=0
def tw13065588713482131873:=0
def tw13092639398820765611:=0
def tw13108254762880698615:=0
def tw13221733738812393038:=0
def tw13299331210230877605:=0
def tw13356297195800151233:=0
def tw1338231786324436725:=0
def tw13407599084680858970:=0
def tw13432940137610808784:=0
def tw13435731577488193805:=0
def tw13445252820946926251:=0
def tw13453676453359872557:=0
def tw13454076329700795910:=0
def tw13661599260573577211:=0
def tw1367627179307431074:=0
def tw1373393495255066377:=0
def tw13735006793735324324:=0
def tw13782926248634230992:=0
def tw13815529148318224214:=0
def tw13822578500804481644:=0
def tw13857369312045318149:=0
def tw13866497236748396472:=0
def tw13879485387956712543:=0
def tw13894352396346182176:=0
def tw1391486153883497082:=0
def tw13941433560596249541:=0
def tw13943240962669617455:=0
def tw1398677361427942723:=0
def tw14058251698339336039:=0
def tw14223930350441251868:=0
def tw14453202178841702055:=0
def tw14455698501656007785:=0
def tw14514356789548027293:=0
def tw1453195036667274868:=0
def tw1456845406106209276:=0
def tw14569261336133709166:=0
def tw14756824786272971895:=0
def tw14852266931514632628:=0
def tw14878357100605261634:=0
def tw15064786753238600847:=0
def tw15207090187238070922:=0
def tw15216729523048177788:=0
def tw15236600303942667177:=0
def tw15239600117273754565:=0
def tw15339857899153208023:=0
def tw15350523364200262634:=0
def tw15498783643286971880:=0
def tw15588369584422280216:=0
def tw15620156682175141476:=0
def tw15677877233277030291:=0
def tw15682678387770083149:=0
def tw15742230155138339221:=0
def tw15885687879954656367:=0
def tw15925715469768119433:=0
def tw15929601165078587509:=0
def tw16049515192792037451:=0
def tw1610317168108271755:=0
def tw16160751764642961479:=0
def tw16163592099958015792:=0
def tw16205395880529554803:=0
def tw16254939115189890383:=0
def tw16311521791628233868:=0
def tw16312914149844223118:=0
def tw16329530437405499368:=0
def tw16457889389224859263:=0
def tw16492335438342358246:=0
def tw16591114878791268346:=0
def tw16636254057902207432:=0
def tw16710312487196055948:=0
def tw16723459565682657054:=0
def tw16733657320432463249:=0
def tw16977233802935857751:=0
def tw17008907855372919866:=0
def tw1701061390009412380:=0
def tw1704541461640820383:=0
def tw17173964085913529950:=0
def tw1718739231368758151:=0
def tw17340744265608836058:=0
def tw17360093796224741748:=0
def tw17427767380697345204:=0
def tw17442803973535100765:=0
def tw17528330609772027118:=0
def tw17604128950694322854:=0
def tw17734006693838197494:=0
def tw17752112760967450828:=0
def tw17776616397360246000:=0
def tw17896458271777751402:=0
def tw18014298354735795121:=0
def tw18049039449757946114:=0
def tw18169422911295395552:=0
def tw18292426390027238300:=0
def tw18365027695934269786:=0
def tw18374610213920417963:=0
def tw18375445474146687915:=0
def tw18384114306711478829:=0
def tw184390215223293239:=0
def tw1847572611496075476:=0
def tw1957504790883438024:=0
def tw2034317989799814437:=0
def tw215391082155970292:=0
def tw2164285210464308888:=0
def tw2235534783315989081:=0
def tw229955948682977909:=0
def tw2307162130929099846:=0
def tw2316577005385761004:=0
def tw232235477439043640:=0
def tw2371067790811834867:=0
def tw2446515584346335737:=0
def tw2461228719404573342:=0
def tw250351803488808616:=0
def tw262750014311246200:=0
def tw2667771071193098034:=0
def tw2737059197245177776:=0
def tw2748871421849514754:=0
def tw2757859014994539880:=0
def tw2774746793540493564:=0
def tw2830343616781883723:=0
def tw2879642391485364610:=0
def tw2901713681154152048:=0
def tw2979220748485137945:=0
def tw3002610644130664592:=0
def tw3005530080384652394:=0
def tw3061096047579893809:=0
def tw3064336149884870984:=0
def tw3122746615959818786:=0
def tw3198931943117260081:=0
def tw3205704197647200720:=0
def tw3207188411036357761:=0
def tw3232438831167559030:=0
def tw3338253993007265303:=0
def tw3466470737912862118:=0
def tw349971880387112433:=0
def tw3511998643017183257:=0
def tw3610150888448850105:=0
def tw3628122501282227554:=0
def tw3653071840832391301:=0
def tw3691260641355180974:=0
def tw377162967777129718:=0
def tw3817381200664914026:=0
def tw3866467780577986938:=0
def tw3941601154890055834:=0
def tw3983694148346375942:=0
def tw4055059897731151862:=0
def tw4094160361045388035:=0
def tw4145830185637545073:=0
def tw4206024068613580042:=0
def tw4220248850805721764:=0
def tw4253929761547092587:=0
def tw4317942133384835137:=0
def tw4364484142014465106:=0
def tw4445560470129881642:=0
def tw4480134950692245606:=0
def tw4500339836266444736:=0
def tw4611285876818686725:=0
def tw4730463574783914747:=0
def tw4742588052142990868:=0
def tw4860630565640855448:=0
def tw4868202720285013972:=0
def tw4942876624811395409:=0
def tw522595427291067810:=0
def tw5240400919817816433:=0
def tw5397280700344518523:=0
def tw5419142243408267313:=0
def tw5450998880323944518:=0
def tw5478817462977680510:=0
def tw5484043124811395236:=0
def tw5497616564284119558:=0
def tw5544031325577448091:=0
def tw5627800409685428508:=0
def tw5662835593926262284:=0
def tw5686354561541006742:=0
def tw5692263117771342764:=0
def tw5728854533022843560:=0
def tw5766810107358854485:=0
def tw5837975811899118774:=0
def tw5972215868852086890:=0
def tw6099141012080002624:=0
def tw6118810314026416130:=0
def tw6200796267284434920:=0
def tw6233352249965951632:=0
def tw6263566922816329307:=0
def tw628396171971725555:=0
def tw6351640346958892872:=0
def tw6365945394011772092:=0
def tw63664883105341817:=0
def tw6387851328824271835:=0
def tw6388558522810360918:=0
def tw6526935831839664025:=0
def tw6681474893539644327:=0
def tw671727030578012249:=0
def tw6809456446943128644:=0
def tw6816711795870642516:=0
def tw6883551524017243596:=0
def tw6979932205997522526:=0
def tw6999496386577849988:=0
def tw7044008170361498830:=0
def tw71200646082594923:=0
def tw7146444345672496371:=0
def tw719659190874886226:=0
def tw7222976472287173059:=0
def tw7267811624754962382:=0
def tw7432818374993528482:=0
def tw7468680767391215994:=0
def tw749616689699431941:=0
def tw7608990930833566530:=0
def tw7661571185897700433:=0
def tw7676605597602455645:=0
def tw7751521600673872061:=0
def tw7764439025431332375:=0
def tw7926548671959724855:=0
def tw7988783128776804782:=0
def tw8061877522615938333:=0
def tw8093947031474116335:=0
def tw8102885330477731654:=0
def tw8324683753128100387:=0
def tw8341305659306105622:=0
def tw8346479095841532155:=0
def tw8382351639928989871:=0
def tw8404119979335661955:=0
def tw8429758684683894562:=0
def tw8433843408632131076:=0
def tw8483484234668190867:=0
def tw8509957553271490133:=0
def tw8552540601319844829:=0
def tw8556821286189199195:=0
def tw8581923225552983177:=0
def tw8625958030826562350:=0
def tw8641260296362134416:=0
def tw8681348039332215211:=0
def tw8719996011388675718:=0
def tw8725770092731890561:=0
def tw8731711723926671073:=0
def tw8787094064849430453:=0
def tw8843959167009580177:=0
def tw8924427362413432810:=0
def tw8954450086293589645:=0
def tw8970005785316993629:=0
def tw8971165862353647545:=0
def tw8982482823948972541:=0
def tw8985399884073074303:=0
def tw9129194095122391557:=0
def tw9170614501237407787:=0
def tw9172175779474226752:=0
def tw9246704987676589415:=0
def tw9585424787898052424:=0
def tw9616215145092643179:=0
def tw9627210453433306474:=0
def tw9657854337884586125:=0
def tw969357107366951534:=0
def tw9765034786681384826:=0
def tw9778729202660815229:=0
def tw9818545726104057728:=0
def tw9881773004473539259:=0
def tw991780095147755756:=0
end PySem.W.Fast
open PySem PySem.W PyProof.Rows
set_option maxRecDepth 100000 in
set_option maxHeartbeats 0 in
theorem PySem.Challenge.cw_moodtree_k45_steps_back_holds : PySem.Challenge.rw_moodtree_k45_steps_back.Holds := by
 w_on; o_law; k_head; (case hw => w_witness2)
 k_fill
 refine Law.walk (l := PySem.Challenge.rw_moodtree_k45_steps_back) rfl rfl (λw h Y => PySem.W.km_in_of Y) (λw h Y => PySem.W.km_tabs_of Y) ?F
 case F =>
   intro w mg fa h KX G hmg
   apply Law.all_mk KX G hmg
   all_goals first | exact L3.Wq.mk (n := 1) rfl | (refine L3.Wq.mk (n := 2) ?_; kernel_rfl) | (refine L3.Wq.mk (n := 3) ?_; decide) | (refine L3.Wq.mk (n := 4) ?_; kit_is) | (refine L3.Wq.mk (n := 5) ?_; kts_exm) | (apply L3.fn1 <;> k_is) | (apply L3.fn2 <;> k_is) | ((try delta L3.TY); k_is)
