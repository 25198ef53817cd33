import PyProof.Rows.All
import Wide.All
import OpenK.AllK
import Wide.FinOn
import Lean
import PyProof.EqAt
import PyProof.EqKinds
import PyProof.TupleCall
import PySem.Challenge.RW_moodtree_k71_whole_far_leads_back
set_option Elab.async false
set_option linter.all false
set_option maxRecDepth 100000
set_option maxHeartbeats 4000000
open PySem.W (instObj Frag lookIn plainGet hasDictIn findIn handedIn plainGet_of isFn plainOver takerIn any_some makesIn emptyDict keepIn callWith_K0 cellsFrom_some fnOf codeIn kla_obj CodeHd envX kla_fn codeHdIn tabObj specialIn mroIn readsIn findCls nsIn)
theorem We{p:Prop}(h:p:=by lia):p:=h
def Wl{p:Prop}(h:p:=by decide +kernel):p:=h
def Wp{p:Prop}(h:p:=by decide):p:=h
def WA{p:Prop}(h:p:=by simp):p:=h
theorem WE{p:Prop}(h:p:=by simp_all):p:=h
theorem WF{p:Prop}(h:p:=by grind):p:=h
theorem WI{p:Prop}(h:p:=by simp;lia):p:=h
open Lean in
def qqM (k:Name) (x:List Syntax):Syntax:=.node .none k x.toArray
open Lean in
def qqL (x:String):Syntax:=.atom .none x
open Lean in
def qqN (x:String):Syntax:=mkIdent x.toName
open Lean in
def qqC (x:List Syntax):Syntax:=qqM nullKind (x.intersperse (qqL ","))
open Lean in
def qqS (q:List Syntax) (t:String):List Syntax:=
 let r:=(t.drop 1).toString;let n:=r.toNat?.getD 1;let s:=q.drop n;let a:=(q.take n).reverse;let y:=q.headD .missing;let o:=q.tail;let x:=o.headD .missing;let w:=o.tail;let p:=qqM ``Parser.Term.hygienicLParen [qqL "(",qqM hygieneInfoKind [mkIdent .anonymous]]
 match t.front with
 | '@'=>qqM ``Parser.Term.app [s.headD .missing,qqM nullKind a]::s.tail
 | '['=>qqM `«term[_]» [qqL "[",qqC a,qqL "]"]::s
 | '<'=>qqM ``Parser.Term.anonymousCtor [qqL "⟨",qqC a,qqL "⟩"]::s
 | ','=>qqM ``Parser.Term.tuple [p,qqM nullKind [a.headD .missing,qqL ",",qqC a.tail],qqL ")"]::s
 | '.'=>qqM ``Parser.Term.dotIdent [qqL ".",qqN r]::q
 | '!'=>qqM ``Parser.Term.explicit [qqL "@",qqN r]::q
 | '\''=>Syntax.mkStrLit r::q
 | '_'=>(if r.isEmpty then qqM ``Parser.Term.hole [qqL t] else qqN t)::q
 | '='=>qqM ``Parser.Term.namedArgument [qqL "(",qqN r,qqL ":=",y,qqL ")"]::o
 | '>'=>qqM ``Parser.Term.proj [y,qqL ".",if r.isNat then Syntax.mkLit fieldIdxKind r else qqN r]::o
 | '~'=>qqM (.mkSimple s!"term{r}_") [qqL r,y]::o
 | '^'=>qqM ``Parser.Term.arrow [x,qqL "→",y]::w
 | '`'=>qqM (.mkSimple s!"term_{r}_") [x,qqL r,y]::w
 | ':'=>qqM ``Parser.Term.typeAscription [p,x,qqL ":",qqM nullKind [y],qqL ")"]::w
 | '?'=>qqM `termIfThenElse [qqL "if",w.headD .missing,qqL "then",x,qqL "else",y]::w.tail
 | '\\'=>qqM ``Parser.Term.fun [qqL "fun",qqM ``Parser.Term.basicFun [qqM nullKind [if r=="_" then qqM ``Parser.Term.hole [qqL r] else qqN r],qqM nullKind [],qqL "=>",y]]::o
 | _=>(if t.isNat then Syntax.mkNumLit t else if t=="Prop" then qqM ``Parser.Term.prop [qqL t] else qqN t)::q
def qqT:Array String:=("
Shared















.refl _ @


model X.prog X.w @2





j 1 `+



Inv X pins σ H s @5




CL 'Chart @





List bG @

List α @


aq ks @






A Prop ^
es.length 1 `-
.ref f @
.inl rfl @





QnD
e es `::
CL 'Tree @
AC X e [0 @3
trivial \\_ \\_ \\_
AC X e es @3
CL 'NestRun @
arrOf z @
bD ks @
k 1 `+
QnE
model prog w @2
QnF
.ref a @
QnG
bH K CL b H Z δ σ ts vs @9
k1.trans k2 @
some t @
trivial \\_ \\_ \\_ \\_
QnH
QnI
.Name x pos @2
AL X pos es @3
aZ ks @
some v @
dO aq ks @ es ch es.length 1 `- @4
.Name x pp @2
cX av isAll es ss mem @5
aF E.aC @
dG I q WA @3
iR ws so @2
bZ dQ dW hs @3
QnJ
.inr rfl @
.ref C @
ak st @
X.calm true `=
cL X CL b e δ t δ1 @7
iR c.ws so @2
.nil \\_
aF E.bE @
aF E.bY @
.int i @
i 1 `+
cJ bA kn _ @ @2
iQ ks es w @3
cQ ks es ss @3
ws.map gO @
arrOf st @
v vs `::
QnK
.cons h r @2 \\r \\h \\_ \\_
rfl \\_
.tup xs @
.lst xs @
QnL
trivial \\_
EP X pins σ Q @4
.sh .int st @ @
ds.map T.sh @
dR X CL b e1 δ .int i @ δ1 @7
cO X scope Nc C s H fp @7
s.heap.objs.size 1 `+
L2.Inv X pins σ H s @5
.str x @
jj rfl @
dR X CL b e2 δ1 .int j @ δ2 @7
aH gW ao @ @
aF E.eu @
dF ws i @2
.dK kvs @
some t0 @
eL st @
QnM
QnN
.cons h k a ka _ b @2 @2 \\b \\a @ r k a i5 _ b @2 @2 \\b \\a @ @2 \\k \\r \\h \\_ \\_
gY.mp b @ >elim h a @ r a @ @2 \\b \\a \\r \\h \\_ \\_
backToKw pos keywordEach [0 X.env @2 @2
absurd b kA @2 \\b \\a
c.es.length 1 `-
.Call QaA Qab [0 pos @4
.sh .int n @ @
.ins c fs @2
aF E.Im @
.ref it @
.int _ @
dF ws @
QnO
QnP
QnQ
QnR
eY X.env scope.names [0 @3
he pins s σ H _ I h @7
iS ks es ss is os ws @6
ds.length sizeLine `≤
False \\_ \\_
.sh .int m @ @
upd H a o @3
aF E.c9 @
aF E.iX @
arg a @
.inl z @
k 1 `+ j `+
QnS
QnT
QnU
QnV
QnW
jD lU c6 E.eK >1 rfl @2 rfl rfl ao rfl @5 rfl rfl @3
bs.map .int @
wX X CL b e δ p δ1 @7
mS X CL b e δ t δ1 @7
iR ws some @2
ns.map V.int @
some .sh d @ @
FT es ws @2
cU N ps QaJ @3
vL E.gf >1 @
c.trans a @
cst SL s @2
.tup ds @
aq c.ks @
aF E.lg @
aF E.bQ @
AN X iter @2
RelV y u @2
HD eo @
.U4 q @
res a @
dO aq c.ks @ c.es ch c.es.length 1 `- @4
jm aZ ks @ aq ks @ es ss mem false es.length false p @9 \\p
decide p cR es u tg @3 `∈ @ ~! \\p
bH K CL b H Z δ σ t ts `:: v vs `:: @9
List.replicate es.length 1 ~- @2
dR X CL b e δ .lst ds @ δ1 @7
.sh .lst es.map .int @ @ @
es.map .int @
dN uY c @ kB c s @2 >2 >2 @2
aX aF E.qN @ ao rfl @3
dP s 13 k Int : `+ @2
ai aF E.cz @ aG @2
aq ks s @2 \\s
YF c p >1 bs sg @4
a sysModules `==
k1.trans c @
Option V @
.lst tl @
aF E.bT @
f.trans c @
.tabs p >2 @
k es.length `<
x es.length `<
aF E.iU @
n 1 `-
.lst us @
some v0 @
lY ws @
i4 _ hz @2
oK Wp Wp @2
PE X a ta @3
.ref x @
Sem Bool @
out a @
List Fd @
BJ c.ks c.es c.ws mem Qcf iR c.ws so @2 @6
fj X.prog X.w X.K X.mg X.base CX k f fd ps sp @11
envOfC qual ak st @ s.heap.objs.size f gR @5
Ep E.dY E.aS E.c7 >1 rfl bF oK Wp Wp @2 rfl @7
kvs.any decide a >1 k `= @ \\a @
decide x u `≠ @ \\x
.sh .lst s.map .int @ @ @
kP n.hi n.hv n.hd n.kN @4
bN E.az E.aV QaC e9 @4
starEach Qab X.env @2
absurd q kA @2 \\q
.sh .int j @ @
trivial \\_ \\_
l.map .int @
Binds X.K fd ps ds @4
Binds X.K fd ps [0 @4
.tup .str w @ r `:: @
mem.map .int @
Ig ks es ss mem @4
Loc X.env.scope x @2
X.mg 'range @ none `=
.int m @
rfl \\_ \\_
.ins C dx fs @3
q \\q \\_
Passes CX X E @3
bV K CL Z d v @5
SBase a₀ st @2
some Q3 @
.sh Qes @
Gl X 'range @2
.ref D @ vs `::
model P w @2
.bl true @
a.take j @
Vals xs us @2
Vals D0 ds @2
gJ P w @2
.lst ds @
l.map f @
.ref aN @
.ref aJ @
KV kvs vs @2
.ref p @
.ref y @
.int x @
.lst _ @
L l [1 `++
.ListComp elt tg iter ifs 0 <4 [1 scope pos @4
.Name x pos' @2
aX aF E.jP @ ao rfl @3
bN E.bU E.bP QaO iO @4
e _ _ h @3
u 1 ~- `= u bz es t @2 `∈ `∨
ZF K x qual st f fd @6
tM X scope xs Nc ix @5
ch.length es.length `=
us.reverse vs `++
aF E.iz @
List κ Value `× @
getMethod I m pl @3
fN X scope y Nc ix @5
res a @ >clean true `=
ye Qai es ch @3
ops.map .int @
ks.map .str @
ss.map .int @
es.length 1 `+
kE ks es ws @3
jJ X.K CL c @ @2
vM E.cj >1 @
.ref D' @
dF ws k @2
IntKeys a₀ @
PA X Qab t @3
xs.take j @
Option Expr @
D8 H v0 p w @4
aF E.fP @
cJ bA aP @2
EM α `×
.dT kvs @
.tup us @
F0 c.ws @
aF E.dM @
.ref aA @
i4 _ he @2
oK We We @2
.own x @
.dT gs @
.ref D @
.int 0 @
.ListComp elt .Name x px @2 .Call .Name 'range pr @2 e [1 [0 pc @4 [0 0 <4 [1 scope pos @4
cO X scope Nc s3.heap.objs.size s3 upd H s.heap.objs.size .lst [0 @ @3 fp @7
r k a i4 _ b @2 @2 \\b \\a @
some .builtin 'object.__setattr__ @ @
.Call .Attribute QaA m apos @3 Qab [0 pos @4
.Compare e1 .NotEq [1 e2 [1 pos @4
kT E.az E.bu v_ E.aC >1 @ fU @4
kM cd pl pt bs et @5
.Compare e1 .Eq [1 e2 [1 pos @4
.Call QjS Qab [0 pos @4
.lst QbV @
.ref s.heap.objs.size @
.Call QjS [0 [0 pos @4
.BinOp e1 .Add e2 pos @4
c a b i @3 \\i \\_ \\b \\a
.int n @
keys.zip us.toArray @
i pins s σ H _ I h @7
0 i `≤ i ws.length `< `∧
.ins CL c @ dx gs @3
fN X scope x Nc ix @5
X.A.units 64 `+ cLine `<
TP X pins σ Q @4
fs.lookup m @ none `=
ay K CL Z ds vs @5
.type 'list @
.sh .int k @ @
.sh .int c @ @
eval e X.env @2
aF E.cy @
A.handled none `=
Str Addr `×
.builtin id @
xs.map It.d @
es.getD k 0 @2
es.getD x 0 @2
f1 f2 d `++ `++
wV ds k @2 some d @ `=
.sh Qh6 @
Wc SL mm s @3
tu SL mm s @3
Xz ps @ δc `++
yp ks es mem @3
ml cV WI @ @
ps.zip us @
.int k t2 @2
aF E.eU @
yk kz xs @2
x l `∈
Int Int ^
.lst [0 @
Nat Int ^
.sh c.d @
aF E.ji @
keywordEach [0 X.env @2
swapsWith e some .Name x pos' @2 @ pos.line X.env @4 pure false @ `=
[0 EO : >isEmpty 0 1 ?
BJ ks es ws mem Qaz iR ws some @2 @6
aE bF aE bF aE bF aE bF f9 @2 @2 @2 @2
.tup .str 'way @ .int i @ [2 @
.sh cQ c.ks c.es c.ss @3 @
dR X CL b e2 δ1 .int k @ δ2 @7
seqObj 'list us.toArray 0 @3
Dj X A q scope Nc f c s H @9
uX X CL b tg iter δ ds δ1 @8
pa.endLine pb.line `== true `=
Fc X CL x k n arg Pre res @8
.Call Qgg e [1 [0 pc @4
dR X CL b e2 δ1 d2 δ2 @7
h H Z σ ts vs _ S k @8
.Subscript e1 e2 pos @3
dR X CL b e1 δ d1 δ1 @7
EM Addr Value `× `×
aX QdK ao Fg @3
x >1 >isSome \\x
.Attribute e f pos @3
keepIn X.K Q3 @2 true `=
starEach [0 X.env @2
es.getD m.toNat 0 @2
Ig ks es ss mem w @5
some .sh d @ @ δc `::
bL K CL H Z t v fp @7
ZK X CL b e δ i p @7
some .pin y t @2 @
aX QdK ao yV @3
.bool true @
.Name y py @2
Int Int Bool ^ ^
.lst tl t [1 `++ @
X.mg x @ some Q3 @ `=
rfl \\_ \\z
X.mg 'list @ none `=
Nat BB Prop ^ ^
.sh .str sg @ @
eS Qb1 row @2
ay K CL Z ds us @5
It Hp Prop ^ ^
s.trans c.zh @
.int j Int : @
x >1 ~! \\x
.int i t @2
l.map V.str @
l.map D.int @
some uY c @ @
vM E.cE >1 @
oE X pins H a @4
newList [0 @
some QdB @
K w.params @
Ny c.es ah @2
ll km e @ @
e.trans c @
entry N QbM @2
eG Qaj X.A @2
1 j Int : `+
Il s n st @3
v_ E.eu >1 @
v_ E.bQ >1 @
vL E.bQ >1 @
List Qcv @
Gl X 'list @2
fnOf x qual oG st @ eL st @ ak st @ .none kV doc pm an gR ct @12
.Name 'range pr @2
fj X.prog X.w X.K X.mg X.base lR k f fd ps N7 X.K CL n arg Pre res @6 @11
.DI k _ gj @2 >trans h @ ay.mono e f @2 ay.mono e g @2 @3 \\k \\g \\f \\h
B4 X CL scope Nc xs.length tg parts ifs elt δc ds p g @13
iQ ks es dF ws k @2 @3 \\k
jm aZ ks @ QU es ss mem ef mode @ es.length false @8
.qw k _ gj @2 >trans h @ cK.mono e f @2 @2 \\k \\f \\h
.builtin 'type.__call__ .ref C @ us `:: kw <2 @2
PySem.revObj l its.toArray.size Int : 1 `- @2
.lst k _ gj @2 >trans h @ Qek @2 \\k \\r \\_ \\h
.ins k _ gj @2 >trans h @ Qek @2 \\k \\r \\_ \\h
.dct k _ gj @2 >trans h @ Qek @2 \\k \\r \\_ \\h
ef mode @ true `= 'far 'new ?
aX aF E.eu @ aH eO E.nF E.nE @2 @ dg rfl @ @3
0 dF ws i @2 >src `≤ dF ws i @2 >src es.length `< `∧
gs.any Ie es QaT x @3 \\w @ ~! \\x
KL X CL b Qab δ arg a @ >map T.sh @ δ1 @7
ph X.K CL n arg Pre res out @7
starEach e [1 X.env @2 false eval e X.env @2 ,2 [1 `=
bM .cons E.aC >1 .inl E.oV @ .nil @3 Wl @2
a f2 `∈ H a @ Z a @ ?
An E.c7 >1 rfl qD v_ E.dM >1 @ tR @2 @3
.dct Rd.mono e h @2 r @2 \\r \\_ \\h
cL X CL b e δ .sh .lst ds @ @ δ1 @7
.tup QdE r k @ @2 \\k \\r \\_ \\h
.pin y .ins 'NestRun Qep @2 @2
.Call .Name x p @2 Qab [0 pos @4
.tup aB.pf e h @2 r @2 \\r \\_ \\h
.DI QdE r q @3 \\q \\r \\_ \\_ \\h
N7 K CL ps.length arg Pre res @6
.Compare e1 .NotIn [1 e2 [1 pos @4
scope.names.lookup x @ some .local @ `=
.lst l.map .int @ >map T.sh @ @
.lst e.seq h @ r @2 \\r \\_ \\h
Xo X CL b Qab δ arg a @ δ1 @7
dR X CL b o δ .ins c fs @2 δ1 @7
u6 b fx r fs w WE @6 \\hw \\w
PassesOwn Qu X.A X.env X.xe @4
bubble arrOf y @ k k l `- @3
ai QaC ai aF E.cy @ aG @2 @2
.Compare e1 .In [1 e2 [1 pos @4
.ins QdE r @2 \\r \\_ \\h
ai aH pL ao kD 0 @ @2 @ aG @2
.Compare e1 op [1 e2 [1 pos @4
cO X scope Nc C s0 H0 f0 @7
Yx lY ws @ Qgk J4 es @ @3
.qw QdE r @2 \\r \\_ \\h
congrArg _ i @2 \\i \\_ \\_
cL X CL b e δ .sh d @ δ1 @7
.sh .lst a.map .int @ @ @
trivial \\_ \\_ \\_ \\_ \\_
.pin y t j @ @2
ai QaO ai QaP aG @2 @2
dO QU es ch n 1 `- @4
cX Qax QU es ss mem @5
.pin r k @ @ \\k \\r \\_
some T.sh d @ @ \\d
V BY Hp VK Prop ^ ^ ^ ^
lZ c.ks c.es c.ws p >1 so @5
bN E.bU E.ck QaO ju @4
my km e @ I.ok.above @2
dR X CL b e2 δ1 d δ2 @7
g pins s σ H _ I h @7
mirror_perm _ _ _ _ @4
some .pin y t n @ @2 @
Str Option NameKind @ ^
.Name 'reversed q @2
.done .ret .none @ @
bs.length c.bs.length `=
.lst .sh .int p @ @ [1 @
pk ws ops vs sg es @5
.builtin 'sorted @
c.fQ.fresh gZ _ @ @
I.fQ.fresh gZ _ @ @
dR X CL b e δ d δ1 @7
X.mg 'reversed @ none `=
.Tuple elts kk pt @3
0 x `≤ x es.length `< `∧
vH cd pl pa bs ex @5
aE v_ E.bY >1 @ f9 @2
getMethod U m pl @3
upd H p .dK [0 @ @3
Nat Heap Prop ^ ^
keepIn K Q3 @2 true `=
vj _ rfl <2 @
.Tuple es j pos @3
X.mg 'sorted @ none `=
gs.Pairwise Qh3 @
Int Int Prop ^ ^
kP hi hv hd kN @4
arg a @ >length 1 `+ n `=
r \\r \\_ \\_
call Q3 u [1 @2
Tag a₀ xs ι n @4
q >2 >1 >map .int @
q a b c d e f @6
Gl X 'reversed @2
.type 'type @
compareOp op @
aD X.K CL c @ f @3
.sh .int a @ @
r \\r \\_
ai kD 0 @ aG @2
cM QdC rfl @2
iQ ks es QdY @3
some Qcw @
s1.trans s2 @
some QdX @
.lst Qc1 @
k2.trans a2 @
upd H s.heap.objs.size .lst [0 @ @3
Ap es iQ ks es a @3 iQ ks es c @3 @3 \\c \\a
newFunctionEnv scope X.env.globals QbD [0 X.env.qual none .none some X.env @ @8
.Call .Attribute QaA 'append pa @3 e [1 [0 pb @4
.lst hs.map .str @ @
starEach e1 e2 [2 X.env @2 false eval e1 X.env @2 ,2 starEach e2 [1 X.env @2 `:: `=
.ListComp elt .Name y px @2 iter ifs 0 <4 [1 scope pc @4
.ListComp elt tg iter ifs 0 <4 [1 scope pc @4
jD lU c6 E.MS >1 rfl @2 rfl rfl ao rfl @5 rfl rfl @3
a f2 `∈ H a @ Z a @ ? \\a
s.heap.IsRevIter it l items.size Int : 1 `- @3
decide x lX ks es ops QaE @4 `∈ @ ~! \\x
some QcZ @ Au δ1 ix i .pin y t QA @ @2 @4 `::
envOfC qual scope s.heap.objs.size f cd @5
.ext EI f q params body scope QbD c @7 @
aX Qbg aH eO E.MP E.MN @2 @ dg rfl @ @3
swapsWith e none pos.line X.env @4 pure false @ `=
scope.names.lookup x @ some .globalImplicit @ `=
some QcZ @ Au δ1 ix i .pin y t j @ @2 @4 `::
Value Addr Result Shared Prop ^ ^ ^ ^
.lst jl es j @2 >map .int @ >map T.sh @ @
b X.ex `∈ X.j1.heap.objs.size b `≤ `∨
i j rfl rfl q <5 \\q \\_ \\_
.Call .Name 'list pp @2 e [1 [0 pos @4
kM cd pl pt T.tup a b t [3 @ [1 `++ bs et @5
ph K CL ps.length arg Pre res out @7
decide p cR es u t @3 `∈ @ ~! \\p
false decide q Int : m Int : `= @ `&&
ll my km e @ I.ok.x2 x c V f @4 @2 @
List.replicate c.es.length 1 ~- @2
bN E.az E.bu QaC fU @4
au keep a ka _ c @2 @2 @ \\c \\a
dR X CL b e δ .lst Qc1 @ δ1 @7
mS X CL b e1 δ .sh QaQ @ δ1 @7
cL X CL b e δ .lst Qa7 @ δ1 @7
.builtin 'object.__class__ @
mS X CL b e δ .sh Qex @ δ1 @7
back p q ?
V Ch Ch Hp VK Prop ^ ^ ^ ^ ^
PySem.call f vs @2 \\vs \\f
.pin y .lst .sh .int v @ @ [1 @ @2
.Assign .Name x pos' @2 [1 e pos @3
dR X CL b e1 δ .lst ds @ δ1 @7
scope.names.lookup x @ some .free @ `=
QK X CL x k n arg Pre res out @9
m 'first_rows Str : `== false `=
.ins CL c @ dx rX f v gs @3 @3
dR X CL b e1 δ .str x @ δ1 @7
.Compare e1 .Gt [1 e2 [1 pos @4
aH v_ RV 0 =i rfl Wl @3 @ @
aH v_ K6 1 =i rfl Wl @3 @ @
bN E.aK E.i7 aF E.cg @ Ct @4
assign .Name u py @2 X.env @2
bH X.K CL b H Z δ σ ts vs @9
Option Nat @ SortSt Prop ^ ^
i pos pins s σ H _ I h @8
h k a ka _ b @2 @2 \\b \\a @
r k a i5 _ b @2 @2 \\b \\a @
N7 X.K CL n arg Pre res @6
n pos pins s σ H _ I h @8
cO X scope Nc C s0 a f0 @7
kk c i4 _ o @2 @2 \\o \\c
BJ ks es ws mem Qaz gs @6
.Constant QaQ j pos @3
Fm X CL x k n arg Pre res @8
I.base.free b o e n a @5
its.toArray.size 1 `-
QI f .sh .val v @ @ ,2 XI `:: `++
m 'chart Str : `== false `=
m 'place Str : `== false `=
m 'boxes Str : `== false `=
.lst L l [1 `++ >map Tg @ @
j9 v_ E.jP >1 @ ao rfl @3
.Return some e @ pos @2
m 'past Str : `== false `=
.Name 'reversed pq @2
seqObj 'list out c @3
hm b _ q z \\z @4
KL X CL b es δ tl δ1 @7
some .pin y t 0 @ @2 @
T.Lb p t0 @2 some .pin y u @2 @ `=
kx _ e @2 \\e \\u \\b
s.heap.IsList l items @2
fX K CL H Z kvs gs fp @7
mem.getD m.toNat 0 @2
lZ ks es ws Qaz some @5
starEach e [1 X.env @2
BY Hp VK Prop ^ ^ ^
.str toString i @ @
I.fQ.fresh mI _ @ @
World Heap Prop ^ ^
pE n7 _ @ uu _ _ @2 @2
ForInStep.yield r @
X.mg 'enumerate @ none `=
.Name 'sorted pp @2
N9 X.env.scope tb @2 true `=
ss.getD z.toNat 0 @2 y `=
qr m hs t 3 `/ j @4
.sh .lst Qc5 @ @
ai Qcx ai Qbv aG @2 @2
.Constant Qbc j pos @3
assign QfG X.env @2
f QfU .int j u @2 @2
z7 X binaryOp op @ r @3
d.params.defaults [0 `=
fZ K CL H Z δ σ fp @7
HC X CL b e δ p δ1 @7
bh.getD m.toNat 0 @2
tupleKind Qdp @
V Hp VK Prop ^ ^ ^
codeIn K gR qual @3 true `=
items.size sizeLine `≤
isAll s @ \\s
ai vL E.cE >1 @ aG @2
.Attribute o m apos @3
e Int : u `= jn es u t e @4 e Int : t `≠ `∧ `∨ st e @ zW es u e @3 iI ss mem D e @ e @4 ch.getD e 0 @2 ? ?
b NameKind.free `== env.scope.kind .function `== `&& env.kindOf n @ some _ @ `== `&& true `= n NameKind.cell ,2 n b ,2 ?
DN m @ true `= D.tup .str 'keep @ .int m @ .int mem.getD m.toNat 0 @2 @ .int bh.getD m.toNat 0 @2 @ [4 @ [1 [0 ?
bM .cons E.jg >1 .inl E.t8 @ .cons E.dM >1 .inl E.vW @ .cons E.c7 >1 .inl E.Wm @ .nil @3 @3 @3 Wl @2
bM .cons E.jg >1 .inl E.t8 @ .cons E.dM >1 .inl E.vW @ .cons E.bT >1 .inl E.sL @ .nil @3 @3 @3 Wl @2
kla_obj '<lambda> q params body scope QbD X.mg '__name__ @ >getD .none @ g j @9
r .ok .ret .bool true @ @ @ `= OldK f.heap s'.heap @2 s'.os f.os `= AllBare s'.gens @ `∧ `∧ `∧ \\s' \\r
za c.bs.map vC @ c.nm Qfg c.is.map .tup @ c.os.map .tup @ c.ws.map gO @ @6
h2 rfl H1 Z1 σ ts vs _ c k H2 Z2 a.trans d @ Qaq f @5 \\f \\k2 \\d \\Z2 \\H2 @9
fj X.prog X.w X.K X.mg X.base lR k f fd ps va X.K CL c n arg Pre res @7 @11
.ListComp elt .Name y px @2 .Call Qgg e [1 [0 pc @4 [0 0 <4 [1 scope pp @4
MI g f I h e pins s2 σ H2 x y v u Q i d c q @13 \\q \\c \\d \\i \\H2 \\y \\x \\s2 \\u \\v @5
far decide e jm av isAll es ss mem far es.length near t @9 `∈ @ `&&
attributeBase QaA 'append X.env eval QaA X.env @2 @4 eval QaA X.env @2 `=
xs.isEmpty ~! Builtin.List.listTooLong xs.size ys.size `+ @ `&& true `= ~¬
es.getD k 0 @2 jm av isAll es ss mem far es.length near t @9 `∈
T.lst F0 c.ws Z kF Qff @ @3 >map D.int @ >map T.sh @ @
kvs.map a >1 k `= a >1 y ,2 a ? \\a @
.lst Kc s st es j @4 >map .int @ >map T.sh @ T.sh .int 1 ~- @ @ [1 `++ @
fnOf name qual params body scope d kV doc pm an gR ct @12
.ListComp elt .Name y px @2 iter ifs 0 <4 [1 scope pos @4
kla_fn '<lambda> q params body scope cl pm cd ct @9
G.all sc.names.lookup x @ some .globalImplicit @ `== \\x @
D.tup .str 'sign @ .str sg @ [2 @ vG goN c a sg bs @4 >1 bs @2 >map J.d @ `::
.lst c.ws.take j @ >map fW x @ @ >map gO @ >map T.sh @ @
.Call .Attribute .Name x p @2 m apos @3 Qab [0 pos @4
aH D9 R1 c6 E.c7 >1 rfl @2 rfl rfl ao rfl @5 rfl rfl @3 @
An HX 3 @ rfl qD v_ HX 2 @ @ qD v_ HX 1 @ @ tR @2 @2 @3
HT.DG xs.length xs.length hi @3 HT.DG xs.length 0 lo @3 `-
a >1 k `= a >1 v ,2 a ? \\a
a >1 k `= a >1 d ,2 a ? \\a
i.deeper envOfC x QaJ s.heap.objs.size f gR @5 @
H a @ >isSome true `= Z a @ W' a @ ?
X.K.lookup a @ some .type 'tuple @ od .seq its n @2 sl <4 @ `=
.Call .Attribute QaA 'extend pa @3 e [1 [0 pb @4
.Call .Attribute QaA 'remove pa @3 e [1 [0 pb @4
wpAny_updateSeq a rfl c =hz hz =_hz' @4
fj X.prog X.w X.K X.mg X.base lR k f fd ps Qgx @11
.lst Ek s st es QA @4 >map .str @ >map T.sh @ @
E4 E.g E.dJ E.uB vL E.jh >1 @ b9 _ @ E.dI E.uA @7
X.env.kindOf y >1 @ some .cell @ `= X.env.kindOf y >1 @ some .free @ `= `∨
a.contains y >1 @ scope.names.lookup y >1 @ some .free @ `== `&&
EI h'.objs.size q params body scope QbD g @7
.Subscript e .Slice lo hi some st @ p2 @4 pos @3
.Call .Attribute e0 'append pa @3 e [1 [0 pb @4
.lst sx ks es ss m j @5 >map .int @ >map T.sh @ @
some .builtin 'type.__getattribute__ @ @
N.all sc.names.lookup x @ some .local @ `== \\x @
decide x lX ks es Qaz gs @4 `∈ @ ~! \\x
spliced backTo pos starEach es X.env @2 @2 @
scope.names.lookup y @ some .free @ `== \\y
.int j i `> j i ? @
.int j i `< j i ? @
.Call .Attribute e m apos @3 args [0 pos @4
.Subscript e .Slice lo hi none p2 @4 pos @3
bH K CL b H Z δ σ tl.reverse ts `++ QdJ @9
swapsWith Qh5 none pos.line X.env @4 pure false @ `=
p2 f _ z @2 >2 >2 >elim .inl .inr @2 @ \\z
cO X scope Nc s.heap.objs.size s H fp @7
.Call .Name 'enumerate pr @2 e [1 [0 pc @4
.lst cR es u tg @3 >map .int @ >map T.sh @ @
j9 kT E.aK E.cS v_ E.cg >1 @ Cu @4 ao yV @3
K.lookup f @ some oc od .func Qgf @ Q8 <4 @ `=
back 2 3 ?
vo vL E.jh >1 @ b9 _ @ wZ tL Qbf @ @4
.Call .Name 'tuple pp @2 e [1 [0 pos @4
DM isAll es ss mem far near iP t k @9
yf c.ks c.es c.ss QcO Qcf QaM @6
fnOf x x oG st @ Qbk QaJ .none kV doc pm an gR ct @12
iQ ks es Qbh @3 1 ~- `= iQ ks es Qbh @3 bz es dF ws i @2 >i3 >toNat @2 `∈ `∨
tH aY QfY aY QdW aY vM E.lz >1 @ bA @2 @2 @2 aP @2
bJ Qiw Qft fH w0 c.ws =l i0 i1 @4 @3
bJ Qe2 bJ Qb3 Qbf i @3 f7 k0 k1 @2 @3
.ins 'NestRun kM cd pl pt bs Qcc @5 @2
ai Qcx ai Qd4 ai QcC aG @2 @2 @2
some .lst ds.filter p @ >map g @ @ @
SP X pins E .next s' @5 \\s' \\_
Block X CL scope Nc ifs elt δc ds p g @10
.Call .Name 'len pp @2 e [1 [0 pos @4
.Call .Name 'str pp @2 e [1 [0 pos @4
Xr X CL b .Name y px @2 iter δ ds δ1 @8
.call .ref O @ .ref a @ [1 [0 <2 @2
vH cd pl Br l @ bs Yy some r @ @ @5
arg a @ >length n `=
List κ V `× @
t es.length `<
FuncData
i δ1.length `<
Program
D.bR ds @ true `=
m es.length `<
yI P w H h @4
A BA ^
A B2 ^
Vn X i x @3
Gl X x @2
Qlj
Around
A T ^
X.N.Nodup
Qlh
PE X e te @3
eG k X.A @2
Ln X i x @3
aB Z Z' @2
Qlg
Qlf
Qli
Qlt
Qln
Qlo
Qlq
Qlr
Qls
Qlv
Qlp
QlA
Qlm
Qlz
QlD
QlE
QlF
QlG
QlH
QlI
QlJ
QlK
QlL
QlM
QlN
QlO
QlP
QlQ
QlR
QlS
QlT
QlU
QlV
QlW
QlX
QlY
QlZ
Ql0
Ql1
Ql2
Ql3
Ql4
Ql5
Ql6
Ql7
Ql8
Ql9
Qma
Qmb
Qmc
Qmd
Qme
Qmf
Qmg
Qmh
Qmi
Qmj
Qmk
QlB
Qlx
QlC
Qll
Qlu
Qlw
Qlk
Qle
Qly
Qml
Qmm
Qmn
Qmo
Qmp
Qmq
Qmr
Qms
Qmt
Qmu
Qmv
Qmw
Qmx
Qmy
Qmz
QmA
QmB
QmC
QmD
QmE
QmF
QmG
QmH
QmI
QmJ
QmK
QmL
QmM
QmN
QmO
QmP
QmQ
QmR
QmS
QmT
QmU
QmV
QmW
QmX
QmY
QmZ
Qm0
Qm1
Qm2
Qm3
Qm4
Qm5
Qm6
Qm7
Qm8
Qm9
Qna
Qnb
Qnc
Qnd
Qne
Qnf
Qng
Qnh
Qni
Qnj
Qnk
Qnl
Qnm
Qnn
Qno
Qnp
Qnq
Qnr
Qns
Qnt
Qnu
Qnv
Qnw
Qnx
Qny
Qnz
QnA
QnB
QnC".splitOn "\n").toArray
def qqI (c:Char):Nat:=if 'a'<=c then c.toNat-97 else if 'A'<=c then c.toNat-39 else c.toNat+4
local macro_rules | `($x:ident)=>let u:=Lean.Macro.throwUnsupported;match x.getId with
 | .str .anonymous s=>let f:=fun n=>match qqT[n]? with
   | some t=>if t.isEmpty then u else pure ((t.splitOn " ").foldl qqS []).head!
   | _=>u
  match s.toList with
  | ['Q',a]=>f (qqI a)
  | ['Q',a,c]=>f (62+62*qqI a+qqI c)
  | _=>u
 | _=>u
noncomputable section
namespace L2
open PySem PySem.Spec PyProof.Rows
abbrev d8:=@List.length_map
abbrev gj:=@List.mem_cons_self
abbrev fV:=@List.mem_cons
abbrev i4:=@List.mem_cons_of_mem
abbrev cq:=@if_neg
abbrev i5:=@List.mem_append_right
abbrev gY:=@List.mem_append
abbrev jj:=@Nat.le_of_ble_eq_true
abbrev di:=@if_pos
abbrev jc:=@List.append_assoc
abbrev ka:=@List.mem_append_left
abbrev gZ:=@Nat.le_refl
abbrev jI:=@List.map_append
abbrev kf:=@List.mem_singleton
abbrev ke:=@Int.toNat_natCast
abbrev js:=@List.map_cons
abbrev la:=@List.getD_eq_getElem?_getD
abbrev kO:=@List.getElem?_eq_some_iff
abbrev kx:=@Heap.get?_push_of_some
abbrev kr:=@List.length_append
abbrev ko:=@of_decide_eq_true
abbrev j2:=@List.append_nil
abbrev kc:=@List.mem_filter
abbrev j0:=@List.mem_map
abbrev i8:=@wpAny_bind
abbrev km:=@Heap.lt_size
abbrev ma:=@List.getElem?_eq_getElem
abbrev kA:=@List.not_mem_nil
abbrev kq:=@List.map_map
abbrev k4:=@List.getElem?_map
abbrev ky:=@decide_eq_false
abbrev l6:=@List.mem_of_getElem?
abbrev lj:=@List.nodup_append
abbrev kn:=@Nat.zero_le
abbrev l5:=@of_decide_eq_false
abbrev lh:=@Bool.and_eq_true
abbrev k3:=@List.foldl_cons
abbrev lr:=@List.length_cons
abbrev l9:=@List.pairwise_cons
abbrev l8:=@Int.emod_lt_of_pos
abbrev kv:=@Nat.le_trans
abbrev l0:=@List.mem_flatMap
abbrev mv:=@Heap.get?_push_size
abbrev lx:=@decide_eq_true
abbrev l7:=@Option.some.inj
abbrev my:=@Nat.lt_of_lt_of_le
abbrev mf:=@List.lookup_cons
abbrev me:=@List.take_length
abbrev mD:=@Bool.false_ne_true
abbrev ll:=@Nat.ne_of_lt
abbrev mE:=@List.filter_append
abbrev mu:=@Int.emod_nonneg
abbrev kX:=@wpAny_pure
abbrev nt:=@List.perm_append_comm
abbrev m3:=@List.length_range
abbrev mn:=@PySem.W.mg_of
abbrev mT:=@List.cons_append
abbrev nc:=@List.reverse_cons
abbrev oP:=@List.filter_cons_of_pos
abbrev ml:=@Nat.le_of_lt
abbrev nH:=@List.filterMap_cons
abbrev nz:=@List.map_congr_left
abbrev mN:=@List.mem_range
abbrev nv:=@PySem.W.mg_none_of
abbrev oI:=@List.length_filter_le
abbrev nr:=@List.length_take
abbrev mx:=@sizeLine_eq
abbrev n6:=@Bool.false_eq_true
abbrev lL:=@wpS_bind
abbrev oT:=@List.getElem?_range
abbrev r3:=@List.pairwise_singleton
abbrev n7:=@List.Sublist.refl
abbrev uu:=@List.sublist_append_right
abbrev r0:=@Option.map_eq_some_iff
abbrev nP:=@List.nodup_cons
abbrev nN:=@List.nil_append
abbrev pE:=@List.Sublist.append
abbrev wy:=@PyProof.Rows.callWith_type1
abbrev rr:=@List.length_singleton
abbrev oD:=@List.size_toArray
abbrev mI:=@Nat.le_succ
abbrev oC:=@List.foldl_append
abbrev ue:=@List.filter_cons_of_neg
abbrev ro:=@List.Pairwise.filter
abbrev rl:=@PySem.mem_of_lookup
abbrev ub:=@List.Perm.append_left
abbrev oz:=@List.length_set
abbrev ri:=@Nat.lt_of_le_of_lt
abbrev t5:=@List.mem_of_mem_take
abbrev nZ:=@List.any_cons
abbrev rh:=@List.take_add_one
abbrev rf:=@List.flatMap_cons
abbrev t4:=@List.length_reverse
abbrev mB:=@wpS_pure
abbrev x9:=@List.drop_eq_getElem_cons
abbrev v3:=@List.getElem?_eq_none
abbrev vT:=@List.length_replicate
abbrev tJ:=@wpAny_Call_Name_kw
abbrev x7:=@List.length_filterMap_le
abbrev nq:=@wpAny_mono
abbrev tI:=@decide_eq_true_eq
abbrev rb:=@List.find?_cons
abbrev q9:=@List.filter_map
abbrev wq:=@List.perm_iff_count
abbrev wj:=@List.flatMap_append
abbrev yY:=@List.getElem?_set_self
abbrev Hk:=@List.getElem?_append_right
abbrev yU:=@List.take_append_drop
abbrev uk:=@List.filter_nil
abbrev Hf:=@wpAny_comprehension_free
abbrev yK:=@List.pairwise_append
abbrev mM:=@Ne.symm
abbrev we:=@List.ext_getElem?
abbrev He:=@PySem.F.plainAttrs_list
abbrev Hd:=@decide_eq_false_iff_not
abbrev yB:=@beq_eq_false_iff_ne
abbrev uj:=@List.nodup_nil
abbrev wd:=@List.all_eq_true
abbrev Hc:=@Heap.get?_update_other
abbrev Ha:=@List.pairwise_lt_range
abbrev rF:=@Int.zero_add
abbrev wb:=@wpAny_passesOwn
abbrev ui:=@Bool.and_true
abbrev yA:=@Bool.not_eq_true'
abbrev G2:=@List.getElem?_set_ne
abbrev G1:=@lookup_relabel_local
abbrev yn:=@Nat.lt_succ_self
abbrev yl:=@beq_self_eq_true
abbrev n4:=@if_false
abbrev K7:=@List.Pairwise.imp_of_mem
abbrev y1:=@List.mem_reverse
abbrev KU:=@List.getElem?_replicate
abbrev wx:=@Nat.lt_irrefl
abbrev wt:=@List.all_cons
abbrev y0:=@List.range_succ
abbrev KO:=@List.takeWhile_sublist
abbrev Hn:=@wpAny_truthy_bool
abbrev Hm:=@List.count_append
abbrev KI:=@PySem.W.methodCall_KW
abbrev KA:=@Heap.get?_update_self
abbrev Kt:=@Array.getElem?_toList
abbrev vy:=@Nat.zero_add
abbrev Og:=@List.takeWhile_append_of_pos
abbrev tF:=@beq_iff_eq
abbrev tw:=@call_meets
abbrev GS:=@List.any_eq_true
abbrev GI:=@List.filter_cons
abbrev x5:=@wpAny_holding
abbrev Of:=@List.perm_ext_iff_of_nodup
abbrev oy:=@if_true
abbrev Kk:=@PySem.W.codeHd_of_K
abbrev GG:=@Bool.eq_iff_iff
abbrev F1:=@List.length_nil
abbrev N0:=@List.getElem?_append_left
abbrev Kj:=@Calls.spliced_cons
abbrev Ki:=@PySem.W.callWith_K
abbrev x4:=@wpS_forRange
abbrev NY:=@List.sublist_append_left
abbrev Kb:=@decide_eq_true_iff
abbrev JU:=@List.map_singleton
abbrev FX:=@Bool.and_false
abbrev FV:=@wpAny_standAt
abbrev Key:=Sum Int Str
noncomputable def Ju:Key->Value->Bool
 | .inl k,v=>Value.isInt k v
 | .inr x,v=>Value.isStrOf x v
noncomputable def as5(w:World):Key->Int
 | .inl k=>hashInt k
 | .inr x=>hashStr w x
theorem gu:∀{k:Key} {v:Value},Ju k v=true->(∃i t,k=Sum.inl i/\v=Value.int i t)\/(∃x t,k=Sum.inr x/\v=Value.str x t)
 | .inl i,v,h=>by
  obtain⟨t,e⟩:=Value.isInt_shape h;exact .inl ⟨i,t,rfl,e⟩
 | .inr x,v,h=>by
  obtain⟨t,e⟩:=Value.isStrOf_shape h;exact .inr ⟨x,t,rfl,e⟩
def W2(i:Int)(t:Tok):Ju (.inl i) QfU=true:=by simp[Ju,Value.isInt]
def W3(x:Str)(t:Tok):Ju (.inr x) (.str x t)=true:=by simp[Ju,Value.isStrOf]
theorem akm(a b:Int):decide ((Sum.inl a:Key)=Sum.inl b)=(a==b):=by
 by_cases e:a=b
 .subst e;simp
 simp_all
def akn(a b:Str):decide ((Sum.inr a:Key)=Sum.inr b)=decide (a=b):=by simp
def ako(a:Int)(b:Str):decide ((Sum.inl a:Key)=Sum.inr b)=false:=ky (λq=>nomatch q)
def akp(a:Str)(b:Int):decide ((Sum.inr a:Key)=Sum.inl b)=false:=ky (λq=>nomatch q)
def gJ(prog:Qat)(w:World):PySem.KeyKind prog w Key where
 is:=Ju
 hash:=as5 w
 inj:=λv a b f c=>by
  obtain⟨i,t,rfl,rfl⟩|⟨x,t,rfl,rfl⟩:=gu f
  .obtain⟨j,u,rfl,e⟩|⟨y,u,rfl,e⟩:=gu c
   .injection e with e1 _;rw[e1]
   .exact nomatch e
  .obtain⟨j,u,rfl,e⟩|⟨y,u,rfl,e⟩:=gu c
   .exact nomatch e
   .injection e with e1 _;rw[e1]
 byValue:=λk v h=>by
  obtain⟨i,t,rfl,rfl⟩|⟨x,t,rfl,rfl⟩:=gu h<;>rfl
 pyHash:=λhv h=>by
  obtain⟨i,t,rfl,rfl⟩|⟨x,t,rfl,rfl⟩:=gu hv
  .exact wpAny_pyHash_int h
  .exact wpAny_pyHash_str h
 eqBool:=λd hv h=>by
  obtain⟨i,t,rfl,rfl⟩|⟨x,t,rfl,rfl⟩:=gu d
  .obtain⟨j,u,rfl,rfl⟩|⟨y,u,rfl,rfl⟩:=gu hv
   .rw[akm]at h;exact wpAny_eqBool_int h
   .rw[ako]at h;exact SeqAt.EqAt.int_str i t y u _ _ _ _ h
  .obtain⟨j,u,rfl,rfl⟩|⟨y,u,rfl,rfl⟩:=gu hv
   .rw[akp]at h;exact SeqAt.EqAt.str_int x t j u _ _ _ _ h
   .rw[akn]at h;exact wpAny_eqBool_str h
 «strs»:=λk x t v h=>by
  obtain⟨i,u,rfl,e⟩|⟨y,u,rfl,e⟩:=gu h
  .exact nomatch e
  .injection e with e1 _;subst e1;cases v<;>rfl
def NB(prog:Qat)(w:World)(i:Int)(t:Tok):(gJ prog w).is (.inl i) QfU=true:=W2 i t
def NC(prog:Qat)(w:World)(x:Str)(t:Tok):(gJ prog w).is (.inr x) (.str x t)=true:=W3 x t
inductive V where
 | non|bl (b:Bool)|int (i:Int)|str (x:Str)|U3 (b:Array UInt8)|flt (b:UInt64)|ref (a:Addr)|ty (n:String)
 deriving DecidableEq
def RelV:V->Value->Prop
 | .non,u=>u=Value.none
 | .bl b,u=>u=Value.bool b
 | .int i,u=>∃t,u=Value.int i t
 | .str x, u => ∃ t, u = Value.str x t
 | .U3 b,u=>∃t,u=Value.bytes b t
 | .flt b,u=>∃t,u=Value.float b t
 | .ref a,u=>u=Value.ref a
 | .ty n,u=>u=Value.type n
abbrev _root_.BY:=List V
abbrev _root_.B1:=List Value
abbrev Vals:BY->B1->Prop:=Paired RelV
variable{xs:BY}{us:B1}
theorem Vals.length(r:Qdn):xs.length=us.length:=Paired.length r
theorem Vals.get:∀{xs:BY} {us:B1} {i:Nat} {x:V},Vals xs us->xs[i]? = some x->∃u,us[i]? = some u/\RelV x u
 | _,_,_,_,.nil,e=>by simp at e
 | _,_,0,_,.cons r _,e=>by simp_all
 | _,_,i+1,x,.cons _ t,e=>by
  obtain⟨u,h1,h2⟩:=Vals.get t (‹_›);exact⟨u,‹_›,h2⟩
theorem Vals.set{x:V}{u:Value}(r:RelV x u):∀{xs:BY} {us:B1} (i:Nat),Vals xs us->Vals (xs.set i x) (us.set i u)
 | _,_,_,.nil=>.nil
 | _,_,0,.cons _ t=>.cons r t
 | _,_,i+1,.cons q t=>.cons q (Vals.set r i t)
theorem Vals.append:∀{xs ys:BY} {us ws:B1},Vals xs us->Vals ys ws->Vals (xs++ys) (us++ws)
 | _,_,_,_,.nil,s=>s
 | _,_,_,_,.cons r t,s=>.cons r (Vals.append t s)
theorem Vals.take:∀{xs:BY} {us:B1} (n:Nat),Vals xs us->Vals (xs.take n) (us.take n)
 | _,_,0,_=>.nil
 | _,_,_+1,.nil=>.nil
 | _,_,n+1,.cons r t=>.cons r (Vals.take n t)
theorem Vals.drop:∀{xs:BY} {us:B1} (n:Nat),Vals xs us->Vals (xs.drop n) (us.drop n)
 | _,_,0,r=>r
 | _,_,_+1,.nil=>.nil
 | _,_,n+1,.cons _ t=>Vals.drop n t
def yH:Option V->Option Value->Prop
 | some v,some u=>RelV v u
 | none,none=>True
 | _,_=>False
def KV{κ:Type}:List (κ×V)->List (κ×Value)->Prop:=Paired λ(p:κ×V) (q:κ×Value)=>p.1=q.1/\RelV p.2 q.2
noncomputable def kV:Key->V
 | .inl i=>.int i
 | .inr x=>.str x
abbrev _root_.EM:=List Key
abbrev _root_.Bn:=List (EM×V)
abbrev _root_.Bz:=Int->Bool
abbrev _root_.CA:=List (Str×V)
abbrev _root_.CS:=Array Value
abbrev _root_.Cc:=List (Key×V)
inductive HO where
 | lst (xs:BY)
 | tup (xs:BY)
 | dK (kvs:Cc)|dT (kvs:Bn)
 | set (S:Bz) (n:Nat)
 | ins (C dx:Addr) (fs:CA)
 | own (x:Addr)
 | xd (fs:CA)
 | met (f x:Addr)
 | rng (lo hi:Int)
 | gT (o:Obj) (u:HO)
 | tbl (ps:CS)
 | tabs (q:Str)
 | U4 (q:Str)
 | ext (φ:Heap->Prop)
abbrev Hp:=Addr->Option HO
noncomputable def upd(H:Hp)(a:Addr)(o:HO):Hp:=λb=>if b=a then some o else H b
variable{H:Hp}{a:Addr}{o:HO}
theorem aW:upd H a o a=some o:=by unfold upd;simp_all
variable{b:Addr}
def au(h:b≠a):upd H a o b=H b:=by unfold upd;rw[cq h]
def aoZ{u:HO}(h:H a=some o)(h':H b=some u)(d:o≠u):a≠b:=by
 intro e;subst e;rw[h]at h';exact d (l7 h')
theorem aO(h:H a=some o)(h':H b=none):a≠b:=by
 intro e;simp_all
section
variable(P:Qat)(w:World)
def g6(H:Hp)(h:Heap)(a:Addr):HO->Prop
 | .lst xs=>xs.length<=sizeLine/\∃(its:B1) (n:Nat),Vals xs its/\h.get? a=some {cls:=.type "list",data:=.seq its.toArray n}
 | .tup xs=>xs.length<=sizeLine/\∃its:B1,Vals xs its/\IsTup h a its.toArray
 | .dK kvs=>kvs.length<=sizeLine/\Qct=false/\∃vs,KV kvs vs/\h.DictOf Qdp a vs
 | .dT kvs=>kvs.length<=sizeLine/\Qct=false/\∃xs:List Qfs,
   Paired (λ(p:EM×V) (q:Qfs)=>p.1=q.1/\H q.2.1=some (.tup (p.1.map kV))/\RelV p.2 q.2.2) kvs xs ∧
   ∃o es ep,h.get? a=some o/\o.ExactDict/\o.data=.dict es ep/\es.toList=xs.map (entryOfKey QjM)/\(xs.map (·.1)).Nodup
 | .set S n=>h.SetOf (intKind P w) a S n
 | .ins C dx fs=>H dx=some (.own a)/\fs.length<=1000/\dx≠a/\h.get? a=some (instObj C dx) ∧
   ∃mA,h.Ns1 dx mA/\(∀f,yH (fs.lookup f) (mA f))/\PySem.Within mA (fs.map (·.1))
 | .own _=>∃o,h.get? a=some o
 | .xd fs=>∃mA,h.Ns1 a mA/\∀f,yH (fs.lookup f) (mA f)
 | .rng lo hi=>∃t u v,h.get? a=some {cls:=.type "range",data:=.fields #[.int lo t,.int hi u,.int 1 v]}
 | .gT o u=>h.get? a=some o/\g6 H h a u
 | .tbl ps=>h.get? a=some {cls:=.none,data:=.fields ps}
 | .tabs q=>∃ps:CS,h.get? a=some {cls:=.none,data:=.fields ps}/\TriplesOk ps.toList/\∀pos b,codeAmong pos ps.toList=some b->∃c,b=.ref c/\H c=some Qcd
 | .U4 q=>∃o vs t,h.get? a=some o/\o.data=.fields vs/\vs[1]? = some (.str q t)
 | .met f x=>h.get? a=some (PySem.W.methodObj Q3 QcK)
 | .ext φ=>φ h/\(∃o,h.get? a=some o)/\∀h1 h2:Heap,φ h1->(∀o,h1.get? a=some o->h2.get? a=some o)->φ h2
def yI(H:Hp)(h:Heap):Prop:=∀a o,H a=some o->g6 P w H h a o
end
variable{P:Qat}{w:World}{H':Hp}{h h':Heap}
theorem g6.lt(x:g6 P w H h a o):a<h.objs.size:=by
 cases o with
 | lst xs=>obtain⟨_,_,_,_,e⟩:=x;exact km e
 | tup xs=>obtain⟨_,_,_,p⟩:=x;exact p.lt
 | dK kvs=>obtain⟨_,_,_,_,o,_,_,e,_⟩:=x;exact km e
 | dT kvs=>obtain⟨_,_,_,_,o,_,_,e,_⟩:=x;exact km e
 | set S n=>obtain⟨o,_,_,_,e,_⟩:=x;exact km e
 | ins C dx fs=>obtain⟨_,_,_,e,_⟩:=x;exact km e
 | own y=>obtain⟨_,e⟩:=x;exact km e
 | xd fs=>obtain⟨_,⟨_,_,_,e,_⟩,_⟩:=x;exact km e
 | rng lo hi=>obtain⟨_,_,_,e⟩:=x;exact km e
 | gT b u=>obtain⟨e,_⟩:=x;exact km e
 | tbl ps=>exact km (x)
 | tabs q=>obtain⟨_,e,_⟩:=x;exact km e
 | U4 q=>obtain⟨_,_,_,e,_⟩:=x;exact km e
 | met f y=>exact km (x)
 | ext φ=>obtain⟨_,⟨_,e⟩,_⟩:=x;exact km e
theorem Paired.Mo{α β:Type}{F G:α->β->Prop}:∀{l₁:QR} {l₂:List β},Paired F l₁ l₂->(∀a b,F a b->G a b)->Paired G l₁ l₂
 | _,_,.nil,_=>.nil
 | _,_,.cons r t,f=>.cons (f _ _ r) (Paired.Mo t f)
theorem g6.DF(x:g6 P w H h a o)(k:∀b u,(b=a\/H b=some (.own a))->h.get? b=some u->h'.get? b=some u)
  (l:∀b,H b=some (.own a)->H' b=some (.own a)) (j:∀b xs,H b=some Qa1->H' b=some Qa1) (kN:∀b q,H b=some Qcd->H' b=some Qcd:=by intro _ _ q;exact q):g6 P w H' h' a o:=by
 induction o with
 | lst xs=>obtain⟨z,its,n,r,e⟩:=x;exact⟨z,its,n,r,k _ _ Q4 e⟩
 | tup xs=>obtain⟨z,its,r,g,e,c⟩:=x;exact⟨z,its,r,g,k _ _ Q4 e,c⟩
 | dK kvs=>obtain⟨z,y,vs,r,g,es,ep,e,c⟩:=x;exact⟨z,y,vs,r,g,es,ep,k _ _ Q4 e,c⟩
 | dT kvs=>
  obtain⟨z,y,xs,r,g,es,ep,e,c⟩:=x;exact⟨z,y,xs,Paired.Mo r λp q z=>⟨z.1,j _ _ z.2.1,z.2.2⟩,g,es,ep,k _ _ Q4 e,c⟩
 | set S n=>obtain⟨g,es,ep,t,e,c⟩:=x;exact⟨g,es,ep,t,k _ _ Q4 e,c⟩
 | ins C dx fs=>
  obtain⟨d,z,ne,e,mA,⟨od,es,ep,e2,c⟩,r⟩:=x;exact⟨l _ d,z,ne,k _ _ Q4 e,mA,⟨od,es,ep,k _ _ (.inr d) e2,c⟩,r⟩
 | own y=>obtain⟨g,e⟩:=x;exact⟨g,k _ _ Q4 e⟩
 | xd fs=>obtain⟨mA,⟨od,es,ep,e,c⟩,r⟩:=x;exact⟨mA,⟨od,es,ep,k _ _ Q4 e,c⟩,r⟩
 | rng lo hi=>obtain⟨t,u,v,e⟩:=x;exact⟨t,u,v,k _ _ Q4 e⟩
 | gT g u i=>obtain⟨e,q⟩:=x;exact⟨k _ _ Q4 e,i q⟩
 | tbl ps=>
  have e:=x;exact k a _ Q4 e
 | met f y=>
  have e:=x;exact k a _ Q4 e
 | tabs q=>obtain⟨ps,e,tr,cs⟩:=x;exact⟨ps,k _ _ Q4 e,tr,λpos m z=>let ⟨c,e1,e2⟩:=cs pos m z;⟨c,e1,kN _ _ e2⟩⟩
 | U4 q=>obtain⟨g,vs,t,e,r⟩:=x;exact⟨g,vs,t,k _ _ Q4 e,r⟩
 | ext φ=>obtain⟨p,⟨o,e⟩,st⟩:=x;exact⟨st _ _ p λo q=>k _ _ Q4 q,⟨o,k _ _ Q4 e⟩,st⟩
theorem yI.lt(x:Qbl)(e:H a=some o):a<h.objs.size:=(x a o e).lt
theorem yI.fresh(x:Qbl)(e:h.objs.size<=a):H a=none:=by
 cases q:H a with
 | none=>rfl
 | some u=>exact absurd (my (x.lt q) e) (wx _)
theorem yI.kept(x:Qbl)(k:∀b u,h.get? b=some u->h'.get? b=some u):yI P w H h':=λa o e=>
 (x a o e).DF (λb u _ q=>k b u q) Qdc λ_ _ q=>q
theorem yI.laid(x:Qbl)(k:∀b u,h.get? b=some u->h'.get? b=some u)(g:h.objs.size<=a)(new:g6 P w QbJ h' a o):yI P w QbJ h':=λb u e=>by
 have d:=x.fresh g;by_cases f:b=a
 .subst f;rw[aW]at e;grind
 .rw[au f]at e;exact(x b u e).DF (λc v _ q=>k c v q) (λc q=>au (aO q d)▸q) (λc xs q=>au (aO q d)▸q) λc z q=>au (aO q d)▸q
def Rd(H:Hp)(a:Addr)(u:HO):Prop:=H a=some u\/∃o,H a=some (.gT o u)
theorem Rd.ok{u:HO}(r:Rd H a u)(x:Qbl):g6 P w H h a u:=by
 obtain r|⟨o,r⟩:=r
 .exact x a u r
 .obtain⟨_,q⟩:=x a _ r;exact q
def HE:Option HO->Prop
 | some (.lst _)=>True
 | some (.dK _)=>True
 | some (.dT _)=>True
 | some (.set _ _)=>True
 | some (.ins _ _ _)=>True
 | some (.ext _)=>True
 | some (.tabs _)=>True
 | _=>False
variable{x e:Addr}{o':HO}
theorem yI.write(ok:Qbl)(d:HE (H x))(he:e=x\/H e=some Qee)(k:∀b u,b≠e->h.get? b=some u->h'.get? b=some u)(f:∃u,h'.get? e=some u)
  (new:g6 P w (upd H x o') h' x o'):yI P w (upd H x o') h':=λb u q=>by
 have l:∀c y,H c=some (.own y)->c≠x:=λc y r z=>by subst z;rw[r]at d;exact d
 have j:∀c xs,H c=some Qa1->c≠x:=λc xs r z=>by subst z;rw[r]at d;exact d
 have i:∀c q,H c=some Qcd->c≠x:=λc q r z=>by subst z;rw[r]at d;exact d
 by_cases g:b=x
 .subst g;rw[aW]at q;grind
 .rw[au g]at q;by_cases a:b=e
  .have m:H b=some Qee:=by
    obtain z|z:=he
    .exact absurd (a.trans z) g
    .rw[a];exact z
   rw[q]at m;cases m;obtain⟨v,hv⟩:=f;exact⟨v,a▸hv ⟩
  .refine(ok b u q).DF (λc v n r=>k c v ?_ r) (λc r=>au (l c b r)▸r) (λc xs r=>au (j c xs r)▸r) λc z r=>au (i c z r)▸r;grind
abbrev _root_.BN:=List Addr
structure Un(fs ex:BN)(H H':Hp)(h h':Heap):Prop where
 keep:∀b o,h.get? b=some o->H b=none->b∉fs->b∉ex->h'.get? b=some o
 slot:∀b o,h.get? b=some o->H b=none->b∈fs->b∉ex->∃sl,h'.get? b=some {o with slots:=sl}
 free:∀b o,h.get? b=some o->H b=none->b∉ex->H' b=none
 there:∀b o,h.get? b=some o->b∉ex->∃o',h'.get? b=some o'
 BK:∀b xs,H b=some Qa1->H' b=some Qa1
 gU:∀b o u,H b=some (.gT o u)->H' b=some (.gT o u)
 BL:∀b ps,H b=some (.tbl ps)->∃more,H' b=some (.tbl (ps++more))
section
variable{fs ex:BN}{H1 H2:Hp}{h1 h2:Heap}
theorem Un.any(u:Un fs ex H H1 h h1){a:Obj}(q:h.get? b=some a)(n:H b=none)(c:b∉ex):∃sl,h1.get? b=some {a with slots:=sl}:=by
 by_cases d:b∈fs
 .exact u.slot b a q n d c
 .exact⟨ _,u.keep b a q n d c⟩
theorem Un.trans(a:Un fs ex H H1 h h1)(b:Un fs ex H1 H2 h1 h2):Un fs ex H H2 h h2 where
 keep:=λc d q n f e=>b.keep c d (a.keep c d q n f e) (a.free c d q n e) f e
 slot:=λc d q n f e=>by
  obtain⟨sl,e1⟩:=a.slot c d q n f e;obtain⟨g,e2⟩:=b.slot c _ e1 (a.free c d q n e) f e;exact⟨g,e2⟩
 free:=λc d q n e=>by
  obtain⟨o',e1⟩:=a.there c d q e;exact b.free c o' e1 (a.free c d q n e) e
 there:=λc d q e=>by
  obtain⟨o',e1⟩:=a.there c d q e;exact b.there c o' e1 e
 BK:=λc xs q=>b.BK c xs (a.BK c xs q)
 gU:=λc d xs q=>b.gU c d xs (a.gU c d xs q)
 BL:=λc ps q=>by
  obtain⟨m1,e1⟩:=a.BL c ps q;obtain⟨m2,e2⟩:=b.BL c _ e1;exact⟨m1++m2,by simp_all ⟩
theorem Un.kept(k:∀b u,h.get? b=some u->h'.get? b=some u):Un fs ex H H h h':=
 ⟨λb a q _ _ _=>k b a q,λb a q _ _ _=>⟨ _,k b a q⟩,λ_ _ _ n _=>n,λb a q _=>⟨a,k b a q⟩,λ_ _ q=>q,λ_ _ _ q=>q,λ_ ps q=>⟨#[],‹_› ⟩⟩
theorem Un.refl:Un fs ex H H h h:=Un.kept λ_ _ q=>q
theorem Un.laid(k:∀b u,h.get? b=some u->h'.get? b=some u)(d:h.objs.size<=a)(c:H a=none):Un fs ex H QbJ h h' where
 keep:=λb u q _ _ _=>k b u q
 slot:=λb u q _ _ _=>⟨ _,k b u q⟩
 free:=λb u q n _=>au (ll (my (km q) d))▸n
 there:=λb u q _=>⟨u,k b u q⟩
 BK:=λb xs q=>au (aO q c)▸q
 gU:=λb u xs q=>au (aO q c)▸q
 BL:=λb ps q=>⟨#[],by rw[au (aO q c),q];simp⟩
theorem Un.write(d:HE (H x))(he:e=x\/H e=some Qee)(k:∀b u,b≠e->h.get? b=some u->h'.get? b=some u)(c:∃u,h'.get? e=some u):Un fs ex H (upd H x o) h h':=by
 have g:∀b,H b=none->b≠x:=λb n z=>by subst z;rw[n]at d;exact d
 have f:∀b,H b=none->b≠e:=λb n z=>by simp_all
 have hm:∀b u,H b=some u->¬ HE (some u)->b≠x:=λb u q nm z=>by simp_all
 refine⟨λb u q n _ _=>k b u (f b n) q,λb u q n _ _=>⟨ _,k b u (f b n) q⟩,λb u q n _=>au (g b n)▸n,λb u q _=>?_,
  λb xs q=>au Qjh▸q,λb u xs q=>au Qjh▸q,λb ps q=>⟨#[],by rw[au Qjh,q];simp⟩⟩
 by_cases a:b=e
 .subst a;exact c
 .exact⟨u,k b u a q⟩
end
noncomputable def OH(h:Heap)(H:Hp):BN:=(List.range h.objs.size).filter λa=>(H a).isSome
def HF(h:Heap)(H:Hp):Heap:=PySem.W.hideAll h (OH h H)
def W4(h:Heap)(H:Hp):(HF h H).objs.size=h.objs.size:=PySem.W.hideAll_size _ _
theorem ZT{o:Obj}(e:h.get? b=some o)(n:H b=none):(HF h H).get? b=some o:=
 PySem.W.hideAll_get _ e λhm=>by
  have q:=(kc.1 hm).2;simp_all
theorem afx{o:Obj}(e:(HF h H).get? b=some o):h.get? b=some o/\H b=none:=by
 have a:=PySem.W.of_hideAll _ e;refine⟨a,?_⟩;cases q:H b with
 | none=>rfl
 | some x=>
  have hm:b∈OH h H:=kc.2 ⟨mN.2 (km a),by simp[q]⟩;have z:(HF h H).get? b=none:=PySem.W.hideAll_none _ hm;simp_all
abbrev _root_.BM:=List (Addr×Obj)
noncomputable def afy(g h:Heap)(L:Addr):BM:=(List.range h.objs.size).filterMap λa=>if a=L\/(g.get? a).isSome=true then none else(h.get? a).map λo=>(a,o)
def rest(g h:Heap)(L d:Addr):BM:=(afy g h L).filter λp=>decide (p.1≠d)
abbrev _root_.Bi:=Str->Option Value
structure Mod(K:Frag)(mg:Bi)(base:Heap):Prop where
 xt:K.In base
 glob:base.Ns mainGlobals mg
 blt:∃mb,base.Ns builtinsNs mb/\∀x:Str,x≠"__name__"->mb x=bootBuiltins x
 nolimit:base.NoLimit
abbrev _root_.At:=List Str
abbrev _root_.B0:=Value->Shared->Prop
abbrev _root_.D1:=List Env
structure Cx where
 prog:Program
 w:World
 K:Frag
 mg:Str->Option Value
 base:Heap
 A:Around
 N:At
 j1:Shared
 nk:Hp
 env:Env
 outer:D1
 stack:D1
 ex:BN
 fn:Str->Bool
 calm:Bool
 pn:BM
 xe:Value->Shared->Prop
noncomputable def U5(l:D1):BN:=l.filterMap (·.frame)
abbrev Cx.fs(X:Cx):BN:=U5 X.outer
def uK(sc:Scope)(x:Str):Prop:=sc.names.lookup x=some .local\/sc.names.lookup x=some .cell\/sc.names.lookup x=some .free
def Loc(sc:Scope)(x:Str):Prop:=sc.names.lookup x=some .local\/sc.names.lookup x=some .cell
def Look(env:Env)(h:Heap)(m:Bi)(x:Str)(u:Value):Prop:=
 (env.kindOf x=some .local/\m x=some u)\/((env.kindOf x=some .cell\/env.kindOf x=some .free)/\∃c,env.cells.lookup x=some c/\h.IsCell c (some u))
structure Cx.Ok(X:Cx):Prop where
 mod:Mod X.K X.mg X.base
 kind:X.env.scope.kind=.function
 glob:X.env.globals=mainGlobals
 blt:X.env.builtins=builtinsNs
 above:X.j1.heap.objs.size<=X.env.locals
 inj:∀x y c,X.env.cells.lookup x=some c->X.env.cells.lookup y=some c->x=y
 has:∀x,(X.env.kindOf x=some .cell\/X.env.kindOf x=some .free)->∃c,X.env.cells.lookup x=some c
 x2:∀x c,X.fn x=true->X.env.cells.lookup x=some c->X.j1.heap.objs.size<=c
 hd:X.calm=true->X.A.handled=none
 frames:X.A.frames=some X.stack
 ze:X.stack=X.outer\/(X.stack=X.env::X.outer/\X.env.frame=some X.env.locals)
 LO:∀b∈X.ex,b≠X.env.locals/\∀x c,X.env.cells.lookup x=some c->c≠b
 bs:∀b o,X.base.get? b=some o->X.j1.heap.get? b=some o/\X.nk b=none
 ZU:X.base.objs.size<=X.j1.heap.objs.size
 W5:∀b o,X.base.get? b=some o->b∉X.ex
 ZV:∀b∈X.ex,b∉X.fs
 BO:X.j1.heap.FunFrames X.base X.outer
 sv:∀b∈X.fs,X.nk b=none
structure Inv(X:Cx)(pins:BM)(σ:Qgd)(H:Hp)(s:Qb):Prop where
 ok:X.Ok
 os:s.os=X.j1.os
 bare:AllBare s.gens
 base:Un X.fs X.ex X.nk H X.j1.heap s.heap
 loc:∃m,s.heap.Ns X.env.locals m/\∀(i:Nat) (x:Str) (v:V),X.N[i]? = some x->σ[i]? = some Qay->uK X.env.scope x->∃u,RelV v u/\Look X.env s.heap m x u
 cell:∀x c,X.env.cells.lookup x=some c->∃v,s.heap.IsCell c v
 free:H X.env.locals=none
 rV:∀x c,X.env.cells.lookup x=some c->H c=none
 pin:∀p∈X.pn++pins,s.heap.get? p.1=some p.2/\H p.1=none/\p.1≠X.env.locals/\p.1∉X.fs/\∀v,p.2.data ≠ .cell v
 fQ:yI X.prog X.w H s.heap
 len:σ.length=X.N.length
variable{X:Cx}{pins:BM}{σ:Qgd}{s:Qb}
theorem Cx.Ok.atc(ok:X.Ok){o:Obj}(e:X.base.get? b=some o):b∉X.fs:=λa=>by
 have:=(ok.BO.mem a).1;grind
theorem Inv.bs(I:QE):∀b o,X.base.get? b=some o->s.heap.get? b=some o/\H b=none:=λb o e=>
 ⟨I.base.keep b o (I.ok.bs b o e).1 (I.ok.bs b o e).2 (I.ok.atc e) (I.ok.W5 b o e),I.base.free b o (I.ok.bs b o e).1 (I.ok.bs b o e).2 (I.ok.W5 b o e)⟩
theorem Inv.bk(I:QE):∀b o,X.base.get? b=some o->s.heap.get? b=some o:=λb o e=>(I.bs b o e).1
theorem Inv.mod(I:QE):Mod X.K X.mg X.base:=I.ok.mod
theorem Inv.Nt(I:QE):X.K.In s.heap:=I.ok.mod.xt.keeps I.bk
theorem Inv.nolimit(I:QE):s.heap.NoLimit:=I.ok.mod.nolimit.keeps I.bk
theorem Inv.lt(I:QE):X.env.locals<s.heap.objs.size:=let ⟨_,a,_⟩:=I.loc;a.lt
theorem Inv.sz(I:QE):X.j1.heap.objs.size<=s.heap.objs.size:=kv I.ok.above (ml I.lt)
theorem Inv.atd(I:QE)(h:s.heap.objs.size<=a):a∉X.fs:=λc=>by
 obtain⟨_,o,b,_⟩:=I.ok.BO.mem c;exact absurd (my (km b) (kv I.sz h)) (wx _)
theorem Inv.vw(I:QE):∀x c,X.env.cells.lookup x=some c->c≠X.env.locals:=λx c e z=>by
 obtain⟨v,o,b,hd⟩:=I.cell x c e;obtain⟨m,⟨o',es,ep,d,a,_⟩,_⟩:=I.loc;grind
theorem Inv.BO(I:QE):s.heap.FunFrames X.base X.outer:=by
 have all:∀(l:D1),(∀b∈U5 l,b∈X.fs)->X.j1.heap.FunFrames X.base l->s.heap.FunFrames X.base l:=by
  intro l
  induction l with
  | nil=>intro _ _;trivial
  | cons env r d=>
   intro hs i;obtain⟨j,⟨L,o,hf,h,g,hd⟩,f⟩:=i;have c:=hs L (by unfold U5;rw[nH,hf];exact gj);obtain⟨sl,e⟩:=I.base.slot L o g (I.ok.sv L c) c λz=>I.ok.ZV L z c;exact⟨j,⟨L,_,hf,h,e,hd⟩,d (λb a=>hs b (by unfold U5;rw[nH,hf];exact i4 _ a)) f⟩
 exact all _ (λ_ a=>a) I.ok.BO
theorem Inv.stack(I:QE):s.heap.FunFrames X.base X.stack:=by
 obtain e|⟨e,hf⟩:=I.ok.ze
 .rw[e];exact I.BO
 .rw[e];obtain⟨m,a,_⟩:=I.loc;refine .cons (by rw[I.ok.kind];decide) hf a ?_ I.BO;exact Heap.get?_none_of_le (kv I.ok.ZU I.ok.above)
theorem Inv.Kr(I:QE):∀b∈U5 X.stack,b∈X.env.locals::X.fs:=λb a=>by
 obtain e|⟨e,hf⟩:=I.ok.ze
 .rw[e]at a;exact i4 _ a
 .rw[e]at a;unfold U5 at a;rw[nH,hf]at a;exact a
theorem Inv.Ks(I:QE):∀b∈U5 X.stack,H b=none:=λb a=>by
 obtain e|a:=fV.1 (I.Kr b a)
 .rw[e];exact I.free
 .obtain⟨_,o,c,_⟩:=I.ok.BO.mem a;exact I.base.free b o c (I.ok.sv b a) λz=>I.ok.ZV b z a
variable{t':Nat}
theorem Inv.step{g':Array GenState}{d':Drawn}{ch:BN}(I:QE)
  (y:∀b∈ch,Qin/\b≠X.env.locals/\(∀x c,X.env.cells.lookup x=some c->c≠b)/\∀p∈X.pn++pins,p.1≠b)
  (keep:∀b o,b≠X.env.locals->b∉X.fs->b∉ch->s.heap.get? b=some o->H b=none->h'.get? b=some o)
  (slot:∀b o,b≠X.env.locals->b∈X.fs->b∉ch->s.heap.get? b=some o->H b=none->∃sl,h'.get? b=some {o with slots:=sl}) (free:∀b o,b∉ch->s.heap.get? b=some o->H b=none->H' b=none)
  (there:∀b o,b∉ch->s.heap.get? b=some o->∃o',h'.get? b=some o')
  (BK:∀b xs,H b=some Qa1->H' b=some Qa1) (gU:∀b o u,H b=some (.gT o u)->H' b=some (.gT o u)) (BL:∀b ps,H b=some (.tbl ps)->∃more,H' b=some (.tbl (ps++more)))
  (ns:∀m,s.heap.Ns X.env.locals m->h'.Ns X.env.locals m) (fQ:yI X.prog X.w H' h') (G:AllBare g') :
  Inv X pins σ H' {s with heap:=h',gens:=g',drawn:=d',toks:=t'}:=by
 have t:∀b o,X.j1.heap.get? b=some o->b≠X.env.locals:=λb o e=>ll Qhe;have g:∀b o,X.j1.heap.get? b=some o->b∉X.ex->b∉ch:=λb o e a h=>by
  rcases(y b h).1 with z|z
  .exact a z
  .exact absurd (my (km e) z) (wx _)
 have cellK:∀x c,X.env.cells.lookup x=some c->∀v,s.heap.IsCell c v->h'.IsCell c v:=λx c e v ⟨o,j,hd⟩=>by
  have f:c∉ch:=λz=>(y c z).2.2.1 x c e rfl;by_cases D:c∈X.fs
  .obtain⟨sl,q⟩:=slot c o (I.vw x c e) D f j (I.rV x c e);exact⟨_,q,hd⟩
  .exact⟨o,keep c o (I.vw x c e) D f j (I.rV x c e),hd⟩
 refine⟨I.ok,I.os,G,⟨λb o e n h a=>?_,λb o e n h a=>?_,λb o e n a=>?_,λb o e a=>?_,λb xs e=>BK b xs (I.base.BK b xs e),λb o xs e=>gU b o xs (I.base.gU b o xs e),λb ps e=>?_⟩,?_,λx c e=>?_,?_,λx c e=>?_,λp C=>?_,fQ,I.len⟩
 .exact keep b o (t b o e) h (g b o e a) (I.base.keep b o e n h a) Qi5
 .obtain⟨sl,e1⟩:=I.base.slot b o e n h a;obtain⟨A,e2⟩:=slot b _ (t b o e) h (g b o e a) e1 Qi5;exact⟨A,e2⟩
 .obtain⟨o',e1⟩:=I.base.there b o e a;exact free b o' (g b o e a) e1 Qi5
 .obtain⟨o',e1⟩:=I.base.there b o e a;exact there b o' (g b o e a) e1
 .obtain⟨m1,e1⟩:=I.base.BL b ps e;obtain⟨m2,e2⟩:=BL b _ e1;exact⟨m1++m2,by rw[e2,Array.append_assoc]⟩
 .obtain⟨m,E,F⟩:=I.loc;refine⟨m,ns m E,λi x v e1 e2 e3=>?_⟩;obtain⟨u,r,l⟩:=F i x v e1 e2 e3;refine⟨u,r,?_⟩;obtain l|⟨k,c,e,z⟩:=l
  .exact .inl l
  .exact .inr ⟨k,c,e,cellK x c e _ z⟩
 .obtain⟨v,z⟩:=I.cell x c e;exact⟨v,cellK x c e v z⟩
 .obtain⟨m,⟨o,_,_,j,_⟩,_⟩:=I.loc;exact free _ o (λz=>(y _ z).2.1 rfl) j I.free
 .obtain⟨v,o,j,hd⟩:=I.cell x c e;exact free c o (λz=>(y c z).2.2.1 x c e rfl) j (I.rV x c e)
 .obtain⟨e,n,ne,B,d⟩:=I.pin p C;have f:p.1∉ch:=λz=>(y p.1 z).2.2.2 p C rfl;exact⟨keep p.1 p.2 ne B f e n,free p.1 p.2 f e n,ne,B,d⟩
theorem Inv.un(I:QE)(u:Un X.fs [] H H' s.heap h')(fQ:yI X.prog X.w H' h'):Inv X pins σ H' {s with heap:=h',toks:=t'}:=by
 obtain⟨m,⟨o,es,ep,f,r⟩,_⟩:=id I.loc;obtain⟨sl,i⟩:=u.any f I.free WA;exact I.step (ch:=[]) (λ_ z=>nomatch z) (λb o _ a _ e n=>u.keep b o e n a WA) (λb o _ a _ e n=>u.slot b o e n a WA) (λb o _ e n=>u.free b o e n WA) (λb o _ e=>u.there b o e WA) u.BK u.gU u.BL (λj hm=>by
  obtain⟨o',c,d,g,h⟩:=hm;rw[f]at g;cases g;exact⟨_,c,d,i,h⟩) fQ I.bare
theorem Inv.call{g':Array GenState}{d':Drawn}{ch:BN}(I:QE)(u:Un (U5 X.stack) ch H H' s.heap h')(fQ:yI X.prog X.w H' h')(l:AllBare g')
  (i:∀b∈ch,Qin/\b≠X.env.locals/\(∀x c,X.env.cells.lookup x=some c->c≠b)/\∀p∈X.pn++pins,p.1≠b) :
  Inv X pins σ H' {s with heap:=h',gens:=g',drawn:=d',toks:=t'}:=by
 obtain⟨m,⟨o,es,ep,h,r⟩,_⟩:=id I.loc;obtain⟨sl,d⟩:=u.any h I.free λz=>(i _ z).2.1 rfl;exact I.step i (λb o d q a e n=>u.keep b o e n (λz=>(fV.1 (I.Kr b z)).elim d q) a) (λb o _ _ a e n=>u.any e n a) (λb o a e n=>u.free b o e n a) (λb o a e=>u.there b o e a) u.BK u.gU u.BL (λt hm=>by
  obtain⟨o',f,g,j,k⟩:=hm;rw[h]at j;cases j;exact⟨_,f,g,d,k⟩) fQ l
theorem Inv.turned{it:Addr}(I:QE)(k:∀b o,b≠it->s.heap.get? b=some o->h'.get? b=some o)(j:H it=none)(f:it≠X.env.locals)
  (h1:it∈X.ex\/X.j1.heap.objs.size<=it) (h2:∀x c,X.env.cells.lookup x=some c->c≠it) (i:∀p∈X.pn++pins,p.1≠it):Inv X pins σ H {s with heap:=h',toks:=t'}:=by
 have d:∀b u,H b=some u->b≠it:=λb u e z=>by grind
 refine I.step (ch:=[it]) (λb h=>?_) (λb o _ _ a e _=>k b o (λz=>a (by simp[z])) e) (λb o _ _ a e _=>⟨ _,k b o (λz=>a (by simp[z])) e⟩) (λ_ _ _ _ n=>n)
  (λb o a e=>⟨o,k b o (λz=>a (by simp[z])) e⟩) (λ_ _ e=>e) (λ_ _ _ e=>e) (λb ps e=>⟨#[],‹_› ⟩) (λm hm=>?_) (λb u e=>?_) I.bare
 .have e:=by simpa using h
  subst e;exact⟨h1,f,h2,i⟩
 .obtain⟨o,es,ep,g,r⟩:=hm;exact⟨o,es,ep,k _ o (mM f) g,r⟩
 .refine(I.fQ b u e).DF (λc v a q=>k c v ?_ q) Qdc λ_ _ q=>q;obtain z|z:=a
  .rw[z];exact d b u e
  .exact d c _ z
theorem Inv.tok(I:QE)(t:Nat):Inv X pins σ H {s with toks:=t}:=I.un Un.refl I.fQ
theorem Inv.kept(I:QE)(k:∀b u,s.heap.get? b=some u->h'.get? b=some u):Inv X pins σ H {s with heap:=h',toks:=t'}:=I.un (Un.kept k) (I.fQ.kept k)
theorem Inv.laid(I:QE)(k:∀b u,s.heap.get? b=some u->h'.get? b=some u)(c:s.heap.objs.size<=a)(new:g6 X.prog X.w QbJ h' a o) :
  Inv X pins σ (upd H a o) {s with heap:=h',toks:=t'}:=I.un (Un.laid k c (I.fQ.fresh c)) (I.fQ.laid k c new)
theorem Inv.write(I:QE)(c:HE (H x))(he:e=x\/H e=some Qee)(k:∀b u,b≠e->s.heap.get? b=some u->h'.get? b=some u)(a:∃u,h'.get? e=some u)
  (new:g6 X.prog X.w (upd H x o) h' x o):Inv X pins σ (upd H x o) {s with heap:=h',toks:=t'}:=I.un (Un.write c he k a) (I.fQ.write c he k a new)
theorem Inv.wR{a:BM}(I:QE)(h:∀p∈a,s.heap.get? p.1=some p.2/\H p.1=none/\p.1≠X.env.locals/\p.1∉X.fs/\∀v,p.2.data ≠ .cell v):Inv X a σ H s:=
 ⟨I.ok,I.os,I.bare,I.base,I.loc,I.cell,I.free,I.rV,λp b=>(gY.1 b).elim (λz=>I.pin p (ka _ z)) (h p),I.fQ,I.len⟩
variable{i:Nat}
def NF{N:At}(c:N.Nodup){j:Nat}{x:Str}(a:N[i]? = some x)(b:N[j]? = some x):i=j:=by
 obtain⟨h1,e1⟩:=kO.1 a;obtain⟨h2,e2⟩:=kO.1 b;exact(List.getElem_inj c).1 (e1.trans e2.symm)
variable{M:Model}{A:Qau}{E:B0}{v:V}{u:Value}{Q:Unit->Shared->Prop}
abbrev _root_.EO:=List Keyword
abbrev _root_.AB(X:Cx)(p:Pos)(e:Expr):Prop:=((backTo p Qjq).all QfT&&(backToKw p Qfa).all Qfu&&decide ([e].length+([]:EO).length+Qfc<30))=true
abbrev _root_.CU:=List Expr
abbrev _root_.AC(X:Cx)(e:Expr)(es:CU):Prop:=starEach Qab X.env=(false,eval e X.env)::starEach es X.env
abbrev _root_.AD(x:Str):Prop:=(x==("__debug__":Str))=false
abbrev _root_.AE(x:Str):Prop:=(x==("__classdict__":Str))=false
abbrev _root_.AL(X:Cx)(p:Pos)(es:CU):Prop:=(backTo p (starEach es X.env)).any (·.1)=false
abbrev _root_.AM(X:Cx)(y:Str):Prop:=X.fn y=true\/X.env.scope.names.lookup y=some .local
abbrev _root_.AN(X:Cx)(e:Expr):Prop:=∀x,foldedSetIterable e X.env x=pure x
abbrev _root_.AR(X:Cx)(e d:Expr):Prop:=starEach [e,d] X.env=[(false,eval e X.env),(false,eval d X.env)]
abbrev _root_.AS(X:Cx)(e:Expr)(f:Str):Prop:=attributeBase e f X.env QeK=eval e X.env
def W6{x:Str}(I:QE)(Y:QbP)(hi:X.N[i]? = some x)(g:Qc7)(r:RelV v u)
  (h:∀s',Inv X pins (σ.set i Qay) H s'->(∃a,Heap.SameBut a s.heap s'.heap/\(a=X.env.locals\/X.env.cells.lookup x=some a))->Q () s') (hf:AM X x:=by first|exact .inl rfl|exact .inr rfl|assumption):wpAny M A (storeName X.env x u) Q E s:=by
 obtain⟨m,S,W⟩:=id I.loc;have U:(X.env.scope.kind == .class || (X.env.scope.kind == .module&&X.env.locals != X.env.globals))=false:=by rw[I.ok.kind];rfl
 have t:i<σ.length:=by rw[I.len];exact(kO.1 hi).1
 have vw:=I.vw;have tracked:∀{a:Addr} {h':Heap},(∃o,s.heap.get? a=some o/\H a=none)->Heap.SameBut a s.heap h'->yI X.prog X.w H h':=λ{a h'} ha hs b ob e=>by
  obtain⟨_,_,NK⟩:=ha;refine(I.fQ b ob e).DF (λc G f q=>(hs.2 c ?_).trans q) Qdc λ_ _ q=>q;rintro rfl;obtain rfl|f:=f
  .rw[NK]at e;cases e
  .rw[NK]at f;cases f
 obtain l|l:=g
 .refine wpAny_storeName_local l S (λh' R hs=>?_) U;obtain⟨oL,_,_,P,_⟩:=id S;refine h _ ⟨I.ok,I.os,I.bare,⟨λb o e n C g=>?_,λb o e n C g=>?_,I.base.free,λb o e g=>?_,I.base.BK,I.base.gU,I.base.BL⟩,⟨_,R,λj y v' e1 e2 e3=>?_⟩,λy c e=>?_,I.free,I.rV,λp O=>?_,tracked ⟨oL,P,I.free⟩ hs,by simpa using I.len⟩ ⟨_,hs,.inl rfl⟩
  .exact(hs.2 b (ll Qhe)).trans (I.base.keep b o e n C g)
  .obtain⟨sl,e1⟩:=I.base.slot b o e n C g;exact⟨sl,(hs.2 b (ll Qhe)).trans e1⟩
  .obtain⟨o',e1⟩:=I.base.there b o e g;exact⟨o',(hs.2 b (ll Qhe)).trans e1⟩
  .by_cases B:j=i
   .subst B;rw[hi]at e1;cases e1;rw[yY t]at e2;cases e2;exact⟨u,r,.inl ⟨l,WA⟩⟩
   .rw[G2 (mM B)]at e2;obtain⟨u',K,q⟩:=W j y v' e1 e2 e3;refine⟨u',K,?_⟩;obtain⟨k,e⟩|⟨k,c,e,z⟩:=q
    .refine .inl ⟨k,?_⟩;have:y≠x:=λe=>B (NF Y e1 (e▸hi));simp[this,e]
    .exact .inr ⟨k,c,e,z.sameBut hs (vw y c e)⟩
  .obtain⟨G,z⟩:=I.cell y c e;exact⟨G,z.sameBut hs (vw y c e)⟩
  .obtain⟨e,n,ne,L,d⟩:=I.pin p O;exact⟨(hs.2 p.1 ne).trans e,n,ne,L,d⟩
 .have V:X.fn x=true:=by
   obtain z|z:=hf
   .exact z
   .rw[z]at l;cases l
  obtain⟨c,f⟩:=I.ok.has x (.inl l);obtain⟨G,z⟩:=I.cell x c f;refine wpAny_storeName_cell I.ok.kind l f z (λh' Z hs=>?_);obtain⟨oc,D,T⟩:=id z;refine h {s with heap:=h'} ⟨I.ok,I.os,I.bare,⟨λb o e n C g=>?_,λb o e n C g=>?_,I.base.free,λb o e g=>?_,I.base.BK,I.base.gU,I.base.BL⟩,⟨m,S.sameBut hs (Ne.symm (vw x c f)),λj y v' e1 e2 e3=>?_⟩,λy J e=>?_,I.free,I.rV,λp O=>?_,tracked ⟨oc,D,I.rV x c f⟩ hs,by simpa using I.len⟩ ⟨c,hs,.inr f⟩
  .exact(hs.2 b Qiu).trans (I.base.keep b o e n C g)
  .obtain⟨sl,e1⟩:=I.base.slot b o e n C g;exact⟨sl,(hs.2 b Qiu).trans e1⟩
  .obtain⟨o',e1⟩:=I.base.there b o e g;exact⟨o',(hs.2 b Qiu).trans e1⟩
  .by_cases B:j=i
   .subst B;rw[hi]at e1;cases e1;rw[yY t]at e2;cases e2;exact⟨u,r,.inr ⟨.inl l,c,f,Z⟩⟩
   .rw[G2 (mM B)]at e2;obtain⟨u',K,q⟩:=W j y v' e1 e2 e3;refine⟨u',K,?_⟩;obtain q|⟨k,J,e,z'⟩:=q
    .exact .inl q
    .refine .inr ⟨k,J,e,z'.sameBut hs ?_⟩;rintro rfl;exact B (NF Y e1 (I.ok.inj _ _ _ e f▸hi))
  .by_cases F:J=c
   .subst F;exact⟨_,Z⟩
   .obtain⟨w2,z2⟩:=I.cell y J e;exact⟨w2,z2.sameBut hs F⟩
  .obtain⟨e,n,ne,L,d⟩:=I.pin p O;refine⟨(hs.2 p.1 ?_).trans e,n,ne,L,d⟩;intro q;rw[q,D]at e;have q':oc=p.2:=l7 e;exact d G (by rw[← q'];exact T)
def EB{x:Str}(I:QE)(b:QbP)(hi:X.N[i]? = some x)(a:Qc7)(r:RelV v u)
  (h:∀s',Inv X pins (σ.set i Qay) H s'->Q () s') (hf:AM X x:=by first|exact .inl rfl|exact .inr rfl|assumption):wpAny M A (storeName X.env x u) Q E s:=
 W6 I b hi a r (λs' c _=>h s' c) hf
abbrev _root_.Do:=Option Addr
abbrev XK:=Value->Do->Hp->Prop
abbrev St:=List (Option V)
abbrev VK:=V->Hp->Prop
abbrev TE:=St->Hp->VK->Prop
abbrev _root_.Dx:=Bool->Hp->Prop
abbrev TT:=St->Hp->Dx->Prop
abbrev _root_.EN:=BY->Hp->Prop
abbrev TA:=St->Hp->EN->Prop
structure Ends where
 nx:St->Hp->Prop
 rt:VK
 bk:St->Hp->Prop:=λ_ _=>False
 ct:St->Hp->Prop:=λ_ _=>False
abbrev TS:=Ends->St->Hp->Prop
def EP(X:Cx)(pins:BM)(σ:St)(Q:VK)(u:Value)(s':Qb):Prop:=∃v H',Inv X pins σ H' s'/\RelV v u/\Q v H'
def TP(X:Cx)(pins:BM)(σ:St)(Q:Dx)(b:Bool)(s':Qb):Prop:=∃H',Inv X pins σ H' s'/\Q b H'
def AP(X:Cx)(pins:BM)(σ:St)(Q:EN)(us:B1)(s':Qb):Prop:=∃vs H',Inv X pins σ H' s'/\Vals vs us/\Q vs H'
def SP(X:Cx)(pins:BM)(D:Ends)(f:Flow)(s':Qb):Prop:=
 match f with
 | .next=>∃σ' H',Inv X pins σ' H' s'/\D.nx σ' H'
 | .brk=>∃σ' H',Inv X pins σ' H' s'/\D.bk σ' H'
 | .cont=>∃σ' H',Inv X pins σ' H' s'/\D.ct σ' H'
 | .ret u=>∃v σ' H',Inv X pins σ' H' s'/\RelV v u/\D.rt v H'
def PE(X:Cx)(e:Expr)(t:TE):Prop:=
 ∀(pins:BM) (s:Qb) (σ:St) (H:Hp) (Q:VK),Inv X pins σ H s->t σ H Q->wpAny Qu X.A QeK Qa5 X.xe s
def PT(X:Cx)(e:Expr)(t:TT):Prop:=
 ∀(pins:BM) (s:Qb) (σ:St) (H:Hp) (Q:Dx),Inv X pins σ H s->t σ H Q->wpAny Qu X.A (isTrue e X.env QeK) QeE X.xe s
def PW(X:Cx)(e:Expr)(t:TT):Prop:=
 ∀(whole:Sem Value) (pins:BM) (s:Qb) (σ:St) (H:Hp) (Q:Dx),Inv X pins σ H s->t σ H Q->wpAny Qu X.A (isTrue e X.env whole) QeE X.xe s
def PA(X:Cx)(es:CU)(t:TA):Prop:=
 ∀(pos:Pos) (pins:BM) (s:Qb) (σ:St) (H:Hp) (Q:EN),Inv X pins σ H s->t σ H Q->wpAny Qu X.A QkG (AP X pins σ Q) X.xe s
def PS(X:Cx)(st:Stmt)(t:TS):Prop:=
 ∀(pins:BM) (s:Qb) (σ:St) (H:Hp) (D:Ends),Inv X pins σ H s->t D σ H->wpAny Qu X.A (exec st X.env) (SP X pins D) X.xe s
abbrev _root_.Co:=List Stmt
def QS(X:Cx)(st:Co)(t:TS):Prop:=
 ∀(pins:BM) (s:Qb) (σ:St) (H:Hp) (D:Ends),Inv X pins σ H s->t D σ H->wpAny Qu X.A (execs st X.env) (SP X pins D) X.xe s
noncomputable def fY{α:Type}{t:Sem α}{Q b:α->Shared->Prop}(h:wpAny M A t Q E s)(hQ:∀a s,Q a s->b a s):wpAny M A t b E s:=nq h hQ λ_ _ x=>x
section
noncomputable def ati(i:Nat):TE:=λσ H Q=>∃v,σ[i]? = some Qay/\Q v H
def tC(v:V):TE:=λ_ H Q=>Q v H
def kP{x:Str}{pos:Pos}(j:X.N[i]? = some x)(hv:uK X.env.scope x)(hd:AD x:=by decide)(kN:AE x:=by decide):PE X Qav (ati i):=by
 intro pins s σ H Q I h;obtain⟨v,e,h⟩:=h;obtain⟨m,f,g⟩:=I.loc;obtain⟨u,r,l⟩:=g i x v j e hv;have fin:EP X pins σ Q u s:=⟨v,H,I,r,h⟩;obtain⟨a,hm⟩|⟨a,c,d,b⟩:=l
 .exact wpAny_Name (wpAny_loadName_local I.ok.kind a f hm fin) hd
 .obtain a|a:=a
  .exact wpAny_Name (wpAny_loadName_cell I.ok.kind a d b fin) hd
  .exact wpAny_Name (wpAny_loadName_free I.ok.kind a d b fin kN) hd
noncomputable def ZX{i j pos}:PE X Qi3 (tC QaQ):=λ_ _ _ H _ I h=>wpAny_Constant_int ⟨.int i,H,I.tok _,⟨_,rfl⟩,h⟩
noncomputable def Ta{b j pos}:PE X (.Constant (.bool b) j pos) (tC (.bl b)):=λ_ _ _ H _ I h=>Constant_bool ⟨.bl b,H,I,rfl,h⟩
noncomputable def aks{x j pos}:PE X QjE (tC Qbc):=λ_ _ _ H _ I h=>Calls.Constant_str ⟨.str x,H,I.tok _,⟨_,rfl⟩,h⟩
def Gl(X:Cx)(x:Str):Prop:=X.env.kindOf x=some .globalImplicit
def DZ{σ:St}{x:Str}{pos:Pos}{Q:B0}(I:QE)(a:Qao)(hm:X.mg x=some u)(h:Q u s)
  (hd:AD x:=by decide):wpAny Qu X.A (eval Qav X.env) Q E s:=
 Calls.Name_function_global I.ok.kind a (Calls.loadGlobal_global (I.ok.glob▸I.mod.glob.keeps I.bk) hm h) hd
def qT{σ:St}{x:Str}{pos:Pos}{Q:B0}(I:QE)(b:Qao)(hm:X.mg x=none)(hv:bootBuiltins x=some u)(h:Q u s)
  (a:x≠"__name__":=by decide) (hd:AD x:=by decide):wpAny Qu X.A (eval Qav X.env) Q E s:=by
 obtain⟨mb,h1,h2⟩:=I.mod.blt;exact Calls.Name_function_global I.ok.kind b (Calls.loadGlobal_builtin (I.ok.glob▸I.mod.glob.keeps I.bk) hm (I.ok.blt▸h1.keeps I.bk) ((h2 x a).trans hv) h) hd
def Ku{x:Str}{pos:Pos}(a:Qao)(hm:X.mg x=some u)(r:RelV v u)(hd:AD x:=by decide):PE X Qav (tC v):=
 λ_ _ _ H _ I h=>DZ I a hm ⟨v,H,I,r,h⟩ hd
variable{a b:Expr}{ta tb:TE}{pos:Pos}
noncomputable def tB(t:TE):TT:=λσ H Q=>t σ H λx H1=>∃c,x=.bl c/\Q c H1
def akt{e:Expr}{t:TE}(h:PE X e t)(he:∀whole,isTrue e X.env whole=(do let v ← whole;standAt e.pos;holding [v] (truthy v)):=by intro _;rfl):PT X e (tB t):=by
 intro pins s σ H Q I hw;refine isTrue_plain (fY (h pins s σ H _ I hw) λv s1 zz=>?_) (he _);obtain⟨x,H1,c,a,b⟩:=zz;obtain⟨d,rfl,q⟩:=b;cases a;exact Hn ⟨H1,c,q⟩
variable{tA tB':TT}{rest:CU}
noncomputable def atj(t u:TT):TT:=λσ H Q=>t σ H λc H1=>if c=true then u σ H1 Q else Q false H1
noncomputable def tOr(t u:TT):TT:=λσ H Q=>t σ H λc H1=>if c=true then Q true H1 else u σ H1 Q
noncomputable def atk(t:TT):TT:=λσ H Q=>t σ H λc H1=>Q (!c) H1
theorem U6(b:PT X a tA):PW X (.BoolOp .And [a] pos) tA:=by
 intro d pins s σ H Q I h;refine isTrue_and (fY (b pins s σ H Q I h) λc s1 e=>?_);cases c with
 | true=>exact isTrue_and_nil e
 | false=>exact e
theorem aku(b:PT X a tA):PW X (.BoolOp .Or [a] pos) tA:=by
 intro d pins s σ H Q I h;refine isTrue_or (fY (b pins s σ H Q I h) λc s1 e=>?_);cases c with
 | false=>exact isTrue_or_nil e
 | true=>exact e
theorem ZY(i:PT X a tA)(g:PW X (.BoolOp .And (b::rest) pos) tB'):PW X (.BoolOp .And (a::b::rest) pos) (atj tA tB'):=by
 intro f pins s σ H Q I h;refine isTrue_and (fY Qez λc s1 zz=>?_);obtain⟨H1,e,d⟩:=zz;cases c with
 | true=>exact g f pins s1 σ H1 Q e d
 | false=>exact⟨H1,e,d⟩
theorem U7(i:PT X a tA)(g:PW X (.BoolOp .Or (b::rest) pos) tB'):PW X (.BoolOp .Or (a::b::rest) pos) (tOr tA tB'):=by
 intro f pins s σ H Q I h;refine isTrue_or (fY Qez λc s1 zz=>?_);obtain⟨H1,e,d⟩:=zz;cases c with
 | true=>exact⟨H1,e,d⟩
 | false=>exact g f pins s1 σ H1 Q e d
noncomputable def akv(b:PT X a tA):PT X (.UnaryOp .Not a pos) (atk tA):=λpins s σ H Q I h=>isTrue_not (b pins s σ H _ I h)
noncomputable def atl(ta tb:TE):TE:=λσ H Q=>ta σ H λx H1=>∃c,x=.bl c/\if c=true then Q Qdl H1 else tb σ H1 Q
noncomputable def akw{op}{t:TE}(h:PE X a t):PE X (.BoolOp op [a] pos) t:=λpins s σ H Q I hw=>BoolOp_one (h pins s σ H Q I hw)
theorem ao4(i:QcJ)(g:PE X (.BoolOp .Or (b::rest) pos) tb):PE X (.BoolOp .Or (a::b::rest) pos) (atl ta tb):=by
 intro pins s σ H Q I h;refine BoolOp_or (fY Qez λv s1 zz=>?_);obtain⟨x,H1,e,f,d⟩:=zz;obtain⟨c,rfl,d⟩:=d;cases f;refine Hn ?_;cases c with
 | false=>exact g pins s1 σ H1 Q e d
 | true=>exact⟨.bl true,H1,e,rfl,d⟩
noncomputable def tIf(t:TT)(ta tb:TE):TE:=λσ H Q=>t σ H λc H1=>if c=true then ta σ H1 Q else tb σ H1 Q
theorem ZZ{c:Expr}(g:PT X c tA)(j:QcJ)(i:PE X b tb):PE X (.IfExp c a b pos) (tIf tA ta tb):=by
 intro pins s σ H Q I h;refine wpAny_IfExp (fY Qhg λd s1 zz=>?_);obtain⟨H1,f,e⟩:=zz;cases d with
 | true=>exact j pins s1 σ H1 Q f e
 | false=>exact i pins s1 σ H1 Q f e
end
def nS(K:Frag)(H:Hp)(a:Addr)(xs:BY):Prop:=
 Rd H a Qa2 ∨
  ∃(o:Obj) (its:CS) (n:Nat),K.lookup a=some o/\o.cls=.type "list" /\ o.dict=none/\o.data=.seq its n/\its.size<=sizeLine/\Vals xs its.toList
def zY(K:Frag)(H:Hp)(a:Addr)(xs:BY):Prop:=
 Rd H a Qa1 ∨
  ∃(o:Obj) (its:CS) (n:Nat),K.lookup a=some o/\o.cls=.type "tuple" /\ o.data=.seq its n/\its.size<=sizeLine/\Vals xs its.toList
noncomputable def atm:Value->Option V
 | .none=>some .non
 | .bool b=>some (.bl b)
 | .int i _=>some QaQ
 | .str x _ => some Qbc
 | .bytes b _=>some (.U3 b)
 | .float b _=>some (.flt b)
 | .ref a=>some Qan
 | .type n=>some (.ty n)
 | _=>none
theorem RelV.abs{x:V}(r:RelV x u):atm u=some x:=by
 cases x with
 | non=>cases r;rfl
 | bl _=>cases r;rfl
 | int _=>obtain⟨t,rfl⟩:=r;rfl
 | str _=>obtain⟨t,rfl⟩:=r;rfl
 | U3 _=>obtain⟨t,rfl⟩:=r;rfl
 | flt _=>obtain⟨t,rfl⟩:=r;rfl
 | ref _=>cases r;rfl
 | ty _=>cases r;rfl
theorem RelV.inj{x y:V}(r:RelV x u)(q:Qcb):x=y:=l7 (r.abs.symm.trans q.abs)
theorem Vals.inj{ys:BY}(h:Qdn)(q:Vals ys us):xs=ys:=by
 induction h generalizing ys with
 | nil=>cases q;rfl
 | cons r _ i=>cases q with
  | cons a t'=>rw[r.inj a,i t']
variable{σ:St}{ys:BY}{K:Frag}
theorem nS.of(h:H a=some Qa2):nS K H a xs:=.inl (.inl h)
theorem zY.of(h:H a=some Qa1):zY K H a xs:=.inl (.inl h)
theorem Inv.list(I:QE)(h:nS X.K H a xs):∃its:B1,Vals xs its/\PlainL s.heap a its.toArray/\xs.length<=sizeLine:=by
 obtain h|⟨o,its,n,b,c,hd,hs,hz,r⟩:=h
 .obtain⟨z,its,n,r,e⟩:=h.ok I.fQ;exact⟨its,r,⟨_,n,e,rfl,rfl,rfl⟩,z⟩
 .refine⟨ _,r,⟨o,n,I.Nt a o b,c,hd,‹_› ⟩,?_⟩;have e:=r.length;grind
theorem Inv.tuple(I:QE)(h:zY X.K H a xs):∃its:B1,Vals xs its/\IsTup s.heap a its.toArray/\xs.length<=sizeLine:=by
 obtain h|⟨o,its,n,b,c,hs,hz,r⟩:=h
 .obtain⟨z,its,r,p⟩:=h.ok I.fQ;exact⟨its,r,p,z⟩
 .refine⟨ _,r,⟨o,I.Nt a o b,c,n,‹_› ⟩,?_⟩;have e:=r.length;grind
theorem Inv.EC(I:QE)(h:nS X.K H a xs)(h':nS X.K H a ys):xs=ys:=by
 obtain⟨its,r,⟨o,n,e,_,_,d⟩,_⟩:=I.list h;obtain⟨its',c,⟨o',f,b,_,_,d'⟩,_⟩:=I.list h';rw[e]at b;cases b;rw[d]at d';injection d' with d1 _;have:its=its':=by simp_all
 subst this;exact r.inj c
theorem Inv.W7(I:QE)(h:zY X.K H a xs)(h':zY X.K H a ys):xs=ys:=by
 obtain⟨its,r,⟨o,e,_,n,d⟩,_⟩:=I.tuple h;obtain⟨its',c,⟨o',b,_,f,d'⟩,_⟩:=I.tuple h';rw[e]at b;cases b;rw[d]at d';injection d' with d1 _;have:its=its':=by simp_all
 subst this;exact r.inj c
noncomputable abbrev Cx.mi(X:Cx)(E:B0):Cx:={X with xe:=E}
abbrev Cx.Kv(X:Cx):Cx:=X.mi λ_ _=>False
theorem Cx.Ok.mi(ok:X.Ok)(E:B0):(X.mi E).Ok:=
 ⟨ok.mod,ok.kind,ok.glob,ok.blt,ok.above,ok.inj,ok.has,ok.x2,ok.hd,ok.frames,ok.ze,ok.LO,ok.bs,ok.ZU,ok.W5,ok.ZV,ok.BO,ok.sv⟩
theorem Cx.Ok.uZ(ok:(X.mi E).Ok):X.Ok:=
 ⟨ok.mod,ok.kind,ok.glob,ok.blt,ok.above,ok.inj,ok.has,ok.x2,ok.hd,ok.frames,ok.ze,ok.LO,ok.bs,ok.ZU,ok.W5,ok.ZV,ok.BO,ok.sv⟩
theorem Inv.mi(I:QE)(E:B0):Inv (X.mi E) pins σ H s:=⟨I.ok.mi E,I.os,I.bare,I.base,I.loc,I.cell,I.free,I.rV,I.pin,I.fQ,I.len⟩
theorem Inv.uZ(I:Inv (X.mi E) pins σ H s):Inv X pins σ H s:=⟨I.ok.uZ,I.os,I.bare,I.base,I.loc,I.cell,I.free,I.rV,I.pin,I.fQ,I.len⟩
theorem SP.uZ{D:Ends}{f:Flow}{s':Qb}(h:SP (X.mi E) pins D f s'):SP X pins D f s':=by
 cases f with
 | next=>obtain⟨σ',H',I,q⟩:=h;exact⟨σ',H',I.uZ,q⟩
 | brk=>obtain⟨σ',H',I,q⟩:=h;exact⟨σ',H',I.uZ,q⟩
 | cont=>obtain⟨σ',H',I,q⟩:=h;exact⟨σ',H',I.uZ,q⟩
 | ret u=>obtain⟨v,σ',H',I,r,q⟩:=h;exact⟨v,σ',H',I.uZ,r,q⟩
theorem QS.Kv{st:Co}{t:TS}(h:QS X.Kv st t):QS X st t:=λpins s σ H D I hw=>
 nq (h pins s σ H D (I.mi _) hw) (λ_ _ q=>q.uZ) λ_ _ z=>False.elim z
section
variable{st:Stmt}{rest:Co}{t u:TS}{e:Expr}{te:TE}{pos:Pos}
def ao5:TS:=λD σ H=>D.nx σ H
noncomputable def atn(t u:TS):TS:=λD σ H=>t {D with nx:=u D} σ H
noncomputable def afz:QS X [] ao5:=λ_ _ σ H _ I h=>wpAny_execs_nil ⟨σ,H,I,h⟩
theorem Z6(h1:PS X st t)(h2:QS X rest u):QS X (st::rest) (atn t u):=by
 intro pins s σ H D I h;refine wpAny_execs_cons (fY (h1 pins s σ H _ I h) λf s1 q=>?_);cases f with
 | next=>
  obtain⟨σ',H',a,q⟩:=q;exact h2 pins s1 σ' H' D a q
 | ret v=>exact q
 | brk=>exact q
 | cont=>exact q
def akx:TS:=λD σ H=>D.bk σ H
def ao6:TS:=λD σ H=>D.ct σ H
noncomputable def Z7:PS X (.Break pos) akx:=λ_ _ σ H _ I h=>wpAny_Break ⟨σ,H,I,h⟩
noncomputable def NP:PS X (.Continue pos) ao6:=λ_ _ σ H _ I h=>wpAny_Continue ⟨σ,H,I,h⟩
theorem Inv.quiet(I:QE):interactive X.env=false:=by simp[interactive,I.ok.kind]
noncomputable def ao7(te:TE):TS:=λD σ H=>te σ H λ_ H1=>D.nx σ H1
def zZ(he:QbQ)(hs:Qii:=by rfl):PS X (.Expr e pos) (ao7 te):=λpins s σ H D I h=>wpAny_Expr_any (fY QbE λv s1 ⟨x,H1,b,c,a⟩=>⟨σ,H1,b,a⟩) I.quiet hs
noncomputable def ato(te:TE):TS:=λD σ H=>te σ H D.rt
def Z8(he:QbQ):PS X Qjd (ato te):=λpins s σ H D I h=>wpAny_Return_some (fY QbE λv s1 ⟨x,H1,c,a,b⟩=>⟨x,σ,H1,c,a,b⟩)
noncomputable def atp(c:TT)(t u:TS):TS:=λD σ H=>c σ H λb H1=>if b=true then t D σ H1 else u D σ H1
theorem S3{c:Expr}{a b:Co}{e:TT}(i:PT X c e)(k:QS X a t)(j:QS X b u):PS X (.If c a b pos) (atp e t u):=by
 intro pins s σ H D I h;refine wpAny_If (fY Qez λd s1 zz=>?_);obtain⟨H1,g,f⟩:=zz;cases d with
 | true=>exact k pins s1 σ H1 D g f
 | false=>exact j pins s1 σ H1 D g f
end
abbrev TG:=V->St->Hp->(St->Hp->Prop)->Prop
abbrev wO:=BY->St->Hp->(St->Hp->Prop)->Prop
def PG(X:Cx)(target:Expr)(t:TG):Prop:=
 ∀(pins:BM) (s:Qb) (σ:St) (H:Hp) (v:V) (u:Value) (Q:St->Hp->Prop),Inv X pins σ H s->RelV v u->t v σ H Q →
  wpAny Qu X.A (assign target X.env u) (λ_ s'=>∃σ' H',Inv X pins σ' H' s'/\Q σ' H') X.xe s
def LA(X:Cx)(ts:CU)(t:wO):Prop:=
 ∀(pins:BM) (s:Qb) (σ:St) (H:Hp) (vs:BY) (us:B1) (Q:St->Hp->Prop),Inv X pins σ H s->Vals vs us->t vs σ H Q →
  wpAny Qu X.A (assignInOrder ((assignEach ts X.env).map (·.2)) us) (λ_ s'=>∃σ' H',Inv X pins σ' H' s'/\Q σ' H') X.xe s
abbrev Mn:=V->V->V->Hp->(Hp->Prop)->Prop
def Sa(X:Cx)(t:Mn):Prop:=
 ∀(pins:BM) (s:Qb) (σ:St) (H:Hp) (o i v:V) (a b u:Value) (Q:Hp->Prop),Inv X pins σ H s->RelV o a->RelV i b->RelV v u->t o i v H Q →
  wpAny Qu X.A (setItem a b u) (λ_ s'=>∃H',Inv X pins σ H' s'/\Q H') X.xe s
abbrev Lo:=V->V->Hp->VK->Prop
def PIp(X:Cx)(op:Operator)(t:Lo):Prop:=
 ∀(pins:BM) (s:Qb) (σ:St) (H:Hp) (x y:V) (v u:Value) (Q:VK),Inv X pins σ H s->RelV x v->RelV y u->t x y H Q →
  wpAny Qu X.A (inplaceOp op v u) Qa5 X.xe s
variable{pos:Pos}
noncomputable def Jv(i:Nat):TG:=λv σ H Q=>Q (σ.set i Qay) H
def tD{x:Str}(b:QbP)(hi:X.N[i]? = some x)(a:Qc7)(hf:AM X x:=by first|exact .inl rfl|exact .inr rfl|assumption):PG X Qav (Jv i):=λpins s σ H v u Q I r h=>wpAny_assign_Name (EB I b hi a r (λs' c=>⟨_,H,c,h⟩) hf)
noncomputable def R9:wO:=λvs σ H Q=>vs=[]/\Q σ H
noncomputable def Z9(t:TG)(u:wO):wO:=λvs σ H Q=>∃v r,vs=v::r/\t v σ H λσ' H'=>u r σ' H' Q
def afA:LA X [] R9:=by
 intro pins s σ H vs us Q I r h;obtain⟨e,h⟩:=h;exact assignInOrder_nil ⟨σ,H,I,h⟩
variable{es:CU}
def NQ{e:Expr}{t:TG}{u:wO}(h1:PG X e t)(h2:LA X es u)
  (hs:(assignEach Qab X.env).map (·.2)=assign e X.env::(assignEach es X.env).map (·.2):=by rfl):LA X Qab (Z9 t u):=by
 intro pins s σ H vs us Q I r h;obtain⟨v,f,e1,h⟩:=h;subst e1;cases r with
 | cons r b=>
  rw[hs];refine assignInOrder_cons (fY (h1 pins s σ H _ _ _ I r h) λ_ s1 zz=>?_);obtain⟨a,H1,d,c⟩:=zz;exact h2 pins s1 a H1 _ _ Q d b c
noncomputable def RN(K:Frag)(n:Nat)(t:wO):TG:=λv σ H Q=>∃a xs,v=.ref a/\zY K H a xs/\xs.length=n/\t xs σ H Q
variable{k:Nat}
def akA{t:wO}{n:Nat}(m:QaK)(h:LA X es t)
  (j:(assignEach es X.env).length=n:=by rfl) (d:(assignEach es X.env).findIdx? (·.1)=none:=by rfl):PG X (.Tuple es k pos) (RN X.K n t):=by
 intro pins s σ H v u Q I r hw;obtain⟨a,xs,e1,i,l,hw⟩:=hw;subst e1;cases r;obtain⟨its,c,g,hz⟩:=I.tuple i;refine assign_Tuple_tuple (I.ok.hd m) g (by simp[j,← l,c.length]) d λh' f=>?_;have p:=I.kept (t':=s.toks) λb o e=>f b o Qf4 e;exact h pins _ σ H xs _ Q p (‹_›) hw
noncomputable def atq(to a:TE)(t:Mn):TG:=λv σ H Q=>to σ H λo H1=>a σ H1 λi H2=>t o i v H2 λb=>Q σ b
def akB{o i:Expr}{to a:TE}{t:Mn}(g:PE X o to)(hi:PE X i a)(hs:Sa X t)
  (n:∀v,assign (.Subscript o i pos) X.env v=(do
   let U ← holding [v] (eval o X.env)
   let iv ← holding [v,U] (eval i X.env)
   standAt pos
   holding [v,U,iv] (setItem U iv v)
   release [v,U,iv] []):=by intro _;rfl):PG X (.Subscript o i pos) (atq to a t):=by
 intro pins s σ H v u Q I r h;refine i8 (x5 (fY Qhg λU s1 zz=>?_));obtain⟨x,H1,l,c,f⟩:=zz;refine i8 (x5 (fY (hi pins s1 σ H1 _ l f) λiv s2 zz=>?_));obtain⟨y,H2,k,b,e⟩:=zz;refine i8 (FV (i8 (x5 (fY (hs pins s2 σ H2 x y v U iv u _ k c b r e) λ_ s3 zz=>?_))));obtain⟨m,j,d⟩:=zz;exact wpAny_release ⟨σ,m,j,d⟩
noncomputable def RM(te:TE)(g:TG):TS:=λD σ H=>te σ H λx H1=>g x σ H1 D.nx
variable{tg:Expr}{te:TE}
def akC{e:Expr}{g:TG}(he:QbQ)(c:PG X tg g)(hs:swapsWithSole [tg] e pos.line X.env=pure false:=by rfl)(hw:swappedStores [tg] e X.env=pure none:=by rfl)
  (h1:(assignEach [tg] X.env).map (·.2)=[assign tg X.env]:=by rfl):PS X (.Assign [tg] e pos) (RM te g):=by
 intro pins s σ H D I h;refine wpAny_Assign_stores (fY QbE λv s1 zz=>?_) hs hw;obtain⟨x,H1,d,a,b⟩:=zz;rw[h1];exact fY (c pins s1 σ H1 x v _ d a b) λ_ s2 q=>q
def aac{x:Str}{e:Expr}{pos':Pos}(d:QbP)(hi:X.N[i]? = some x)(c:Qc7)(he:QbQ)(hs:Qfb:=by rfl)(hf:AM X x:=by first|exact .inl rfl|exact .inr rfl|assumption) :
  PS X QiH (RM te (Jv i)):=by
 intro pins s σ H D I h;refine wpAny_Assign_Name (fY QbE λv s1 zz=>?_) hs;obtain⟨y,H1,g,a,b⟩:=zz;exact EB g d hi c a (λs2 f=>⟨_,H1,f,b⟩) hf
noncomputable def atr(i:Nat)(te:TE)(a:Lo):TS:=λD σ H=>∃x,σ[i]? = some (some x)/\te σ H λy H1=>a x y H1 λz H2=>D.nx (σ.set i (some z)) H2
theorem akD{x:Str}{e:Expr}{op:Operator}{j:Lo}{pos':Pos}(G:QbP)(hi:X.N[i]? = some x)(g:Qc7)(he:QbQ)(B:PIp X op j)(hf:AM X x:=by first|exact .inl rfl|exact .inr rfl|assumption) :
  PS X (.AugAssign QdB op e pos) (atr i te j):=by
 intro pins s σ H D I h;obtain⟨v,e1,h⟩:=h;obtain⟨m,C,E⟩:=I.loc;have f:uK X.env.scope x:=by obtain k|k:=g;exact .inl k;exact .inr (.inl k)
 obtain⟨u,r,l⟩:=E i x v hi e1 f;refine wpAny_AugAssign_Name ?_;have go:wpAny Qu X.A QeK (λw d=>wpAny Qu X.A (inplaceOp op u w) (λr b=>wpAny Qu X.A (storeName X.env x r) (λ_=>SP X pins D .next) X.xe b) X.xe d) X.xe s:=by
  refine fY QbE λw s1 zz=>?_;obtain⟨y,H1,L,p,t⟩:=zz;refine fY (B pins s1 σ H1 v y u w _ L r p t) λz s2 zz=>?_;obtain⟨M,H2,K,o,q⟩:=zz;exact EB K G hi g o (λs3 J=>⟨_,H2,J,q⟩) hf
 obtain⟨a,hm⟩|⟨a,c,F,n⟩:=l
 .exact wpAny_loadName_local I.ok.kind a C hm go
 .obtain a|a:=a
  .exact wpAny_loadName_cell I.ok.kind a F n go
  .obtain k|k:=g
   .have:X.env.scope.names.lookup x=some _:=a;simp_all
   .have:X.env.scope.names.lookup x=some _:=a;simp_all
noncomputable def ipI(f:Int->Int->Int):Lo:=λx y H Q=>∃i j,x=.int i/\y=.int j/\Q (.int (f i j)) H
def akE:PIp X .Add (ipI λi j=>i+j):=by
 intro pins s σ H x y v u Q I b a h;obtain⟨i,j,e1,e2,q⟩:=h;subst e1;subst e2;obtain⟨t,rfl⟩:=b;obtain⟨t',rfl⟩:=a;exact iadd_int ⟨.int _,H,I.tok _,⟨_,rfl⟩,q⟩
noncomputable def akF(c:TT)(tb:TS):TS:=λD σ H=>∃W:Nat->St->Hp->Prop,(∃m,W m σ H)/\∀m σ H,W m σ H →
 c σ H λb H1=>if b=true then ∃N:St->Hp->Prop,(∀σ' H',N σ' H'->∃a,a<m/\W a σ' H')/\tb {D with nx:=N,ct:=N,bk:=D.nx} σ H1 else D.nx σ H1
variable{c:Expr}
theorem aad{body:Co}{o:TT}{tb:TS}(p:QgR)(u:PT X c o)(x:QS X body tb):PS X (.While c body [] pos) (akF o tb):=by
 intro pins s σ H D I h;obtain⟨W,⟨m0,w0⟩,turn⟩:=h;refine wpAny_While (codeAny_whileLoop (λn s'=>∃σ' H',Inv X pins σ' H' s'/\W n σ' H') ?_ m0 ⟨σ,H,I,w0⟩);rintro n s1 ⟨d,H1,y,t⟩;refine wb p (fY (u pins s1 d H1 _ y (turn n d H1 t)) λb s2 zz=>?_);obtain⟨H2,r,i⟩:=zz;cases b with
 | true=>
  obtain⟨N,q,i⟩:=i;refine wb p (fY (x pins s2 d H2 _ r i) λf s3 g=>?_);cases f with
  | next=>
   obtain⟨a,e,m,k⟩:=g;obtain⟨l,hm,j⟩:=q a e k;exact⟨l,hm,a,e,m,j⟩
  | cont=>
   obtain⟨a,e,m,k⟩:=g;obtain⟨l,hm,j⟩:=q a e k;exact⟨l,hm,a,e,m,j⟩
  | brk=>exact g
  | ret v=>exact g
 | false=>
  exact wpAny_execs_nil ⟨d,H2,r,i⟩
structure It where
 go:Nat->Hp->Prop
 o6:Nat->Hp->V->Hp->Prop
 stop:Nat->Hp->Prop
def oE(X:Cx)(pins:BM)(H:Hp)(b:Addr):Prop:=
 H b=none/\b≠X.env.locals/\b∉X.fs/\Qin/\(∀x c,X.env.cells.lookup x=some c->c≠b)/\∀p∈X.pn++pins,p.1≠b
theorem Inv.HG(I:QE)(a:s.heap.objs.size<=b)(f:H' b=none):oE X pins H' b:=by
 refine⟨f,Nat.ne_of_gt (my I.lt a),I.atd a,.inr (kv I.sz a),λx c e z=>?_,λp d z=>?_⟩
 .obtain⟨v,q⟩:=I.cell x c e;exact absurd (my q.lt (z▸a)) (wx _)
 .exact absurd (my (km (I.pin p d).1) (z▸a)) (wx _)
structure Turn(P:Qat)(w:World)(K:Frag)(tg:Expr)(J:It)(fp:BN)(it:Addr)(tn:QhA):Prop where
 mem:it∈fp
 obj:∀i h,tn i h->∀b∈fp,∃o,h.get? b=some o/\∀v,o.data ≠ .cell v
 keep:∀i h h',tn i h->(∀b∈fp,∀o,h.get? b=some o->h'.get? b=some o)->tn i h'
 item:∀(X:Cx),X.prog=P->X.w=w->X.K=K->X.calm=true->∀(i:Nat) (pins:BM) (s:Qb) (σ:St) (H:Hp) (E:B0),Inv X pins σ H s->(∀b∈fp,oE X pins H b)->tn i s.heap->J.go i H →
  wpAny Qdk X.A (pyNext Qbw) (λr s1=>∃u,r=some u ∧
   wpAny Qdk X.A (letOwnedTupleGo tg Qbw u) (λ_ s2=>∃x H',Inv X pins σ H' s2/\RelV x u/\J.o6 i H x H'/\tn QaR s2.heap/\∀b∈fp,H' b=none) E s1) E s
 done:∀(X:Cx),X.prog=P->X.w=w->X.K=K->X.calm=true->∀(i:Nat) (pins:BM) (s:Qb) (σ:St) (H:Hp) (E:B0),Inv X pins σ H s->(∀b∈fp,oE X pins H b)->tn i s.heap->J.stop i H →
  wpAny Qdk X.A (pyNext Qbw) (λr s1=>r=none/\Inv X pins σ H s1) E s
 self:∀(A:Qau) (i:Nat) (s:Qb) (Q:B0) (E:B0),tn i s.heap->Q Qbw s->wpAny Qdk A (pyIter Qbw) Q E s
abbrev TI:=St->Hp->(It->Hp->Prop)->Prop
def PIE(X:Cx)(pins:BM)(σ:St)(tg:Expr)(R:QfQ)(a:Value)(s2:Qb):Prop:=
 ∃(it:Addr) (fp:BN) (tn:QhA) (J:It) (H':Hp),a=.ref it/\Inv X pins σ H' s2/\Turn X.prog X.w X.K tg J fp it tn/\tn 0 s2.heap/\(∀b∈fp,oE X pins H' b)/\R J H'
def PI(X:Cx)(tg iter:Expr)(a:TI):Prop:=
 ∀(pins:BM) (s:Qb) (σ:St) (H:Hp) (R:QfQ),Inv X pins σ H s->a σ H R →
  wpAny Qu X.A (eval iter X.env) (λv s1=>wpAny Qu X.A (pyIter v) (PIE X pins σ tg R) X.xe s1) X.xe s
def U8{it:Addr}{o:Obj}{n:String}{vs:CS}(a:s.heap.get? it=some o)(c:o.cls=.type n)(hd:o.data=.fields vs)
  (b:["enumerate","zip","dict_itemiterator","dict_reverseitemiterator","odict_iterator","itertools.zip_longest","itertools.pairwise"].contains n=false) (hQ:Q () s):wpAny M A (letOwnedTupleGo tg Qbw u) Q E s:=by
 cases tg<;>first
  | exact kX hQ
  | (cases u<;>first
    | exact kX hQ
    | (refine i8 (wpAny_load a ?_)
       rw[c,hd];show wpAny M A (if (["enumerate","zip","dict_itemiterator","dict_reverseitemiterator","odict_iterator","itertools.zip_longest","itertools.pairwise"].contains n&&vs[0]? == some _)=true then _ else _) Q E s;rw[cq (by intro h;rw[b]at h;cases h)];exact kX hQ))
noncomputable def Itl(K:Frag)(a:Addr):It:=
 ⟨λi H=>∃xs x,nS K H a xs/\xs[i]? = some x,λi H x H'=>H'=H/\∀xs,nS K H a xs->xs[i]? = some x,λi H=>∃xs,nS K H a xs/\xs.length<=i⟩
noncomputable def Itt(K:Frag)(a:Addr):It:=
 ⟨λi H=>∃xs x,zY K H a xs/\xs[i]? = some x,λi H x H'=>H'=H/\∀xs,zY K H a xs->xs[i]? = some x,λi H=>∃xs,zY K H a xs/\xs.length<=i⟩
noncomputable def HH(lo:Int)(n:Nat):It:=⟨λi _=>i<n,λi H x H'=>H'=H/\x=.int (lo+i),λi _=>n<=i⟩
theorem W8(a it:Addr):Turn P w K tg (Itl K a) [it] it (λi h=>h.IsListIter it a i) where
 mem:=by simp
 obj:=λi h st b f=>by
  have e:b=it:=by simpa using f
  subst e;obtain⟨o,e,c,d⟩:=st;simp_all
 keep:=λi h h' st k=>st.at λo e=>k it WA o e
 item:=by
  intro X n hw q v i pins s σ H E I hf st m;subst n hw q;obtain⟨xs,x,g,l⟩:=m;obtain⟨its,j,p,hz⟩:=I.list g;obtain⟨u,C,A⟩:=j.get l;obtain⟨f0,f1,f2,t,f4,r⟩:=hf it WA;refine wpAny_pyNext_list_item st p.isList (x:=u) (by simpa using C) λh' y z=>?_;have F:=I.turned (t':=s.toks) (λb o f e=>(z.2 b f).trans e) f0 f1 t f4 r;obtain⟨o,e,c,d⟩:=id y;exact⟨u,rfl,U8 (s:={s with heap:=h'}) e c d Wp ⟨x,H,F,A,⟨rfl,λys B=>by rw[I.EC B g];exact l⟩,y,λb f=>(hf b f).1⟩⟩
 done:=by
  intro X n hw q v i pins s σ H E I hf st m;subst n hw q;obtain⟨xs,g,l⟩:=m;obtain⟨its,j,p,hz⟩:=I.list g;obtain⟨f0,f1,f2,t,f4,r⟩:=hf it WA;have G:=j.length;exact wpAny_pyNext_list_end (I.ok.hd v) st p.isList WI λh' D=>⟨rfl,I.turned (t':=s.toks) (λb o f e=>D b o f e) f0 f1 t f4 r⟩
 self:=λ_ _ _ _ _ st h=>wpAny_pyIter_listiter st h
theorem QT(a it:Addr):Turn P w K tg (Itt K a) [it] it (λi h=>h.IsTupleIter it a i) where
 mem:=by simp
 obj:=λi h st b f=>by
  have e:b=it:=by simpa using f
  subst e;obtain⟨o,e,c,d⟩:=st;simp_all
 keep:=λi h h' st k=>st.at λo e=>k it WA o e
 item:=by
  intro X n hw q v i pins s σ H E I hf st m;subst n hw q;obtain⟨xs,x,g,l⟩:=m;obtain⟨its,j,p,hz⟩:=I.tuple g;obtain⟨u,C,A⟩:=j.get l;obtain⟨f0,f1,f2,t,f4,r⟩:=hf it WA;refine wpAny_pyNext_tuple_item st (p) (x:=u) (by simpa using C) λh' y z=>?_;have F:=I.turned (t':=s.toks) (λb o f e=>(z.2 b f).trans e) f0 f1 t f4 r;obtain⟨o,e,c,d⟩:=id y;exact⟨u,rfl,U8 (s:={s with heap:=h'}) e c d Wp ⟨x,H,F,A,⟨rfl,λys B=>by rw[I.W7 B g];exact l⟩,y,λb f=>(hf b f).1⟩⟩
 done:=by
  intro X n hw q v i pins s σ H E I hf st m;subst n hw q;obtain⟨xs,g,l⟩:=m;obtain⟨its,j,p,hz⟩:=I.tuple g;obtain⟨f0,f1,f2,t,f4,r⟩:=hf it WA;have G:=j.length;exact wpAny_pyNext_tuple_end (I.ok.hd v) st (p) WI λh' D=>⟨rfl,I.turned (t':=s.toks) (λb o f e=>D b o f e) f0 f1 t f4 r⟩
 self:=λ_ _ _ _ _ st h=>wpAny_pyIter_tupleiter st h
theorem QV(it:Addr)(lo:Int)(n:Nat):Turn P w K tg (HH lo n) [it] it (λi h=>IsRangeIter h it (lo+(i:Nat)*1) ((n:Int)-(i:Nat)) 1) where
 mem:=by simp
 obj:=λi h st b a=>by simp_all
 keep:=λi h h' st k=>k it WA _ st
 item:=by
  intro X j hw l d i pins s σ H E I hf st c;subst j hw l;obtain⟨f0,f1,f2,g,f4,f⟩:=hf it WA;have W:=Walks.range (prog:=X.prog) (w:=X.w) (I.ok.hd d) it lo 1 n;refine W.item i s _ _ c st λv h' tk hv m kk=>?_;obtain⟨t,rfl⟩:=hv;have q:Inv X pins σ H {s with heap:=h',toks:=tk}:=I.turned (λb o a e=>kk b o (by simpa using a) e) f0 f1 g f4 f;refine⟨_,rfl,U8 m rfl rfl Wp ⟨.int (lo+i),H,q,⟨t,?_⟩,⟨rfl,rfl⟩,m,λb a=>(hf b a).1⟩⟩;rw[Int.mul_one]
 done:=by
  intro X j hw l d i pins s σ H E I hf st c;obtain⟨f0,f1,f2,g,f4,f⟩:=hf it WA;exact wpAny_pyNext_range_end (I.ok.hd d) st (by have:n<=i:=c;lia) λh' p=>⟨rfl,I.turned (p) f0 f1 g f4 f⟩
 self:=λ_ _ _ _ _ st h=>wpAny_pyIter_rangeiter st h
def apd(K:Frag)(tl:TE):TI:=λσ H R=>tl σ H λx H1=>∃a,x=.ref a/\(∃xs,nS K H1 a xs)/\R (Itl K a) H1
def ats(K:Frag)(tl:TE):TI:=λσ H R=>tl σ H λx H1=>∃a,x=.ref a/\(∃xs,zY K H1 a xs)/\R (Itt K a) H1
def U9{l:Expr}{tl:TE}(i:PE X l tl):PI X tg l (apd X.K tl):=by
 intro pins s σ H R I h;refine fY Qez λv s1 zz=>?_;obtain⟨x,H1,c,d,f⟩:=zz;obtain⟨a,e,⟨xs,g⟩,q⟩:=f;subst e;cases d;obtain⟨its,k,p,hz⟩:=c.list g;refine wpAny_pyIter_list p.isList ?_;refine⟨ _,_,_,_,H1,rfl,c.kept λb o e=>kx _ e,W8 a _,⟨_,mv _ rfl,rfl,rfl⟩,λb j=>?_,q⟩;have e:=by simpa using j
 subst e;exact c.HG (gZ _) Qhq
def akG{l:Expr}{tl:TE}(i:PE X l tl):PI X tg l (ats X.K tl):=by
 intro pins s σ H R I h;refine fY Qez λv s1 zz=>?_;obtain⟨x,H1,c,d,f⟩:=zz;obtain⟨a,e,⟨xs,g⟩,q⟩:=f;subst e;cases d;obtain⟨its,k,p,hz⟩:=c.tuple g;refine wpAny_pyIter_tuple (p) ?_;refine⟨ _,_,_,_,H1,rfl,c.kept λb o e=>kx _ e,QT a _,⟨_,mv _ rfl,rfl,rfl⟩,λb j=>?_,q⟩;have e:=by simpa using j
 subst e;exact c.HG (gZ _) Qhq
theorem NR{R:QfQ}{lo hi:Int}{t u v:Tok}{tk:Nat}(I:QE)(h1:-(2 ^ 62)<=lo)(h2:lo<2 ^ 62)(d:-(2 ^ 62)<=hi)(c:hi<2 ^ 62)
  (q:R (HH lo (hi-lo).toNat) H):wpAny Qu X.A (pyIter Qet) (PIE X pins σ tg R) E {s with heap:=s.heap.push {cls:=.type "range",data:=.fields #[.int lo t,.int hi u,.int 1 v]},toks:=tk}:=by
 refine wpAny_pyIter_range (IsRange.new ..) (small_one h1 h2 d c) ?_;have a:Inv X pins σ H {s with heap:=s.heap.push {cls:=.type "range",data:=.fields #[.int lo t,.int hi u,.int 1 v]},toks:=tk}:=I.kept λb o e=>kx _ e;refine⟨ _,_,_,_,H,rfl,
  a.kept λb o e=>kx _ e,QV _ lo _,?_,λb f=>?_,q⟩
 .have e1:lo+((0:Nat))*1=lo:=by simp
  have e2:(((hi-lo).toNat))-((0:Nat))=Builtin.Range.rangeSize lo hi 1:=by rw[rangeSize_one];grind
  rw[e1,e2];exact mv _ rfl
 .have e:b=(s.heap.push {cls:=.type "range",data:=.fields #[.int lo t,.int hi u,.int 1 v]}).objs.size:=by simp_all
  subst e;exact a.HG (gZ _) (a.fQ.fresh (gZ _))
def ape(ta:TA):TI:=λσ H R=>ta σ H λvs H1=>∃j:Int,vs=[.int j] /\ -(2 ^ 62)<=j/\j<2 ^ 62/\R (HH 0 j.toNat) H1
def apf(ta:TA):TI:=λσ H R=>ta σ H λvs H1=>∃i j:Int,vs=[.int i,.int j]/\(-(2 ^ 62)<=i/\i<2 ^ 62 /\ -(2 ^ 62)<=j/\j<2 ^ 62)/\R (HH i (j-i).toNat) H1
variable{p:Pos}
theorem Jw{a:Expr}{ta:TA}(g:Qdi)(hm:Qc8)(i:PA X [a] ta)(hs:starEach [a] X.env=[(false,eval a X.env)]:=by rfl):PI X tg (.Call (.Name "range" p) [a] [] pos) (ape ta):=by
 intro pins s σ H R I h;refine Call_ (qT I g hm boot_range (wy (fY QiV λus s1 zz=>?_) hs rfl));obtain⟨vs,H1,k,d,b⟩:=zz;obtain⟨j,e,b,f,q⟩:=b;subst e;cases d with
 | cons r c=>
  cases c;obtain⟨t,rfl⟩:=r;exact call_range_1 (NR k We We b f WE)
theorem W9{a b:Expr}{ta:TA}(n:Qdi)(hm:Qc8)(o:PA X [a,b] ta)(hs:AR X a b:=by rfl)(u:starEach [b] X.env=[(false,eval b X.env)]:=by rfl) :
  PI X tg (.Call (.Name "range" p) [a,b] [] pos) (apf ta):=by
 intro pins s σ H R I h;refine Call_ (qT I n hm boot_range (wy (fY (o pos pins s σ H _ I h) λus s1 zz=>?_) WE (by rw[u];rfl)));obtain⟨vs,H1,v,f,d⟩:=zz;obtain⟨i,j,e,⟨d,m,l,k⟩,q⟩:=d;subst e;cases f with
 | cons r c=>
  cases c with
  | cons g c=>
   cases c;obtain⟨t,rfl⟩:=r;obtain⟨t',rfl⟩:=g;exact call_range_2 (NR v d m l k q)
abbrev _root_.Da:=Nat->Nat
noncomputable def att(c:TI)(g:TG)(tb:TS):TS:=λD σ H=>c σ H λJ H1=>∃W:Nat->Nat->St->Hp->Prop,(∃m,W 0 m σ H1)/\∀i m σ H,W i m σ H →
 (J.stop i H/\D.nx σ H)\/(J.go i H/\∃N:St->Hp->Prop,(∀σ' H',N σ' H'->∃b,b<m/\W QaR b σ' H')/\∀x H',J.o6 i H x H'->g x σ H' λa H2=>tb {D with nx:=N,ct:=N,bk:=D.nx} a H2)
noncomputable def ED(fp:BN)(h:Heap):BM:=fp.filterMap λb=>(h.get? b).map λo=>(b,o)
def lQ{fp:BN}{o:Obj}(a:b∈fp)(e:h.get? b=some o):(b,o)∈ED fp h:=List.mem_filterMap.2 ⟨b,a,by rw[e];rfl⟩
theorem Xa{fp:BN}{p:Addr×Obj}(a:p∈ED fp h):p.1∈fp/\h.get? p.1=some p.2:=by
 obtain⟨b,c,e⟩:=List.mem_filterMap.1 a;cases q:h.get? b with
 | none=>rw[q]at e;cases e
 | some o=>
  rw[q]at e;have d:=l7 e;subst d;exact⟨c,q⟩
theorem Inv.pinned{fp:BN}(I:QE)(hf:∀b∈fp,oE X pins H b)(g:∀b∈fp,∃o,s.heap.get? b=some o/\∀v,o.data ≠ .cell v):Inv X (pins++ED fp s.heap) σ H s:=
 I.wR λp f=>(gY.1 f).elim (λz=>I.pin p (i5 _ z)) λz=>by
  obtain⟨a,e⟩:=Xa z;obtain⟨f0,f1,f2,_⟩:=hf p.1 a;obtain⟨o,c,d⟩:=g p.1 a;rw[e]at c;cases c;exact⟨e,f0,f1,f2,d⟩
theorem Inv.u5{pl:BM}(I:Inv X (pins++pl) σ H s):Inv X pins σ H s:=I.wR λp a=>I.pin p (i5 _ (ka _ a))
def aae{iter:Expr}{body:Co}{O:TI}{g:TG}{tb:TS}(z:QgR)(P:QaK)(hi:PI X tg iter O)(hg:PG X tg g)(k:QS X body tb)
  (hs:Qca:=by intro _;rfl):PS X (.For tg iter body [] pos) (att O g tb):=by
 intro pins s σ H D I h;refine wpAny_For (fY (hi pins s σ H _ I h) λv s1 h1=>fY h1 λaa s2 h2=>?_) hs;obtain⟨it,fp,tn,J,H2,e,I2,T,F,f2,W,⟨m0,w0⟩,turn⟩:=h2;subst e;have j:∀{H':Hp},(∀b∈fp,H' b=none)->∀b∈fp,oE X pins H' b:=λhn b k=>⟨hn b k,(f2 b k).2⟩;refine codeAny_forLoop_any (λn s'=>∃i σ' H',Inv X pins σ' H' s'/\tn i s'.heap/\(∀b∈fp,H' b=none)/\W i n σ' H') ?_ m0 ⟨0,σ,H2,I2,F,λb k=>(f2 b k).1,w0⟩;rintro n s3 ⟨i,c,C,R,t,B,Z⟩;obtain⟨stop,qn⟩|⟨go,N,hN,step⟩:=turn i n c C Z
 .refine wb z (fY (T.done X rfl rfl rfl P i pins s3 c C X.xe R (j B) t stop) λr s4 zz=>?_);obtain⟨K,I4⟩:=zz;subst K;exact wpAny_execs_nil ⟨c,C,I4,qn⟩
 .refine wb z (fY (T.item X rfl rfl rfl P i pins s3 c C X.xe R (j B) t go) λr s4 zz=>?_);obtain⟨u,K,h4⟩:=zz;subst K;refine wb z (fY h4 λ_ s5 zz=>?_);obtain⟨x,S,I5,r5,U,Va,L⟩:=zz;have M:=I5.pinned (j L) (T.obj _ _ Va);refine wb z (fY (hg _ s5 c S x u _ M r5 (step x S U)) λ_ s6 zz=>?_);obtain⟨E,H6,I6,q6⟩:=zz;refine wb z (fY (k _ s6 E H6 _ I6 q6) λf G q=>?_);have again:∀{a:St} {p:Hp},Inv X (pins++ED fp s5.heap) a p G->N a p->∃m,m<n/\∃i σ' H',Inv X pins σ' H' G/\tn i G.heap/\(∀b∈fp,H' b=none)/\W i m σ' H':=λ{a p} l y=>by
   obtain⟨m',hm,Y⟩:=hN a p y;refine⟨m',hm,i+1,a,p,l.u5,T.keep _ _ _ Va λb k o e=>(l.pin (b,o) (i5 _ (i5 _ (lQ k e)))).1,λb k=>?_,Y⟩;obtain⟨o,e,d⟩:=T.obj _ _ Va b k;exact(l.pin (b,o) (i5 _ (i5 _ (lQ k e)))).2.1
  cases f with
  | next=>obtain⟨a,p,l,y⟩:=q;exact again l y
  | cont=>obtain⟨a,p,l,y⟩:=q;exact again l y
  | brk=>obtain⟨a,p,l,q⟩:=q;exact⟨a,p,l.u5,q⟩
  | ret v=>obtain⟨V,a,p,l,r7,q⟩:=q;exact⟨V,a,p,l.u5,r7,q⟩
abbrev R2:=V->V->Hp->VK->Prop
def z7(X:Cx)(f:Value->Value->Sem Value)(r:R2):Prop:=
 ∀(pins:BM) (s:Qb) (σ:St) (H:Hp) (x y:V) (v u:Value) (Q:VK),Inv X pins σ H s->RelV x v->RelV y u->r x y H Q →
  wpAny Qu X.A (f v u) Qa5 X.xe s
def Om(X:Cx)(f:Value->Sem Value)(r:QjN):Prop:=
 ∀(pins:BM) (s:Qb) (σ:St) (H:Hp) (x:V) (v:Value) (Q:VK),Inv X pins σ H s->RelV x v->r x H Q →
  wpAny Qu X.A (f v) Qa5 X.xe s
def rW(X:Cx)(f:Value)(r:Qjr):Prop:=
 ∀(pins:BM) (s:Qb) (σ:St) (H:Hp) (xs:BY) (us:B1) (Q:VK),Inv X pins σ H s->Vals xs us->r xs H Q →
  wpAny Qu X.A (call f us) Qa5 X.xe s
def atw(X:Cx)(r:V->Hp->Dx->Prop):Prop:=
 ∀(pins:BM) (s:Qb) (σ:St) (H:Hp) (x:V) (v:Value) (Q:Dx),Inv X pins σ H s->RelV x v->r x H Q →
  wpAny Qu X.A (truthy v) QeE X.xe s
noncomputable def xf(r:R2)(ta tb:TE):TE:=λσ H Q=>ta σ H λx H1=>tb σ H1 λy H2=>r x y H2 Q
noncomputable def tUn(r:QjN)(ta:TE):TE:=λσ H Q=>ta σ H λx H1=>r x H1 Q
noncomputable def rI(C:QhG)(g:Int->Int->V):R2:=λx y H Q=>∃i j,x=.int i/\y=.int j/\C i j/\Q (g i j) H
noncomputable def vc(g:Int->Int->V):R2:=λx y H Q=>∃i j,x=.int i/\y=.int j/\Q (g i j) H
def rU(g:Int->V):V->Hp->VK->Prop:=λx H Q=>∃i,x=.int i/\Q (g i) H
variable{a b:Expr}{ta tb:TE}{f:Value->Value->Sem Value}
def MI(l:QcJ)(k:PE X b tb){R:V->V->Hp->Prop}(I:QE)
  (h:ta σ H λx H1=>tb σ H1 λy H2=>R x y H2) {Q:B0}
  (hf:∀v u s2 x y H2,Inv X pins σ H2 s2->RelV x v->RelV y u->R x y H2->wpAny Qu X.A (f v u) Q X.xe s2) :
  wpAny Qu X.A (eval a X.env) (λv d=>wpAny Qu X.A (eval b X.env) (λu c=>wpAny Qu X.A (f v u) Q X.xe c) X.xe d) X.xe s:=by
 refine fY (l pins s σ H _ I h) λv s1 zz=>?_;obtain⟨x,H1,n,g,j⟩:=zz;refine fY (k pins s1 σ H1 _ n j) λu s2 zz=>?_;obtain⟨y,H2,m,e,i⟩:=zz;exact hf v u s2 x y H2 m g e i
noncomputable def NT{op:Operator}{r:R2}(e:QjH)(g:QcJ)(f:PE X b tb):PE X (.BinOp a op b pos) (xf r ta tb):=λpins s σ H Q I h=>wpAny_BinOp Qj4
def aph{op:UnaryOp}{r:QjN}(d:Om X (unaryOp op) r)(e:QcJ):PE X (.UnaryOp op a pos) (tUn r ta):=λpins s σ H Q I h=>UnaryOp_ (fY (e pins s σ H _ I h) λv s1 ⟨x,H1,f,b,c⟩=>d pins s1 σ H1 x v Q f b c)
def zi{C:QhG}{g:Int->Int->Int}
  (rule:∀(i j:Int) (t u:Tok) (s:Qb) (Q:B0) (E:B0),C i j->Q (.int (g i j) s.toks) {s with toks:=s.toks+1}->wpAny Qu X.A QjG Q E s) :
  z7 X f (rI C λi j=>.int (g i j)):=by
 intro pins s σ H x y v u Q I b a h;obtain⟨i,j,rfl,rfl,c,q⟩:=h;obtain⟨t,rfl⟩:=b;obtain⟨t',rfl⟩:=a;exact rule i j t t' s _ _ c ⟨.int _,H,I.tok _,⟨_,rfl⟩,q⟩
def RI{g:Int->Int->Int}
  (rule:∀(i j:Int) (t u:Tok) (s:Qb) (Q:B0) (E:B0),Q (.int (g i j) s.toks) {s with toks:=s.toks+1}->wpAny Qu X.A QjG Q E s) :
  z7 X f (vc λi j=>.int (g i j)):=by
 intro pins s σ H x y v u Q I b a h;obtain⟨i,j,rfl,rfl,q⟩:=h;obtain⟨t,rfl⟩:=b;obtain⟨t',rfl⟩:=a;exact rule i j t t' s _ _ ⟨.int _,H,I.tok _,⟨_,rfl⟩,q⟩
def ME{g:QfH}
  (rule:∀(i j:Int) (t u:Tok) (s:Qb) (Q:B0) (E:B0),Q (.bool (g i j)) s->wpAny Qu X.A QjG Q E s) :
  z7 X f (vc λi j=>.bl (g i j)):=by
 intro pins s σ H x y v u Q I b a h;obtain⟨i,j,rfl,rfl,q⟩:=h;obtain⟨t,rfl⟩:=b;obtain⟨t',rfl⟩:=a;exact rule i j t t' s _ _ ⟨.bl _,H,I,rfl,q⟩
def RF(i j:Int):Prop:=0<j/\j<1073741824
def RE(i j:Int):Prop:=0<=j/\j<=1000000/\i.natAbs<2 ^ 64
def JJ(i j:Int):Prop:=(-(2 ^ 64)<i/\i<2 ^ 64)\/(-(2 ^ 64)<j/\j<2 ^ 64)
theorem JJ.ok{i j:Int}(h:JJ i j):IntMulOk i j:=by
 obtain⟨h1,h2⟩|⟨h1,h2⟩:=h
 .exact .of_left (intBits_le_64 h1 h2)
 .exact .of_right (intBits_le_64 h1 h2)
def aaf:z7 X (binaryOp .Add) (vc λi j=>.int (i+j)):=RI λ_ _ _ _ _ _ _ q=>add_int q
def aag:z7 X (binaryOp .Sub) (vc λi j=>.int (i-j)):=RI λ_ _ _ _ _ _ _ q=>sub_int q
def akK:z7 X (binaryOp .Mult) (rI JJ λi j=>.int (i*j)):=zi λ_ _ _ _ _ _ _ a q=>mul_int q a.ok
theorem afC:z7 X (binaryOp .FloorDiv) (rI RF λi j=>.int (i / j)):=zi λi j _ _ _ _ _ a q=>by
 have h1:=a.1;have h2:=a.2;exact floordiv_int We (by rw[Int.fdiv_eq_ediv_of_nonneg i We];exact q) (.inl (PyProof.noPylong_small We))
theorem akL:z7 X (binaryOp .Mod) (rI (λ_ j=>0<j) λi j=>.int (i % j)):=zi λi j _ _ _ _ _ a q=>mod_int' We (by rw[Int.fmod_eq_emod_of_nonneg i We];exact q)
def akM:z7 X (binaryOp .Pow) (rI RE λi j=>.int (i ^ j.toNat)):=zi λ_ _ _ _ _ _ _ a q=>pow_int_small a.1 a.2.1 a.2.2 q
def unI{f:Value->Sem Value}{g:Qe5}
  (rule:∀(i:Int) (t:Tok) (s:Qb) (Q:B0) (E:B0),Q (.int (g i) s.toks) {s with toks:=s.toks+1}->wpAny Qu X.A (f QfU) Q E s) :
  Om X f (rU λi=>.int (g i)):=by
 intro pins s σ H x v Q I a h;obtain⟨i,rfl,q⟩:=h;obtain⟨t,rfl⟩:=a;exact rule i t s _ _ ⟨.int _,H,I.tok _,⟨_,rfl⟩,q⟩
def akN:Om X (unaryOp .USub) (rU λi=>.int (-i)):=unI λ_ _ _ _ _ q=>neg_int q
noncomputable def P2:V->V->Bool
 | .non,.non=>true | .non,.int _=>true | .int _,.non=>true | .non,.bl _=>true | .bl _,.non=>true | .non,.str _=>true | .str _,.non=>true
 | .int _,.int _=>true | .bl _,.bl _=>true | .str _,.str _=>true | .U3 _,.U3 _=>true
 | .int _,.str _=>true | .str _,.int _=>true | .bl _,.str _=>true | .str _,.bl _=>true
 | _,_=>false
def rEq:R2:=λx y H Q=>P2 x y=true/\Q (.bl (decide (x=y))) H
def rNe:R2:=λx y H Q=>P2 x y=true/\Q (.bl (!decide (x=y))) H
def Vb{i j:Int}:decide (V.int i=V.int j)=(i==j):=by
 rw[GG];simp
def aah{i j:Bool}:decide (V.bl i=V.bl j)=(i==j):=by
 rw[GG];simp
def Vc{i j:Str}:decide (V.str i=V.str j)=(i==j):=by
 rw[GG];simp
theorem Vd{i j:Array UInt8}:decide (V.U3 i=V.U3 j)=(i.toList==j.toList):=by
 rw[GG];simp_all
def dG{Q:VK}{k a:Bool}(I:QE)(q:Q (.bl k) H)(e:k=a):EP X pins σ Q (.bool a) s:=by
 subst e;exact⟨.bl k,H,I,rfl,q⟩
theorem S2:z7 X (compareOp .Eq) rEq:=by
 intro pins s σ H x y v u Q I b a h;obtain⟨hs,q⟩:=h;cases x with
 | non=>
  cases b;cases y with
  | non=>cases a;exact PySem.EqNone.eq_none_none QaD
  | bl j=>cases a;exact PySem.EqNone.eq_none_bool QaD
  | int j=>obtain⟨t',rfl⟩:=a;exact PySem.EqNone.eq_none_int QaD
  | str j=>obtain⟨t',rfl⟩:=a;exact PySem.EqNone.eq_none_str QaD
  | _=>exact absurd (show false=true from hs) mD
 | bl i=>
  cases b;cases y with
  | non=>cases a;exact PySem.EqNone.eq_bool_none QaD
  | bl j=>cases a;exact eq_bool (dG I q aah)
  | str j=>obtain⟨t',rfl⟩:=a;exact PySem.EqMixed.eq_bool_str QaD
  | _=>exact absurd (show false=true from hs) mD
 | int i=>
  obtain⟨t,rfl⟩:=b;cases y with
  | non=>cases a;exact PySem.EqNone.eq_int_none QaD
  | int j=>obtain⟨t',rfl⟩:=a;exact eq_int (dG I q Vb)
  | str j=>obtain⟨t',rfl⟩:=a;exact PySem.EqMixed.eq_int_str QaD
  | _=>exact absurd (show false=true from hs) mD
 | str i=>
  obtain⟨t,rfl⟩:=b;cases y with
  | non=>cases a;exact PySem.EqNone.eq_str_none QaD
  | bl j=>cases a;exact PySem.EqMixed.eq_str_bool QaD
  | int j=>obtain⟨t',rfl⟩:=a;exact PySem.EqMixed.eq_str_int QaD
  | str j=>obtain⟨t',rfl⟩:=a;exact eq_str (dG I q Vc)
  | _=>exact absurd (show false=true from hs) mD
 | U3 i=>
  obtain⟨t,rfl⟩:=b;cases y with
  | U3 j=>obtain⟨t',rfl⟩:=a;exact PySem.W.eq_bytes (dG I q Vd)
  | _=>exact absurd (show false=true from hs) mD
 | _=>cases y<;>exact absurd (show false=true from hs) mD
theorem S1:z7 X (compareOp .NotEq) rNe:=by
 intro pins s σ H x y v u Q I b a h;obtain⟨hs,q⟩:=h;cases x with
 | non=>
  cases b;cases y with
  | non=>cases a;exact PySem.EqNone.ne_none_none QaD
  | bl j=>cases a;exact PySem.EqNone.ne_none_bool QaD
  | int j=>obtain⟨t',rfl⟩:=a;exact PySem.EqNone.ne_none_int QaD
  | str j=>obtain⟨t',rfl⟩:=a;exact PySem.EqNone.ne_none_str QaD
  | _=>exact absurd (show false=true from hs) mD
 | bl i=>
  cases b;cases y with
  | non=>cases a;exact PySem.EqNone.ne_bool_none QaD
  | bl j=>cases a;exact ne_bool (dG I q (congrArg not aah))
  | str j=>obtain⟨t',rfl⟩:=a;exact PySem.EqMixed.ne_bool_str QaD
  | _=>exact absurd (show false=true from hs) mD
 | int i=>
  obtain⟨t,rfl⟩:=b;cases y with
  | non=>cases a;exact PySem.EqNone.ne_int_none QaD
  | int j=>obtain⟨t',rfl⟩:=a;exact ne_int (dG I q (congrArg not Vb))
  | str j=>obtain⟨t',rfl⟩:=a;exact PySem.EqMixed.ne_int_str QaD
  | _=>exact absurd (show false=true from hs) mD
 | str i=>
  obtain⟨t,rfl⟩:=b;cases y with
  | non=>cases a;exact PySem.EqNone.ne_str_none QaD
  | bl j=>cases a;exact PySem.EqMixed.ne_str_bool QaD
  | int j=>obtain⟨t',rfl⟩:=a;exact PySem.EqMixed.ne_str_int QaD
  | str j=>obtain⟨t',rfl⟩:=a;exact ne_str (dG I q (congrArg not Vc))
  | _=>exact absurd (show false=true from hs) mD
 | U3 i=>
  obtain⟨t,rfl⟩:=b;cases y with
  | U3 j=>obtain⟨t',rfl⟩:=a;exact PySem.W.ne_bytes (dG I q (congrArg not Vd))
  | _=>exact absurd (show false=true from hs) mD
 | _=>cases y<;>exact absurd (show false=true from hs) mD
def apo:z7 X (compareOp .Lt) (vc λi j=>.bl (decide (i<j))):=ME λ_ _ _ _ _ _ _ q=>lt_int q
def apq:z7 X (compareOp .LtE) (vc λi j=>.bl (decide (i<=j))):=ME λ_ _ _ _ _ _ _ q=>le_int q
def SU:z7 X (compareOp .Gt) (vc λi j=>.bl (decide (j<i))):=ME λ_ _ _ _ _ _ _ q=>gt_int q
theorem qU(b:Expr){op:CmpOp}(h:op ≠ .In:=by decide)(h2:op ≠ .NotIn:=by decide):behindInMarks op b=false:=by
 have e1:(op==CmpOp.In)=false:=by grind
 have e2:(op==CmpOp.NotIn)=false:=by grind
 cases b<;>simp[behindInMarks,e1,e2]
noncomputable def wU{op:CmpOp}{r:R2}(e:z7 X QhQ r)(g:QcJ)(f:PE X b tb)(hm:behindInMarks op b=false):PE X (.Compare a [op] [b] pos) (xf r ta tb):=λpins s σ H Q I h=>wpAny_Compare1 Qj4 hm
noncomputable def apr(t:TE):TT:=λσ H Q=>t σ H λx H'=>∃k,x=.bl k/\Q k H'
def tE{op:CmpOp}{r:R2}(m:z7 X QhQ r)(o:QcJ)(n:PE X b tb)(hm:behindInMarks op b=false):PT X (.Compare a [op] [b] pos) (apr (xf r ta tb)):=by
 intro pins s σ H Q I h;refine wpAny_isTrue_Compare1 (fY (o pins s σ H _ I h) λv s1 ⟨x,H1,t,g,l⟩=>fY (n pins s1 σ H1 _ t l) λu s2 ⟨y,H2,q,f,j⟩=>
  fY (m pins s2 σ H2 x y v u _ q g f j) λc s3 ⟨z,w,p,d,k,e,i⟩=>?_) hm
 subst e;cases d;exact Hn ⟨w,p,i⟩
def PU(K:Frag)(x:V)(H:Hp)(k:Bool):Prop:=
 match x with
 | .non=>k=false
 | .bl b=>k=b
 | .int i=>k=(i != 0)
 | .str y => y.length <= sizeLine /\ k = ((y.length : Int) != 0)
 | .U3 y=>y.size<=sizeLine/\k=((y.size:Int) != 0)
 | .ref p=>(∃xs,nS K H p xs/\k=!xs.isEmpty)\/(∃xs,zY K H p xs/\k=!xs.isEmpty)\/∃kvs,H p=some Qbi/\k=!kvs.isEmpty
 | _=>False
def QW{κ:Type}{kvs:Qbz}{vs:QdL}(r:Qdu):(!vs.isEmpty)=!kvs.isEmpty:=by
 cases r<;>rfl
def EE{its:B1}(r:Vals xs its):(!its.toArray.isEmpty)=!xs.isEmpty:=by
 cases r<;>simp
def EF:(sizeLine:Nat)<2 ^ 63:=by decide
theorem akO:atw X (λx H Q=>∃k,PU X.K x H k/\Q k H):=by
 intro pins s σ H x v Q I c h;obtain⟨k,e,q⟩:=h;have j:=EF;have hs:sizeLine=16777216:=mx;cases x with
 | non=>
  cases c;have a:k=false:=e;subst a;exact truthy_none ⟨H,I,q⟩
 | bl b=>
  cases c;have a:k=b:=e;subst a;exact Hn ⟨H,I,q⟩
 | int i=>
  obtain⟨t,rfl⟩:=c;have a:k=(i != 0):=e;subst a;exact PySem.P.truthy_int ⟨H,I,q⟩
 | str y=>
  obtain⟨t,rfl⟩:=c;obtain⟨f,a⟩:y.length<=sizeLine/\k=((y.length:Int) != 0):=e;subst a;exact PySem.P.truthy_str We ⟨H,I.tok _,q⟩
 | U3 y=>
  obtain⟨t,rfl⟩:=c;obtain⟨f,a⟩:y.size<=sizeLine/\k=((y.size:Int) != 0):=e;subst a;exact PySem.W.truthy_bytes We ⟨H,I.tok _,q⟩
 | ref p=>
  cases c;have a:(∃xs,nS X.K H p xs/\k=!xs.isEmpty)\/(∃xs,zY X.K H p xs/\k=!xs.isEmpty)\/∃kvs,H p=some Qbi/\k=!kvs.isEmpty:=e;obtain⟨xs,d,a⟩|⟨xs,d,a⟩|⟨kvs,d,a⟩:=a
  .subst a;obtain⟨its,r,pl,hz⟩:=I.list d;have hlen:=r.length;exact wpAny_truthy_list pl.isList (by simp only[oD];lia) ⟨H,I.tok _,by rw[EE r];exact q⟩
  .subst a;obtain⟨its,r,pl,hz⟩:=I.tuple d;have hlen:=r.length;exact truthy_tuple pl (by simp only[oD];lia) ⟨H,I.tok _,by rw[EE r];exact q⟩
  .subst a;obtain⟨hz,g,vs,r,m⟩:kvs.length<=sizeLine/\(p==sysModules)=false/\∃vs,KV kvs vs/\s.heap.DictOf (gJ X.prog X.w) p vs:=I.fQ p _ d;have hlen:kvs.length=vs.length:=Paired.length r;exact wpAny_truthy_dict g m We ⟨H,I.tok _,by rw[QW r];exact q⟩
 | _=>exact(show False from e).elim
def aai(d:QcJ)(he:∀whole,isTrue a X.env whole=(do let v ← whole;standAt a.pos;holding [v] (truthy v))) :
  PT X a (λσ H Q=>ta σ H λx H'=>∃k,PU X.K x H' k/\Q k H'):=λpins s σ H Q I h=>isTrue_plain (fY (d pins s σ H _ I h) λv s1 ⟨x,H1,e,b,c⟩=>akO pins s1 σ H1 x v Q e b c) (he _)
def EG:z7 X (binaryOp .Add) (λx y H Q=>∃i j,x=.str i/\y=.str j/\i.length+j.length<=sizeLine/\Q (.str (i++j)) H):=by
 intro pins s σ H x y v u Q I b a h;obtain⟨i,j,rfl,rfl,hz,q⟩:=h;obtain⟨t,rfl⟩:=b;obtain⟨t',rfl⟩:=a;exact add_str (λt' tk=>⟨.str _,H,I.tok _,⟨_,rfl⟩,q⟩) hz
theorem vals1{x:V}(r:Vals [x] us):∃u,us=[u]/\RelV x u:=by
 cases r with
 | cons b a=>cases a;exact⟨_,rfl,b⟩
theorem vals2{x y:V}(r:Vals [x,y] us):∃u a,us=[u,a]/\RelV x u/\RelV y a:=by
 cases r with
 | cons e d=>
  cases d with
  | cons c b=>cases b;exact⟨_,_,rfl,e,c⟩
def Xb(b:QaK):rW X (.builtin "max") (λxs H Q=>∃i j,xs=[.int i,.int j]/\Q QkI H):=by
 intro pins s σ H xs us Q I r h;obtain⟨i,j,rfl,q⟩:=h;obtain⟨u,c,rfl,⟨t,rfl⟩,⟨t',rfl⟩⟩:=vals2 r;refine max_two_ints (I.ok.hd b) λh' tk k=>⟨_,H,I.kept k,?_,q⟩;by_cases a:j > i
 .rw[di a,di a];exact⟨_,rfl⟩
 .rw[cq a,cq a];exact⟨_,rfl⟩
def Xc(b:QaK):rW X (.builtin "min") (λxs H Q=>∃i j,xs=[.int i,.int j]/\Q QkJ H):=by
 intro pins s σ H xs us Q I r h;obtain⟨i,j,rfl,q⟩:=h;obtain⟨u,c,rfl,⟨t,rfl⟩,⟨t',rfl⟩⟩:=vals2 r;refine min_two_ints (I.ok.hd b) λh' tk k=>⟨_,H,I.kept k,?_,q⟩;by_cases a:j<i
 .rw[di a,di a];exact⟨_,rfl⟩
 .rw[cq a,cq a];exact⟨_,rfl⟩
def Xd:rW X (.type "int") (λxs H Q=>(∃i,xs=[.int i]/\Q QaQ H)\/∃k,xs=[.bl k]/\Q (.int (if k then 1 else 0)) H):=by
 intro pins s σ H xs us Q I r h;obtain⟨i,rfl,q⟩|⟨k,rfl,q⟩:=h
 .obtain⟨u,rfl,t,rfl⟩:=vals1 r;exact call_int_int ⟨.int i,H,I,⟨_,rfl⟩,q⟩
 .obtain⟨u,rfl,a⟩:=vals1 r;cases a;exact call_int_bool ⟨.int _,H,I.tok _,⟨_,rfl⟩,q⟩
def z8:rW X (.type "str") (λxs H Q=>∃i,xs=[.int i]/\i.natAbs.log2<1920/\Q Qjs H):=by
 intro pins s σ H xs us Q I r h;obtain⟨i,rfl,hz,q⟩:=h;obtain⟨u,rfl,t,rfl⟩:=vals1 r;exact PySem.P.str_of_int hz ⟨.str _,H,I.tok _,⟨_,rfl⟩,q⟩
structure QX(h:Heap)(x dx C:Addr)(mA:Bi):Prop where
 obj:h.get? x=some (instObj C dx)
 ns:h.Ns1 dx mA
 ne:dx≠x
variable{dx:Addr}
theorem Xe{mA:Bi}(n:h.Ns1 dx mA):∃od,h.get? dx=some od/\∀name,lookIn name od=some (mA name):=by
 obtain⟨o,es,ep,d,hd,f,_,hm⟩:=n;refine⟨o,d,λname=>?_⟩;have e:=hm name;unfold nsFind findBy at e;rw[← Array.find?_toList]at e;unfold lookIn;rw[hd];dsimp;split
 .simp_all
 .have a:es.toList.any (·.refKey)=false:=by
   rw[List.any_eq_false];intro y c;obtain⟨z,t,b⟩:=f y (Array.mem_toList_iff.1 c);simp[DictEntry.refKey,b]
  have g:¬ es.toList.any (·.refKey)=true:=by rw[a];simp_all
  rw[cq g];simp_all
variable{C:Addr}
theorem QX.look{mA:Bi}(I:QX h x dx C mA):∃od,PySem.W.InstAt h x (instObj C dx) C (some od)/\∀name,lookIn name od=some (mA name):=
 let ⟨od,a,b⟩:=Xe I.ns
 ⟨od,⟨I.obj,rfl,rfl,a⟩,b⟩
variable{prog:Qat}{f:Addr}{mA:Bi}{name:Str}{v:Value}
def get_map{expr:Bool}{Q:B0}(X:K.In s.heap)(I:QX s.heap x dx C mA)(d:plainGet K C name=true)(c:hasDictIn K C=true)
  (e:findIn K QaI name=some none) (hv:mA name=some v) (a:handedIn v=true) (h:Q v {s with toks:=s.toks+1}) :
  wpAny Qal A (getAttr QcK name expr) Q E s:=by
 obtain⟨od,J,b⟩:=I.look;exact PySem.W.get_value X J (plainGet_of d).1 (PySem.W.findObj_own c e rfl (by rw[b,hv])) a h
variable{pl:QcL}
theorem aaj{Q:Value×B1->Shared->Prop}(X:K.In s.heap)(I:QX s.heap x dx C mA)(a:plainGet K C name=true)
  (hf:findIn K QaI name=some Qdg) (b:isFn K Q3=true) (hv:mA name=none) (h:Q (.ref f,[.ref x]) s) :
  wpAny Qal A (getMethod QcK name pl) Q E s:=by
 obtain⟨od,J,c⟩:=I.look;exact PySem.W.method_fn X J (plainGet_of a).1 (plainGet_of a).2 hf (tF.1 b) (by show(lookIn name od).map _=some _;simp_all) h
theorem afD{ns:At}(X:K.In s.heap)(I:QX s.heap x dx C mA)
  (hs:findIn K QaI "__setattr__" = some Qel) (k:plainOver K C=true) (j:takerIn K C name=some none) (l:hasDictIn K C=true)
  (hw:PySem.Within mA ns) (hsz:ns.length<=sizeLine)
  (h:∀h',QX h' x dx C (λy=>if y=name then some v else mA y)->Heap.SameBut dx s.heap h'->Q () {s with heap:=h',toks:=s.toks+2}) :
  wpAny Qal A (setAttr QcK name v) Q E s:=by
 obtain⟨od,J,q⟩:=I.look;refine PySem.W.set_plain X J hs (PySem.W.osa_open X J k j λb=>?_);obtain⟨cd,m,e⟩:=any_some l;have i:=I.obj;refine i8 (kX (i8 (i8 (wpAny_loadPart i (i8 (PySem.W.Looks.here (PySem.W.looks_clsIn X m) ?_))))));rw[e];refine kX (i8 (kX (i8 ?_)));refine wpAny_nsSet1 I.ns λh' a g=>?_;obtain⟨p,n,o,c,d,f⟩:=a.count (PySem.Within.cons name v hw);refine i8 (wpAny_lookBehind c (d▸pastItsLine_dict (kv f WF)) ?_);exact kX (h _ ⟨(g.2 _ (mM I.ne)).trans I.obj,a,I.ne⟩ g)
abbrev _root_.DO:=List (Str×Value)
noncomputable def aak{R:Result->Shared->Prop}{vs:B1}{kw:DO}(X:K.In s.heap)(hm:makesIn K C=true)
  (hi:findIn K QaI "__init__" = some Qdg) (hf:PySem.W.typeIn K Q3=some (.type "function"))
  (h:codeAny Qal (A.under (.builtin "type.__call__" ⟨.ref C::vs,kw⟩)) (.call Q3 ⟨.ref Qba::vs,kw⟩) (PySem.W.InitBack Qba R)
   {s with heap:=(s.heap.push emptyDict).push (instObj C s.heap.objs.size)}) :
  codeAny Qal A (.call QaI ⟨vs,kw⟩) R s:=PySem.W.make_core (PySem.W.makes_of X hm) (PySem.W.looks_findIn X hi) (λself=>PySem.W.bind_fn X self hf) Q4 h
noncomputable def rX(f:Str)(v:V):CA->CA
 | []=>[(f,v)]
 | (g,x)::r=>if g=f then(g,v)::r else(g,x)::rX f v r
theorem C6(f g:Str)(v:V):∀fs:CA,(rX f v fs).lookup g=if g=f then some v else fs.lookup g
 | []=>by
  show List.lookup g [(f,v)]=_;by_cases h:g=f
  .have a:=tF.2 h;simp[List.lookup,a,di h]
  .have a:=yB.2 h;simp[List.lookup,a,cq h]
 | (k,x)::r=>by
  have c:=C6 f g v r;rw[show rX f v _=(if k=f then(k,v)::r else(k,x)::rX f v r) from rfl];by_cases b:k=f
  .rw[di b];by_cases h:g=k
   .have a:=tF.2 h;simp[List.lookup,a,di (h.trans b)]
   .have a:=yB.2 h;simp[List.lookup,a,cq (λe:g=f=>h (e.trans b.symm))]
  .rw[cq b];by_cases h:g=k
   .simp_all
   .have a:=yB.2 h;simp[List.lookup,a];exact c
theorem BP(f:Str)(v:V):∀fs:CA,f∈(rX f v fs).map (·.1)/\∀g,g∈fs.map (·.1)->g∈(rX f v fs).map (·.1)
 | []=>⟨by simp[rX],λg h=>by simp at h⟩
 | (k,x)::r=>by
  obtain⟨i1,i2⟩:=BP f v r;rw[show rX f v _=(if k=f then(k,v)::r else(k,x)::rX f v r) from rfl];grind
theorem C7(f:Str)(v:V):∀fs:CA,(rX f v fs).length<=fs.length+1
 | []=>by simp[rX]
 | (k,x)::r=>by
  have a:=C7 f v r;rw[show rX f v _=(if k=f then(k,v)::r else(k,x)::rX f v r) from rfl];grind
theorem yH.some_of{v:V}{o:Option Value}(r:yH Qay o):∃u,o=some u/\RelV v u:=by
 cases o with
 | none=>exact(r).elim
 | some u=>exact⟨u,rfl,r⟩
theorem yH.none_of{o:Option Value}(r:yH none o):o=none:=by
 cases o with
 | none=>rfl
 | some u=>exact(r).elim
theorem Xf{v:V}(r:RelV v u):handedIn u=true:=by
 cases v with
 | non=>cases (r);rfl
 | bl b=>cases (r);rfl
 | int i=>obtain⟨t,e⟩:=(r);cases e;rfl
 | str x=>obtain⟨t,e⟩:=(r);cases e;rfl
 | U3 b=>obtain⟨t,e⟩:=(r);cases e;rfl
 | flt b=>obtain⟨t,e⟩:=(r);cases e;rfl
 | ref a=>cases (r);rfl
 | ty n=>cases (r);rfl
variable{a:Addr}{fs:CA}
def Kw(fQ:Qbl)(e:H a=some Qdb):∃mA,QX h a dx C mA/\(∀f,yH (fs.lookup f) (mA f))/\PySem.Within mA (fs.map (·.1))/\fs.length<=1000/\H dx=some (.own a):=by
 obtain⟨d,z,ne,b,mA,n,r,q⟩:=(fQ a _ e);exact⟨mA,⟨b,n,ne⟩,r,q,z,d⟩
structure jJ(K:Frag)(C:Addr):Prop where
 pg:plainGet K C Str.empty=true
 hd:hasDictIn K C=true
 po:plainOver K C=true
 sa:findIn K QaI "__setattr__" = some Qel
theorem jJ.get(c:jJ K C)(f:Str):plainGet K C f=true:=c.pg
def aD(K:Frag)(C:Addr)(f:Str):Prop:=findIn K QaI f=some none
theorem aD.apt{f:Str}(n:aD K C f):takerIn K C f=some none:=by
 unfold takerIn;rw[n];rfl
structure Meth(K:Frag)(C:Addr)(m:Str)(f:Addr):Prop where
 at_:findIn K QaI m=some Qdg
 fn:isFn K Q3=true
 kp:keepIn K Q3=true
variable{f:Str}{v:V}
def QY{b:Bool}{Q:B0}(I:QE)(e:H a=some Qdb)(c:jJ X.K C)(n:aD X.K C f)(l:fs.lookup f=some v)
  (h:∀u s',Inv X pins σ H s'->RelV v u->Q u s'):wpAny Qu A (getAttr Qan f b) Q E s:=by
 obtain⟨mA,O,r,_,_,_⟩:=Kw I.fQ e;obtain⟨u,g,d⟩:=yH.some_of (l▸r f);exact get_map I.Nt O (c.get f) c.hd n g (Xf d) (h u _ (I.tok _) d)
def yJ{m:Str}{g:Addr}{Q:Value×B1->Shared->Prop}(I:QE)(e:H a=some Qdb)(c:jJ X.K C)(k:Meth X.K C m g)(l:QeF)
  (h:Q (.ref g,[.ref a]) s):wpAny Qu A (getMethod Qan m pl) Q E s:=by
 obtain⟨mA,O,r,_,_,_⟩:=Kw I.fQ e;have b:=yH.none_of (l▸r m);exact aaj I.Nt O (c.get m) k.at_ k.fn b h
theorem QZ{y:V}(I:QE)(e:H a=some Qdb)(c:jJ X.K C)(n:aD X.K C f)(v:fs.length<1000)(l:Qcb)
  (h:∀s',Inv X pins σ (upd H a (.ins C dx (rX f y fs))) s'->Q () s'):wpAny Qu A (setAttr Qan f u) Q E s:=by
 obtain⟨mA,O,r,i,_,j⟩:=Kw I.fQ e;have hz:(fs.map (·.1)).length<=sizeLine:=by rw[d8,mx];lia
 refine afD I.Nt O c.sa c.po n.apt c.hd i hz λh' d k=>h _ ?_;have hd:∃o,h'.get? dx=some o:=let ⟨o,_,_,t,_⟩:=d.ns;⟨o,t⟩;refine I.write (e▸True.intro) (.inr j) (λb q p z=>(k.2 b p).trans z) hd ?_;refine⟨ au O.ne▸j,?_,O.ne,d.obj,_,d.ns,λg=>?_,λg m=>?_⟩
 .have:=C7 f y fs;lia
 .rw[C6];by_cases q:g=f
  .rw[di q,di q];exact l
  simp_all
 .by_cases q:g=f
  .rw[q];exact(BP f y fs).1
  .refine(BP f y fs).2 g (i g λz=>m ?_);grind
theorem Inv.made(I:QE):Inv X pins σ (upd (upd H s.heap.objs.size (.own Qba)) Qba (.ins C s.heap.objs.size []))
  {s with heap:=(s.heap.push emptyDict).push (instObj C s.heap.objs.size)}:=by
 have e1:(s.heap.push _).get? _=some emptyDict:=mv _ rfl;have e2:=by
  have:=mv (s.heap.push emptyDict) (o:=instObj C s.heap.objs.size) rfl
  rwa [Heap.size_push]at this
 have e3:(s.heap.push _).Ns _ _:=⟨ _,#[],_,e1,rfl,(λe he=>absurd he WA),λ_=>rfl⟩;have c:=I.laid (o:=.own Qba) (t':=s.toks) (λb u q=>kx _ q) (gZ _) ⟨_,e1⟩;refine c.laid (λb u q=>kx _ q) (Nat.le_of_eq (Heap.size_push _ _)) ?_;have ne:s.heap.objs.size≠s.heap.objs.size+1:=ll (yn _);refine⟨by rw[au ne,aW],kn _,ne,e2,_,(Heap.Ns1.of_empty e3).at λo q=>kx _ q,λ_=>True.intro,λy a=>absurd rfl a⟩
noncomputable def afF{env:Env}{e:Expr}{Q:B0}(b:attributeBase e f env (eval e env)=eval e env)
  (h:wpAny Qal A (eval e env) (λo a=>wpAny Qal A (getAttr o f true) Q E a) E s):wpAny Qal A (eval Qfv env) Q E s:=
 Attribute_any_ h (by rw[arm_eval_Attribute,b])
def aty(K:Frag)(ta:TE)(f:Str):TE:=λσ H Q=>ta σ H λx H1=>∃a C dx fs v,x=.ref a/\H1 a=some Qdb/\jJ K C/\aD K C f/\fs.lookup f=some v/\Q v H1
def atz(K:Frag)(ta tv:TE)(f:Str):TS:=λD σ H=>tv σ H λy H1=>ta σ H1 λx H2=>∃a C dx fs,x=.ref a/\H2 a=some Qdb/\jJ K C/\aD K C f/\fs.length<1000 ∧
 D.nx σ (upd H2 a (.ins C dx (rX f y fs)))
variable{o e value:Expr}{pos':Pos}{tv:TE}
def Q0(he:PE X e ta)(g:AS X e f):PE X Qfv (aty X.K ta f):=by
 intro pins s σ H Q I h;refine afF g (fY QbE λu s1 zz=>?_);obtain⟨x,H1,k,b,a,C,dx,fs,v,ex,i,c,n,l,q⟩:=zz;subst ex;obtain rfl:u=Value.ref a:=b;exact QY k i c n l λu' s2 j d=>⟨v,H1,j,d,q⟩
def akP(i:PE X o ta)(hv:PE X value tv)(hs:swapsWith value (some (.Attribute o f pos')) pos.line X.env=pure false):PS X (.Assign [.Attribute o f pos'] value pos) (atz X.K ta tv f):=by
 intro pins s σ H D I h;refine plainObj_wpAny_Assign_Attribute (fY (hv pins s σ H _ I h) λu s1 ⟨y,H1,p,b,q⟩=>fY (i pins s1 σ H1 _ p q) λg s2 zz=>?_) hs;obtain⟨x,H2,m,d,a,C,dx,fs,ex,j,c,n,l,e⟩:=zz;subst ex;obtain rfl:g=Value.ref a:=d;exact QZ m j c n l b λs3 k=>⟨σ,_,k,e⟩
def aji{m:Str}{apos:Pos}{args:CU}{Q:B0}(he:QbQ)(I:QE)
  (h:te σ H λx H1=>∃a C dx fs g,x=.ref a/\H1 a=some Qdb/\jJ X.K C/\Meth X.K C m g/\fs.lookup m=none ∧
   ∀s1,Inv X pins σ H1 s1->wpAny Qu X.A (callWith pos (.ref g) [.ref a] (backTo pos (starEach args X.env)) Qbp) Q X.xe s1)
  (i:eval QkK X.env=(do
   let U ← eval e X.env
   standAt apos.atName
   let (f,first) ← holding [U] Qhy
   callWith pos f first (backTo pos (starEach args X.env)) Qbp)) :
  wpAny Qu X.A (eval QkK X.env) Q X.xe s:=by
 refine KI (fY QbE λu s1 zz=>?_) i;obtain⟨x,H1,b,d,a,C,dx,fs,g,ex,j,c,k,l,q⟩:=zz;subst ex;obtain rfl:u=Value.ref a:=d;exact yJ b j c k l (q s1 b)
structure eG(k:Nat)(A:Qau):Prop where
 hd:A.handled=none
 dp:A.depth+3*k+5<recursionLimit
 un:A.units+16*k+200<cLine
theorem eG.mono{j:Nat}(r:eG k A)(h:j<=k):eG j A:=⟨r.hd,by have:=r.dp;lia,by have:=r.un;lia⟩
theorem eG.deeper(r:eG Qaj A)(env:Env):eG k (A.deeper env):=
 ⟨r.hd,by have:=r.dp;show A.depth+1+3*k+5<_;lia,by have:=r.un;show A.units+3+16*k+200<_;lia⟩
def Q5{kw:DO}:(A.under Qgn).depth=A.depth+1:=rfl
def Q6{kw:DO}:(A.under Qgn).units=A.units+1:=rfl
theorem eG.make(r:eG Qaj A)(C:Addr)(us:B1)(kw:DO):eG k (A.under Qgn):=
 ⟨r.hd,by have:=r.dp;rw[Q5];lia,by have:=r.un;rw[Q6];lia⟩
theorem eG.depth(r:eG k A):A.depth<recursionLimit:=by have:=r.dp;lia
theorem eG.units(r:eG k A):A.units+64<cLine:=by have:=r.un;lia
def Xg:TA:=λ_ H Q=>Q [] H
noncomputable def Ve(ta:TE)(tr:TA):TA:=λσ H Q=>ta σ H λx H1=>tr σ H1 λxs H2=>Q (x::xs) H2
variable{t:TA}
noncomputable def dW:PA X [] Xg:=λ_ _ _ _ H Q I h=>Calls.spliced_nil ⟨[],H,I,.nil,h⟩
def bZ(g:QbQ)(f:PA X es t)(hs:Qaf:=by rfl):PA X Qab (Ve te t):=by
 intro pos pins s σ H Q I h;rw[hs];show wpAny _ _ (spliced ((false,eval e _)::backTo pos _)) _ _ s;refine Kj (fY Qhg λu s1 zz=>?_);obtain⟨x,H1,j,b,d⟩:=zz;exact fY (f pos pins s1 σ H1 _ j d) λus s2 ⟨xs,H2,i,a,c⟩=>⟨ _,H2,i,.cons b a,c⟩
def atA(t:TA):TE:=λσ H Q=>t σ H λxs H1=>xs.length<=sizeLine/\∀p,H1 p=none->Q Qdv (upd H1 p Qa1)
def atB(t:TA):TE:=λσ H Q=>t σ H λxs H1=>xs.length<=sizeLine/\∀p,H1 p=none->Q Qdv (upd H1 p Qa2)
def aal{U}(h:PA X es t):PE X (.Tuple es U pos) (atA t):=by
 intro pins s σ H Q I c;refine wpAny_Tuple_spliced (fY (h pos pins s σ H _ I c) λus s1 ⟨xs,H1,a,r,z,q⟩=>⟨ r.length▸z,?_⟩);have hf:=a.fQ.fresh (gZ _);refine⟨.ref _,_,a.laid Qjl (gZ _) ?_,rfl,q _ hf⟩;exact⟨z,us,r,⟨_,mv _ rfl,rfl,_,rfl⟩⟩
def akQ(h:PA X es t):PE X (.List es pos) (atB t):=by
 intro pins s σ H Q I c;refine wpAny_List_spliced (fY (h pos pins s σ H _ I c) λus s1 ⟨xs,H1,a,r,z,q⟩=>⟨ r.length▸z,?_⟩);have hf:=a.fQ.fresh (gZ _);refine⟨.ref _,_,a.laid Qjl (gZ _) ?_,rfl,q _ hf⟩;exact⟨z,us,0,r,mv _ rfl⟩
abbrev Sp:=BY->Hp->VK->XK->Prop
abbrev ZE:=D1->Hp->Shared->XK->Value->Shared->Prop
structure Q7(P:Qat)(w:World)(K:Frag)(mg:Bi)(base:Heap)(A:Qau)(outer:D1)(s:Qb)(H:Hp):Prop where
 frames:A.frames=some outer
 mod:Mod K mg base
 bs:∀b o,base.get? b=some o->s.heap.get? b=some o/\H b=none
 ZU:base.objs.size<=s.heap.objs.size
 BO:s.heap.FunFrames base outer
 sv:∀b∈U5 outer,H b=none
 fQ:yI P w H s.heap
 bare:AllBare s.gens
def CE(outer:D1)(P:Qat)(w:World)(H:Hp)(s:Qb)(Q:VK)(u:Value)(s':Qb):Prop:=
 ∃v H',s'.os=s.os/\AllBare s'.gens/\Un (U5 outer) [] H H' s.heap s'.heap/\yI P w H' s'.heap/\RelV v u/\Q v H'
def CR(CX:ZE)(outer:D1)(P:Qat)(w:World)(H:Hp)(s:Qb)(Q:VK)(E:XK)(r:Result)(s':Qb):Prop:=
 match r with
 | .ok (.ret u)=>CE outer P w H s Q u s'
 | .ok _=>False
 | .error e=>CX outer H s E e s'
structure fj(P:Qat)(w:World)(K:Frag)(mg:Bi)(base:Heap)(CX:ZE)(k:Nat)(f:Addr)(fd:QaG)(ps:At)(sp:Sp):Prop where
 len:∀vs H Q E,sp vs H Q E->vs.length=ps.length
 run:∀(A:Qau) (outer:D1) (s:Qb) (H:Hp) (args:Args) (us:B1) (vs:BY) (Q:VK) (E:XK),eG k A->Q7 P w K mg base A outer s H->BindsTo s fd args Qe0->Vals vs us->sp vs H Q E →
  codeAny Qdk A (.call Q3 args) (CR CX outer P w H s Q E) s
variable{mg:Bi}{base:Heap}{CX:ZE}{ps:At}
theorem fj.imp{f:Addr}{fd:QaG}{sp a:Sp}(F:fj P w K mg base CX k f fd ps sp)
  (h:∀vs H Q E,a vs H Q E->sp vs H Q E):fj P w K mg base CX k f fd ps a:=
 ⟨λvs H Q E q=>F.len vs H Q E (h _ _ _ _ q),λA outer s H args us vs Q E b he c hv hs=>F.run A _ s H args us vs Q E b he c hv (h _ _ _ _ hs)⟩
theorem Q7.make{outer:D1}(e:Q7 P w K mg base A outer s H)(C:Addr)(us:B1)(kw:DO) :
  Q7 P w K mg base (A.under Qgn) outer s H:=⟨by first|exact e.frames|(simpa using e.frames),e.mod,e.bs,e.ZU,e.BO,e.sv,e.fQ,e.bare⟩
variable{s':Qb}
theorem Inv.PM(I:QE):Q7 X.prog X.w X.K X.mg X.base X.A X.stack s H:=
 ⟨I.ok.frames,I.ok.mod,I.bs,kv I.ok.ZU I.sz,I.stack,I.Ks,I.fQ,I.bare⟩
theorem Inv.after{Q:VK}(I:QE)(h:CE X.stack X.prog X.w H s Q u s'):EP X pins σ Q u s':=by
 obtain⟨v,H',os,bare,un,fQ,r,q⟩:=h;obtain⟨c,g,d,t,a⟩:=s';obtain rfl:a=s.os:=os;exact⟨v,H',I.call un fQ bare (λb z=>absurd z WA),r,q⟩
noncomputable def NM(sp:Sp)(D0:BY)(E:XK)(t:TA):TE:=λσ H Q=>t σ H λvs H1=>sp (vs++D0) H1 Q E
def SS(C:Addr)(m:Str)(sp:Sp)(D0:BY)(E:XK)(ta:TE)(t:TA):TE:=λσ H Q=>ta σ H λx H1=>∃a dx fs,x=.ref a/\H1 a=some Qdb/\fs.lookup m=none ∧
 t σ H1 λvs H2=>sp (x::(vs++D0)) H2 Q E
def apv(C:Addr)(sp:Sp)(D0:BY)(E:XK)(t:TA):TE:=λσ H Q=>t σ H λvs H1=>∀x dx,H1 x=none->H1 dx=none->dx≠x →
 sp (.ref x::(vs++D0)) (upd (upd H1 dx Qee) x (.ins C dx [])) (λv H2=>v=.non/\Q QcK H2) E
def Binds(K:Frag)(fd:QaG)(ps:At)(ds:B1):Prop:=
 ∀(s:Qb) (us:B1),K.In s.heap->(us++ds).length=ps.length->BindsTo s fd ⟨us,[]⟩ (ps.zip (us++ds))
theorem Binds.all{fd:QaG}(h:∀us:B1,us.length=ps.length->bindArgs fd ⟨us,[]⟩=pure Qe0):Binds K fd ps []:=λs us _ a=>by
 rw[j2]at a ⊢;exact .of_eq (h us a)
def Passes(CX:ZE)(X:Cx)(E:XK):Prop:=∀(pins:BM) (σ:St) (H:Hp) (s:Qb) (e:Value) (s':Qb),Inv X pins σ H s->CX X.stack H s E e s'->X.xe e s'
section
variable{f:Addr}{fd:QaG}{sp:Sp}{D0:BY}{ds:B1}{E:XK}{x m:Str}{apos:Pos}
def EH{Q:VK}{vs:BY}(F:QcP)(d:QbA)(i:Qc2)(hd:Qdo)(c:Qdd)
  (I:QE) (r:Vals vs us) (h:sp (vs++D0) H Q E):wpAny Qu X.A (call Q3 us) Qa5 X.xe s:=by
 have b:=r.append hd;have g:=b.length▸F.len _ _ _ _ h;refine wpAny_call (codeAny_mono (F.run X.A _ s H _ _ _ Q E d I.PM (i s us I.Nt g) b h) λr s' a=>?_);cases r with
 | error e=>exact c pins σ H s e s' I a
 | ok j=>
  cases j with
  | ret u=>exact I.after a
  | next=>exact False.elim a
  | brk=>exact False.elim a
  | cont=>exact False.elim a
def Kx(F:QcP)(d:QbA)(i:Qao)(hm:QfJ)(g:Qfw)(j:Qc2)(hd:Qdo)(c:Qdd)
  (l:Qd0) (b:AD x:=by decide) (he:Qaf:=by rfl) (hpl:Qaw:=by rfl) :
  PE X QgG (NM sp D0 E t):=by
 intro pins s σ H Q I h;refine tJ (DZ I i hm ?_ b);refine Ki I.ok.mod.xt g (fY (l pos pins s σ H _ I h) λus s1 ⟨vs,H1,a,r,q⟩=>⟨a.Nt,?_⟩) he hpl;exact EH F d j hd c a r q
def aan(F:QcP)(c:QbA)(e:Qao)(hm:QfJ)(d:Qfw)(g:Qc2)(hd:Qdo)(b:Qdd)
  (a:AD x:=by decide):PE X (.Call (.Name x p) [] [] pos) (NM sp D0 E Xg):=by
 intro pins s σ H Q I h;refine tJ (DZ I e hm ?_ a);exact callWith_K0 I.Nt d (EH F c g hd b I .nil h)
def Vf(he:PE X o ta)(c:jJ X.K C)(hm:Meth X.K C m f)(F:QcP)(v:QbA)(y:Qc2)(hd:Qdo)(n:Qdd)(z:Qd0)
  (j:Qaf:=by rfl) (hpl:Qaw:=by rfl)
  (p:eval Qer X.env=(do
   let U ← eval o X.env
   standAt apos.atName
   let (f,first) ← holding [U] Qhy
   callWith pos f first (backTo pos QcX) Qbp):=by rfl) :
  PE X Qer (SS C m sp D0 E ta t):=by
 intro pins s σ H Q I h;refine KI (fY QbE λu s1 zz=>?_) p;obtain⟨x,H1,d,g,a,dx,fs,ex,B,l,q⟩:=zz;subst ex;obtain rfl:u=Value.ref a:=g;refine yJ d B c hm l ?_;refine Ki I.ok.mod.xt hm.kp (fY (z pos pins s1 σ H1 _ d q) λus s2 ⟨vs,H2,b,r,i⟩=>⟨b.Nt,?_⟩) j hpl;exact EH (vs:=.ref a::vs) F v y hd n b (.cons rfl r) i
def aao(he:PE X o ta)(c:jJ X.K C)(hm:Meth X.K C m f)(F:QcP)(i:QbA)(j:Qc2)(hd:Qdo)(e:Qdd)
  (g:eval Qeu X.env=(do
   let U ← eval o X.env
   standAt apos.atName
   let (f,first) ← holding [U] Qhy
   callWith pos f first (backTo pos Qfx) Qbp):=by rfl) :
  PE X Qeu (SS C m sp D0 E ta Xg):=by
 intro pins s σ H Q I h;refine KI (fY QbE λu s1 zz=>?_) g;obtain⟨x,H1,b,d,a,dx,fs,ex,n,l,q⟩:=zz;subst ex;obtain rfl:u=Value.ref a:=d;refine yJ b n c hm l ?_;exact callWith_K0 b.Nt hm.kp (EH (vs:=[.ref a]) F i j hd e b (.cons rfl .nil) q)
structure Mk(K:Frag)(C f:Addr):Prop where
 makes:makesIn K C=true
 init:findIn K QaI "__init__" = some Qdg
 fn:isFn K Q3=true
 kp:keepIn K QaI=true
def aap{Q:VK}{vs:BY}(M:Mk X.K C f)(F:QcP)(l:Qf7)(n:Qc2)(hd:Qdo)
  (j:Qdd) (I:QE) (r:Vals vs us)
  (h:∀x dx,H x=none->H dx=none->dx≠x->sp (.ref x::(vs++D0)) (upd (upd H dx Qee) x (.ins C dx [])) (λv H2=>v=.non/\Q QcK H2) E) :
  wpAny Qu X.A (call QaI us) Qa5 X.xe s:=by
 have d:=h _ _ Qjt Qhr (ll (yn _));have b:=Inv.made (C:=C) I;have c:Vals (V.ref Qba::(vs++D0)) _:=.cons rfl (r.append hd);have m:=by
  have e:=c.length;rw[F.len _ _ _ _ d]at e;exact e.symm
 refine wpAny_call (aak I.Nt M.makes M.init (tF.1 M.fn) (codeAny_mono (F.run _ _ _ _ _ _ _ _ E (l.make C us [])
  (b.PM.make C us []) (n _ _ b.Nt m) c d) λr s' a=>?_))
 cases r with
 | error e=>exact j pins σ _ _ e s' b a
 | ok o=>
  cases o with
  | ret u=>
   obtain⟨v,H',p,g,ev,i⟩:=b.after a;subst ev;exact⟨g,⟨V.ref _,H',p,rfl,i⟩⟩
  | next=>exact False.elim a
  | brk=>exact False.elim a
  | cont=>exact False.elim a
def Ky(M:Mk X.K C f)(F:QcP)(d:Qf7)(g:Qao)(hm:X.mg x=some QaI)(i:Qc2)(hd:Qdo)(c:Qdd)
  (j:Qd0) (b:AD x:=by decide) (he:Qaf:=by rfl) (hpl:Qaw:=by rfl) :
  PE X QgG (apv C sp D0 E t):=by
 intro pins s σ H Q I h;refine tJ (DZ I g hm ?_ b);refine Ki I.ok.mod.xt M.kp (fY (j pos pins s σ H _ I h) λus s1 ⟨vs,H1,a,r,q⟩=>⟨a.Nt,?_⟩) he hpl;exact aap M F d i hd c a r q
end
def PK(X:Cx)(kws:EO)(t:TA):Prop:=
 ∀(pos:Pos) (pins:BM) (s:Qb) (σ:St) (H:Hp) (Q:EN),Inv X pins σ H s->t σ H Q->wpAny Qu X.A (evalAll ((backToKw pos (keywordEach kws X.env)).map (·.2))) (AP X pins σ Q) X.xe s
variable{x:Str}{atD:Pos}{kws:EO}{nm:Option Str}
noncomputable def aaq:PK X [] Xg:=λ_ _ _ _ H Q I h=>wpAny_evalAll_nil ⟨[],H,I,.nil,h⟩
def Vg(g:QbQ)(f:PK X kws t):PK X (⟨nm,e,atD⟩::kws) (Ve te t):=by
 intro pos pins s σ H Q I h;refine wpAny_evalAll_cons (i8 (fY Qhg λu s1 ⟨x,H1,j,b,d⟩=>i8 (FV (kX ?_))));exact fY (f pos pins s1 σ H1 _ j d) λus s2 ⟨xs,H2,i,a,c⟩=>⟨ _,H2,i,.cons b a,c⟩
structure cU(N P:At)(sc:Scope):Prop where
 kind:sc.kind=.function
 co:sc.isCoroutine=false
 gen:sc.isGenerator=false
 nd:N.Nodup
 pre:N.take P.length=P
 par:∀x∈P,sc.names.lookup x=some .local\/sc.names.lookup x=some .cell
 akR:∀y∈sc.names,y.2 ≠ .free
theorem Jx{kindOf:Qhj}{x:Str}:∀{binds:DO} {m:Bi},(∀v,(x,v)∉binds)->bindL kindOf binds m x=m x
 | [],_,_=>rfl
 | (n,v)::r,m,h=>by
  unfold bindL;rw[Jx λw hw=>h w (i4 _ hw)];split
  .have:x≠n:=by rintro rfl;exact h v gj
   simp[this]
  .rfl
theorem Jy{kindOf:Qhj}{x:Str}:∀{binds:DO} {m:Bi},(∀v,(x,v)∉binds)->bindC kindOf binds m x=m x
 | [],_,_=>rfl
 | (n,v)::r,m,h=>by
  unfold bindC;rw[Jy λw hw=>h w (i4 _ hw)];split
  .rfl
  .have:x≠n:=by rintro rfl;exact h v gj
   simp[this]
theorem Jz{kindOf:Qhj}{x:Str}{v:Value}:∀{P:At} {vs:B1} {i:Nat} {m:Bi},P.Nodup->P[i]? = some x->vs[i]? = some v->kindOf x=some .local →
  bindL kindOf (P.zip vs) m x=some v
 | [],_,_,_,_,h,_,_=>by simp at h
 | _::_,[],_,_,_,_,h,_=>by simp at h
 | p::P,w::vs,0,m,nd,h1,h2,a=>by
  simp at h1 h2;subst h1;subst h2;show bindL _ ((p,w)::P.zip vs) m p=_;unfold bindL;rw[Jx λv hv=>(nP.1 nd).1 (List.of_mem_zip hv).1,di a];simp
 | p::P,w::vs,i+1,m,nd,h1,h2,a=>by
  unfold bindL;exact Jz (nP.1 nd).2 (‹_›) (‹_›) a
theorem JA{kindOf:Qhj}{x:Str}{v:Value}:∀{P:At} {vs:B1} {i:Nat} {m:Bi},P.Nodup->P[i]? = some x->vs[i]? = some v->kindOf x≠some .local →
  bindC kindOf (P.zip vs) m x=some v
 | [],_,_,_,_,h,_,_=>by simp at h
 | _::_,[],_,_,_,_,h,_=>by simp at h
 | p::P,w::vs,0,m,nd,h1,h2,a=>by
  simp at h1 h2;subst h1;subst h2;show bindC _ ((p,w)::P.zip vs) m p=_;unfold bindC;rw[Jy λv hv=>(nP.1 nd).1 (List.of_mem_zip hv).1,cq a];simp
 | p::P,w::vs,i+1,m,nd,h1,h2,a=>by
  unfold bindC;exact JA (nP.1 nd).2 (‹_›) (‹_›) a
noncomputable def start(N:At)(vs:BY):St:=vs.map some++List.replicate (N.length-vs.length) none
noncomputable def rY(CX:ZE)(P:Qat)(w:World)(K:Frag)(mg:Bi)(base:Heap)(N:At)(qual:Str)(scope:Scope)(f:Addr)(cd:Value)(A:Qau)(outer:D1)(s:Qb)(H:Hp)(E:XK):Cx where
 prog:=P
 w:=w
 K:=K
 mg:=mg
 base:=base
 A:=A.deeper Qif
 N:=N
 j1:=s
 nk:=H
 env:=envOfC qual scope s.heap.objs.size f cd
 outer:=outer
 stack:=envOfC qual scope s.heap.objs.size f cd::outer
 ex:=[]
 calm:=true
 fn:=λ_=>true
 pn:=[]
 xe:=λe s'=>wpAny Qdk (A.deeper Qif) (leaving Qif e) (λ_ a=>CX outer H s E e a) (λb a=>CX outer H s E b a) s'
def NW{sc:Scope}{n:Nat}(h:sc.names.lookup x=some .cell):∃c,(cellsFrom n sc.names []).lookup x=some c:=by
 have q:=cellsFrom_some _ n [] (.inl h);exact Option.isSome_iff_exists.1 q
theorem Xh{N:At}{qual:Str}{scope:Scope}{f:Addr}{cd:Value}{outer:D1}{s1:Qb}{E:XK}{vs:BY}
  (S:cU N ps scope) (hd:QeM) (e0:Q7 P w K mg base A outer s H) (B:vs.length=ps.length) (r:Vals vs us)
  (x:InCallC s s.heap.objs.size (bindL (envOfC qual scope s.heap.objs.size f cd).kindOf Qe0 λ_=>none) (cellsFrom Qba scope.names []) (bindC (envOfC qual scope s.heap.objs.size f cd).kindOf Qe0 λ_=>none) s1) :
  Inv (rY CX P w K mg base N qual scope f cd A outer s H E) [] (start N vs) H s1:=by
 have hpl:ps.length<=N.length:=by have:=congrArg List.length S.pre;rw[nr]at this;lia
 obtain⟨h1,tk,rfl,m⟩:=x.done;have a:∀b:Addr,b∉(rY CX P w K mg base N qual scope f cd A outer s H E).ex:=λb z=>absurd (show b∈([]:BN) from z) WA;refine⟨⟨e0.mod,S.kind,rfl,rfl,gZ _,λy z c h1 h2=>?_,λy g=>?_,λy c _ h=>?_,λ_=>hd,Around.frames_deeper e0.frames,.inr ⟨rfl,rfl⟩,λb z=>absurd z (a b),e0.bs,e0.ZU,λb _ _=>a b,λb z=>absurd z (a b),e0.BO,e0.sv⟩,
  rfl,e0.bare,Un.kept m,⟨_,x.toInCall.ns,λi y v h1 h2 C=>?_⟩,λy c h=>⟨_,x.cell y c h⟩,e0.fQ.fresh (gZ _),λy c h=>?_,λp j=>absurd (show p∈([]:BM) from j) WA,e0.fQ.kept m,?_⟩
 .exact name_of_addr x.apart (rl h1) (rl h2)
 .obtain g|g:=g
  .exact NW g
  .exact absurd rfl (S.akR _ (rl g))
 .exact ml (x.above y c (rl h))
 .have hi:i<vs.length:=by
   unfold start at h2;by_cases hi:i<vs.length
   .exact hi
   .rw[List.getElem?_append_right (by simpa using hi)]at h2;rw[KU]at h2;split at h2<;>cases h2
  have t:vs[i]? = some v:=by
   unfold start at h2;rw[List.getElem?_append_left (by simpa using hi),List.getElem?_map]at h2;simp_all
  obtain⟨u,l,o⟩:=r.get t;have j:ps[i]? = some y:=by
   rw[← S.pre,List.getElem?_take_of_lt We];exact h1
  have d:ps.Nodup:=by rw[← S.pre];exact S.nd.sublist (List.take_sublist _ _)
  refine⟨u,o,?_⟩;obtain k|k:=S.par y (l6 j)
  .exact .inl ⟨k,Jz d j l k⟩
  .obtain⟨c,e⟩:=NW (n:=s.heap.objs.size+1) k;refine .inr ⟨.inl k,c,e,?_⟩;have q:=x.cell y c e;rw[JA d j l (by show scope.names.lookup y≠_;rw[k];decide)]at q;exact q
 .exact e0.fQ.fresh (ml (x.above y c (rl h)))
 .unfold start;show _=N.length;grind
abbrev _root_.Cn:=Array (Option Value)
theorem SO{f:Addr}{qual:Str}{params:Arguments}{body:Co}{scope:Scope}{d kV doc pm gR ct oc:Value}{an od:Do}
  {Q8:Cn} {N:At} {sp:Sp} (lk:K.lookup f=some ⟨oc,od,.func Qkc,Q8⟩) (kN:QjO) (S:cU N ps scope)
  (len:∀vs H Q E,sp vs H Q E->vs.length=ps.length)
  (B:∀(A:Qau) (outer:D1) (s:Qb) (H:Hp) (vs:BY) (Q:VK) (E:XK),eG k (A.deeper (envOfC qual scope s.heap.objs.size f gR))->sp vs H Q E →
   ∃t,QS (rY CX P w K mg base N qual scope f gR A outer s H E) body t/\t {nx:=λ_ H'=>Q .non H',rt:=Q} (start N vs) H) :
  fj P w K mg base CX Qaj f Qkc ps sp:=by
 refine⟨len,λA outer s H args us vs Q E c e0 p r g=>?_⟩;have m:=len _ _ _ _ g;have h:=e0.mod.xt.keeps λb o e=>(e0.bs b o e).1;have lim:=e0.mod.nolimit.keeps λb o e=>(e0.bs b o e).1;have C:∀y∈ps.zip us,scope.names.lookup y.1=some _\/(scope.names.lookup y.1=some _/\((cellsFrom Qba _ []).lookup y.1).isSome=true):=λ⟨n,v⟩ i=>by
  obtain q|q:=S.par n (List.of_mem_zip i).1
  .exact .inl q
  .exact .inr ⟨q,cellsFrom_some _ _ _ (.inl q)⟩
 refine codeAny_call_function c.depth (h _ _ lk) rfl S.co S.gen rfl (PySem.W.codeRec_of h kN) (p _ _ _ _ ?_);refine wpAny_newFunctionEnv_cells S.kind C λenv he s1 x=>?_;subst he;refine⟨lim.keeps x.toInCall.keep,codeAny_func ?_⟩;obtain⟨t,j,l⟩:=B A _ s H vs Q E (c.deeper _) g;have I:Inv (rY CX P w K mg base N qual _ f gR A _ s H E) [] _ H s1:=Xh S c.hd e0 m r x;refine nq (j [] s1 _ H _ I l) (λz s' hs=>?_) λe s' hs=>hs;have fin:∀{σ':St} {H':Hp} {v:V} {u:Value},Inv (rY CX P w K mg base N qual scope f gR A _ s H E) [] σ' H' s'->RelV v u->Q v H'->CE outer P w H s Q u s':=
  λ{σ' H' v u} J a q=>⟨v,H',J.os,J.bare,J.base,J.fQ,a,q⟩
 cases z with
 | ret u=>
  obtain⟨v,σ',H',J,a,q⟩:=hs;exact fin J a q
 | next=>
  obtain⟨σ',H',J,q⟩:=hs;exact fin (v:=V.non) J rfl q
 | brk=>
  obtain⟨_,_,_,q⟩:=hs;simp_all
 | cont=>
  obtain⟨_,_,_,q⟩:=hs;exact False.elim q
section
variable{id T:String}{r:Qjr}
noncomputable def OK(r:Qjr)(t:TA):TE:=λσ H Q=>t σ H λvs H1=>r vs H1 Q
def rZ(g:rW X QeO r)(f:Qao)(hm:X.mg x=none)(hv:bootBuiltins x=some QeO)(i:Qd0)(d:x≠"__name__":=by decide)(a:AD x:=by decide)
  (he:Qaf:=by rfl) (hpl:Qaw:=by rfl):PE X QgG (OK r t):=by
 intro pins s σ H Q I h;refine tJ (qT I f hm hv ?_ d a);exact PyProof.Rows.callWith_builtin1 (fY QiV λus s1 ⟨vs,H1,j,b,c⟩=>g pins s1 σ H1 vs us Q j b c) he hpl
def kC(g:rW X (.type T) r)(f:Qao)(hm:X.mg x=none)(hv:bootBuiltins x=some (.type T))(i:Qd0)(d:x≠"__name__":=by decide)(a:AD x:=by decide)
  (he:Qaf:=by rfl) (hpl:Qaw:=by rfl):PE X QgG (OK r t):=by
 intro pins s σ H Q I h;refine tJ (qT I f hm hv ?_ d a);exact wy (fY QiV λus s1 ⟨vs,H1,j,b,c⟩=>g pins s1 σ H1 vs us Q j b c) he hpl
end
end L2
namespace HT
open PySem PyProof.Rows
abbrev _root_.Ch:=Option Int
noncomputable def DG(n d:Nat):Ch->Nat
 | none=>d
 | some v=>if v<0 then(v+(n:Int)).toNat else min v.toNat n
end HT
namespace L2
open PySem PySem.Spec PyProof.Rows
abbrev TO:=St->Hp->(Ch->Hp->Prop)->Prop
def PO(X:Cx)(e:Qd2)(t:TO):Prop:=
 ∀(pins:BM) (s:Qb) (σ:St) (H:Hp) (Q:Ch->Hp->Prop),Inv X pins σ H s->t σ H Q →
  wpAny Qu X.A (evalPart e X.env) (λu s'=>∃o H',Inv X pins σ H' s'/\IsPart u o/\Q o H') X.xe s
def afH:TO:=λ_ H Q=>Q none H
noncomputable def apw(t:TE):TO:=λσ H Q=>t σ H λx H1=>∃i,x=.int i/\Q (some i) H1
abbrev _root_.AT:=List Int
theorem intsAre_of{ns:AT}:∀{us:B1},Vals QbZ us->IntsAre us ns:=by
 induction ns with
 | nil=>intro us r;cases r;exact .nil
 | cons n ns c=>
  intro us r;cases r with
  | cons b a=>
   obtain⟨t,e⟩:=b;subst e;exact .cons n t (c a)
variable{X:Cx}{e:Expr}{te:TE}{lo hi:Qd2}{tl th:TO}{pos p2:Pos}
noncomputable def Vh:PO X none afH:=λpins s σ H Q I h=>kX ⟨none,H,I,.none,h⟩
def Vi(h:QbQ):PO X (some e) (apw te):=by
 intro pins s σ H Q I hw;refine fY (h pins s σ H _ I hw) λu s1 zz=>?_;obtain⟨x,H1,c,a,b⟩:=zz;obtain⟨i,rfl,q⟩:=b;obtain⟨t,rfl⟩:=a;exact⟨ _,H1,c,.int i t,q⟩
def SlR(X:Cx)(r:QiE):Prop:=
 ∀(pins:BM) (s:Qb) (σ:St) (H:Hp) (x:V) (v b a:Value) (lo hi:Ch) (sl:Addr) (Q:VK),Inv X pins σ H s->RelV x v->s.heap.IsSliceOf sl b a .none->IsPart b lo->IsPart a hi->r x lo hi H Q →
  ∃T id,typeLookup (.type T) "__getitem__" = pure (some QeO)/\s.TypeIs v T/\wpAny Qu X.A (getItem v (.ref sl)) Qa5 X.xe s
noncomputable def tSl(r:QiE)(te:TE)(tl th:TO):TE:=λσ H Q=>te σ H λx H1=>tl σ H1 λl H2=>th σ H2 λu a=>r x l u a Q
def NZ{r:QiE}(n:SlR X r)(he:QbQ)(o:PO X lo tl)(k:PO X hi th):PE X QkL (tSl r te tl th):=by
 intro pins s σ H Q I h;refine Subscript_ (fY QbE λv s1 zz=>?_);obtain⟨x,H1,A,f,j⟩:=zz;refine wpAny_Slice (fY (o pins s1 σ H1 _ A j) λc s2 ⟨l,H2,z,pl,i⟩=>fY (k pins s2 σ H2 _ z i) λa s3 zz=>?_);obtain⟨u,d,y,pu,g⟩:=zz;refine kX ?_;have w:Inv X pins σ d {s3 with heap:=s3.heap.push {cls:=.type "slice",data:=.fields #[c,a,.none]}}:=y.kept λb B q=>kx _ q;obtain⟨T,id,t,m,p⟩:=n pins _ σ d x v c a l u _ Q w f (Heap.IsSliceOf.new ..) pl pu g;exact tail_any m t p (rfl)
def FA(xs:BY)(lo hi:Ch):BY:=(xs.drop (HT.DG xs.length 0 lo)).take Qkl
theorem N1(xs:BY)(lo hi:Ch):(FA xs lo hi).length<=xs.length:=by
 unfold FA;rw[nr,List.length_drop];lia
noncomputable def HB(n:Nat)(i:Int):Option Nat:=if 0<=i then(if i<n then some i.toNat else none) else if -(n:Int)<=i then some (i+n).toNat else none
variable{α:Type}
def wV(xs:QR)(i:Int):Option α:=(HB xs.length i).bind λj=>xs[j]?
variable{n:Nat}
theorem z9{i:Int}{j:Nat}(h:HB n i=some j):seqIndex? i n=some j/\j<n /\ -(n:Int)<=i/\i<n:=by
 unfold HB at h;by_cases h0:0<=i
 .rw[di h0]at h;by_cases h1:i<n
  .rw[di h1]at h;have e:=l7 h;exact⟨by rw[seqIndex_of h0 h1,e],We,We,h1⟩
  simp_all
 .rw[cq h0]at h;by_cases h1:-n<=i
  .rw[di h1]at h;have e:=l7 h;exact⟨by rw[seqIndex_neg We h1,e],We,h1,We⟩
  simp_all
theorem Vj{xs:QR}{i:Int}{v:α}(h:wV xs i=some v):∃j,seqIndex? i xs.length=some j/\xs[j]? = some v/\j<xs.length /\ -(xs.length:Int)<=i/\i<xs.length:=by
 unfold wV at h;cases e:HB _ i with
 | none=>rw[e]at h;cases h
 | some j=>
  rw[e]at h;obtain⟨h1,h2,b,a⟩:=z9 e;exact⟨j,h1,h,h2,b,a⟩
theorem dg{xs:QR}{j:Nat}{v:α}(h:xs[j]? = some v):wV xs (j:Int)=some v:=by
 have a:=(kO.1 h).1;have e:HB xs.length j=some j:=by
  unfold HB;simp_all
 unfold wV;rw[e];exact h
theorem aas(xs:QR)(v:α):wV (xs++[v]) (-1)=some v:=by
 have a:(xs++[v]).length=xs.length+1:=by simp
 have e:HB (xs++[v]).length (-1)=some xs.length:=by
  unfold HB;grind
 unfold wV;simp_all
def qx(b:Expr):Prop:=∀o i,subscripted b false o i=operate [o,i] (getItem o i)
def Oy(X:Cx)(r:R2):Prop:=
 ∀(value slice:Expr) (pins:BM) (s:Qb) (σ:St) (H:Hp) (x y:V) (v u:Value) (Q:VK),Inv X pins σ H s->RelV x v->RelV y u->r x y H Q →
  subscripted slice false v u=operate [v,u] (getItem v u)->wpAny Qu X.A (subscriptTail value slice v u) Qa5 X.xe s
def MtR(X:Cx)(id:String)(r:Qhb):Prop:=
 ∀(pins:BM) (s:Qb) (σ:St) (H:Hp) (x:V) (xs:BY) (v:Value) (us:B1) (Q:VK),Inv X pins σ H s->RelV x v->Vals xs us->r x xs H Q →
  wpAny Qu X.A (call QeO (v::us)) Qa5 X.xe s
section
variable{a b:Expr}{ta tb:TE}
noncomputable def EJ{r:R2}(e:Oy X r)(g:QcJ)(f:PE X b tb)(hs:qx b):PE X (.Subscript a b pos) (xf r ta tb):=λpins s σ H Q I h=>Subscript_ (MI g f I h λv u s2 x y H2 i d c q=>e a b pins s2 σ H2 x y v u Q i d c q (hs _ _))
def atF(K:Frag):R2:=λx y H Q=>∃p xs i v,x=.ref p/\y=.int i/\nS K H p xs/\wV xs i=some v/\Q v H
def atG(K:Frag):R2:=λx y H Q=>∃p xs i v,x=.ref p/\y=.int i/\zY K H p xs/\wV xs i=some v/\Q v H
theorem D3:Oy X (atF X.K):=by
 intro value slice pins s σ H x y v u Q I c b h hs;obtain⟨p,xs,i,z,rfl,rfl,d,he,q⟩:=h;cases c;obtain⟨t,rfl⟩:=b;obtain⟨its,r,pl,hz⟩:=I.list d;obtain⟨j,h1,h2,m,g,f⟩:=Vj he;obtain⟨w,n,a⟩:=r.get h2;have l:=r.length;have k:=EF;have fin:EP X pins σ Q w s:=⟨z,H,I,a,q⟩;by_cases h0:0<=i
 .have e:i.toNat=j:=by
   rw[seqIndex_of h0 f]at h1;grind
  exact item_listR pl.isList h0 We WE fin hs
 .have e:(i+its.toArray.size).toNat=j:=by
   rw[seqIndex_neg We g]at h1;simp_all
  exact subscriptTail_builtinR pl.isList.typeIs slot_list_getitem.lookup
   (wpAny_getItem_list_neg pl.isList We WE We WE ⟨rfl,fin⟩) hs
theorem Q9:Oy X (atG X.K):=by
 intro value slice pins s σ H x y v u Q I c b h hs;obtain⟨p,xs,i,z,rfl,rfl,d,he,q⟩:=h;cases c;obtain⟨t,rfl⟩:=b;obtain⟨its,r,pl,hz⟩:=I.tuple d;obtain⟨j,h1,h2,l,k,g⟩:=Vj he;obtain⟨w,m,a⟩:=r.get h2;have f:=r.length;have e:=EF;have fin:EP X pins σ Q w s:=⟨z,H,I,a,q⟩;exact subscriptTail_builtinR pl.typeIs slot_tuple_getitem.lookup
  (getItem_tuple (j:=j) pl We We WE WE ⟨rfl,fin⟩) hs
noncomputable def Ra(its:B1)(n j:Nat)(u:Value):Obj.mapSeq (·.setIfInBounds j u) {cls:=.type "list",data:=.seq its.toArray n}={cls:=.type "list",data:=.seq (its.set j u).toArray n}:=by
 simp[Obj.mapSeq]
theorem Inv.lst{pins:BM}{σ:St}{H:Hp}{s:Qb}{p:Addr}{xs:BY}(I:QE)(h:H p=some Qa2) :
  ∃(its:B1) (n:Nat),Vals xs its/\s.heap.get? p=some {cls:=.type "list",data:=.seq its.toArray n}/\xs.length<=sizeLine:=by
 obtain⟨z,its,n,r,e⟩:=I.fQ p _ h;exact⟨its,n,r,e,z⟩
theorem Inv.akS{pins:BM}{σ:St}{H:Hp}{s:Qb}{p:Addr}{xs ys:BY}{its its':B1}{a:Nat}{f:Obj->Obj}(I:QE)(h:H p=some Qa2)
  (c:s.heap.get? p=some {cls:=.type "list",data:=.seq its.toArray n}) (hf:f {cls:=.type "list",data:=.seq its.toArray n}={cls:=.type "list",data:=.seq its'.toArray a}) (r:Vals ys its') (hz:ys.length<=sizeLine) (t:Nat) :
  Inv X pins σ (upd H p (.lst ys)) {s with heap:=s.heap.update p f,toks:=t}:=by
 have e:(s.heap.update p f).get? p=some {cls:=.type "list",data:=.seq its'.toArray a}:=by
  rw[KA f c (by rw[hf]<;>rfl),hf]
 refine I.write (by rw[h];trivial) Q4 (λb u d q=>(Hc _ _ (mM d)).trans q) ⟨_,e⟩ ?_;exact⟨hz,its',a,r,e⟩
def apx:V->V->V->Hp->(Hp->Prop)->Prop:=λo i v H Q=>∃p xs k j,o=.ref p/\i=.int k/\H p=some Qa2/\HB xs.length k=some j/\Q (upd H p (.lst (xs.set j v)))
theorem set_list:Sa X apx:=by
 intro pins s σ H o i v x y u Q I f g e h;obtain⟨p,xs,k,j,rfl,rfl,c,l,q⟩:=h;cases f;obtain⟨t,rfl⟩:=g;obtain⟨its,n,r,a,hz⟩:=I.lst c;obtain⟨h1,h2,w,m⟩:=z9 l;have A:=r.length;have z:=EF;have d:=
  I.akS c a (Ra its n j u) (r.set e j) WE s.toks
 by_cases h0:0<=k
 .have b:k.toNat=j:=by
   rw[seqIndex_of h0 m]at h1;grind
  exact PySem.W.ki_setAt a h0 We WE (b▸⟨_,d,q⟩)
 .have b:(k+its.toArray.size).toNat=j:=by
   rw[seqIndex_neg We w]at h1;simp_all
  exact PySem.W.ki_setBack a We WE We (b▸⟨_,d,q⟩)
theorem Kz(lo hi:Ch)(n:Nat):(sliceBounds lo hi none n).1=((HT.DG n 0 lo:Nat):Int)/\(sliceBounds lo hi none n).2.1=((HT.DG n n hi:Nat):Int)/\(sliceBounds lo hi none n).2.2=1:=by
 refine⟨?_,?_,rfl⟩
 .cases lo with
  | none=>simp[sliceBounds,HT.DG]
  | some i=>
   simp[sliceBounds,HT.DG,oy];by_cases h:i<0
   .simp only[h,oy]<;>lia
   .simp[h]<;>lia
 .cases hi with
  | none=>simp[sliceBounds,HT.DG]
  | some i=>
   simp[sliceBounds,HT.DG,oy];by_cases h:i<0
   .simp only[h,oy]<;>lia
   .simp[h]<;>lia
def HJ(its:B1)(lo hi:Ch):slicePick its.toArray lo hi none=((its.drop (HT.DG its.length 0 lo)).take (HT.DG its.length its.length hi-HT.DG its.length 0 lo)).toArray:=by
 obtain⟨h1,h2,a⟩:=Kz lo hi _;unfold slicePick;rw[h1,h2,a];simp only[sliceRange_one,pick_run]<;>rfl
def atH(K:Frag):V->Ch->Ch->Hp->VK->Prop:=λx lo hi H Q=>∃a xs,x=.ref a/\nS K H a xs/\∀p,H p=none->Q Qdv (upd H p (.lst (FA xs lo hi)))
theorem Vk:SlR X (atH X.K):=by
 intro pins s σ H x v g f lo hi sl Q I d hs pl pu h;obtain⟨a,xs,rfl,e,q⟩:=h;cases d;obtain⟨its,r,c,hz⟩:=I.list e;have hlen:=r.length;refine⟨ _,_,slot_list_getitem.lookup,c.isList.typeIs,?_⟩;refine wpAny_getItem_list_slice c.isList hs pl pu .none WA ?_ WF;rw[HJ,← hlen];refine⟨.ref _,_,I.laid (λb i q=>kx _ q) (gZ _) ?_,rfl,q _ Qhr⟩;exact⟨kv (N1 xs lo hi) hz,_,0,(r.drop _).take _,mv _ rfl⟩
noncomputable def yg:V->Bool
 | .non=>true
 | .bl _=>true
 | .int _=>true
 | .str _ => true
 | _=>false
noncomputable def ov:V->V->Bool
 | .non,.non=>true
 | .bl a,.bl b=>a==b
 | .bl a,.int b=>(if a then 1 else 0)==b
 | .int a,.bl b=>a==(if b then 1 else 0)
 | .int a,.int b=>a==b
 | .str a, .str b => a == b
 | _,_=>false
theorem akT{A:Qau}{s:Qb}{y x:V}{u v:Value}(d:Qcb)(c:RelV x v)(e:yg y=true)(fx:yg x=true):SeqAt.EqAt A s u v (ov y x):=by
 cases y with
 | non=>
  cases d;cases x with
  | non=>cases c;exact SeqAt.EqAt.same _
  | bl b=>cases c;exact SeqAt.EqAt.none_bool b
  | int b=>obtain⟨t,rfl⟩:=c;exact SeqAt.EqAt.none_int b t
  | str b=>obtain⟨t,rfl⟩:=c;exact SeqAt.EqAt.none_str b t
  | _=>exact absurd (show false=true from fx) mD
 | bl a=>
  cases d;cases x with
  | non=>cases c;exact SeqAt.EqAt.bool_none a
  | bl b=>cases c;exact SeqAt.EqAt.bool_bool a b
  | int b=>obtain⟨t,rfl⟩:=c;exact SeqAt.EqAt.bool_int a b t
  | str b=>obtain⟨t,rfl⟩:=c;exact SeqAt.EqAt.bool_str a b t
  | _=>exact absurd (show false=true from fx) mD
 | int a=>
  obtain⟨t',rfl⟩:=d;cases x with
  | non=>cases c;exact SeqAt.EqAt.int_none a t'
  | bl b=>cases c;exact SeqAt.EqAt.int_bool a t' b
  | int b=>obtain⟨t,rfl⟩:=c;exact SeqAt.EqAt.int_int a t' b t
  | str b=>obtain⟨t,rfl⟩:=c;exact SeqAt.EqAt.int_str a t' b t
  | _=>exact absurd (show false=true from fx) mD
 | str a=>
  obtain⟨t',rfl⟩:=d;cases x with
  | non=>cases c;exact SeqAt.EqAt.str_none a t'
  | bl b=>cases c;exact SeqAt.EqAt.str_bool a t' b
  | int b=>obtain⟨t,rfl⟩:=c;exact SeqAt.EqAt.str_int a t' b t
  | str b=>obtain⟨t,rfl⟩:=c;exact SeqAt.EqAt.str_str a t' b t
  | _=>exact absurd (show false=true from fx) mD
 | _=>exact absurd (show false=true from e) mD
def vm(x:V)(u:Value):Bool:=match u with
 | .none=>ov .non x
 | .bool b=>ov (.bl b) x
 | .int i _=>ov QaQ x
 | .str z _ => ov (.str z) x
 | _=>false
theorem aav{x y:V}{u:Value}(r:Qcb)(f:yg y=true):vm x u=ov y x:=by
 cases y with
 | non=>cases r;rfl
 | bl b=>cases r;rfl
 | int i=>obtain⟨t,rfl⟩:=r;rfl
 | str z=>obtain⟨t,rfl⟩:=r;rfl
 | _=>exact absurd (f) mD
theorem Aa{x:V}:∀{xs:BY} {us:B1},Vals xs us->xs.all yg=true->us.any (vm x)=xs.any λy=>ov y x
 | _,_,.nil,_=>rfl
 | y::xs,u::us,.cons r t,f=>by
  rw[wt,lh]at f;rw[nZ,nZ,aav r f.1,Aa t f.2]
theorem u6{A:Qau}{s:Qb}{x:V}{v:Value}(b:RelV x v)(fx:yg x=true):∀{xs:BY} {us:B1},Vals xs us->xs.all yg=true->∀u∈us,SeqAt.EqAt A s u v (vm x u)
 | _,_,.nil,_=>λu a=>by cases a
 | y::xs,u::us,.cons r t,f=>λu' a=>by
  rw[wt,lh]at f;obtain rfl|a:=fV.1 a
  .rw[aav r f.1];exact akT r b f.1 fx
  .exact u6 b fx t f.2 u' a
def vi(x:V)(xs:BY):Bool:=xs.any λy=>ov y x
def OP(K:Frag)(neg:Bool):R2:=λx y H Q=>∃p xs,y=.ref p/\(nS K H p xs\/zY K H p xs)/\yg x=true/\xs.all yg=true/\Q (.bl (if neg then !vi x xs else vi x xs)) H
def wW:z7 X (compareOp .In) (OP X.K false):=by
 intro pins s σ H x y v u Q I b c h;obtain⟨p,xs,rfl,a,fx,fs,q⟩:=h;cases c;obtain a|a:=a
 .obtain⟨its,r,pl,hz⟩:=I.list a;refine SeqAt.in_listAt _ pl.isList QgQ ⟨.bl _,H,I,rfl,?_⟩;rw[show its.toArray.any _=its.any (vm x) by simp,Aa r fs];exact q
 .obtain⟨its,r,pl,hz⟩:=I.tuple a;refine SeqAt.in_tupleAt _ pl QgQ ⟨.bl _,H,I,rfl,?_⟩;rw[show its.toArray.any _=its.any (vm x) by simp,Aa r fs];exact q
def oF:z7 X (compareOp .NotIn) (OP X.K true):=by
 intro pins s σ H x y v u Q I b c h;obtain⟨p,xs,rfl,a,fx,fs,q⟩:=h;cases c;obtain a|a:=a
 .obtain⟨its,r,pl,hz⟩:=I.list a;refine SeqAt.notIn_listAt _ pl.isList QgQ ⟨.bl _,H,I,rfl,?_⟩;rw[show its.toArray.any _=its.any (vm x) by simp,Aa r fs];exact q
 .obtain⟨its,r,pl,hz⟩:=I.tuple a;refine SeqAt.notIn_tupleAt _ pl QgQ ⟨.bl _,H,I,rfl,?_⟩;rw[show its.toArray.any _=its.any (vm x) by simp,Aa r fs];exact q
theorem KC:rW X (.builtin "len") (λxs H Q=>∃p ys,xs=[.ref p]/\(nS X.K H p ys\/zY X.K H p ys)/\Q (.int ys.length) H):=by
 intro pins s σ H xs us Q I r h;obtain⟨p,ys,rfl,a,q⟩:=h;obtain⟨u,rfl,c⟩:=vals1 r;cases c;have d:=EF;obtain a|a:=a
 .obtain⟨its,b,pl,hz⟩:=I.list a;have hlen:=b.length;exact Calls.call_len_list pl.isList (by simp only[oD]<;>lia) ⟨.int _,H,I.tok _,⟨s.toks+1,by simp_all ⟩,q⟩
 .obtain⟨its,b,pl,hz⟩:=I.tuple a;have hlen:=b.length;exact len_tuple pl (by simp only[oD]<;>lia) ⟨.int _,H,I.tok _,⟨s.toks+1,by simp_all ⟩,q⟩
theorem Ab:rW X QeH (λxs H Q=>∃p ys,xs=[.ref p]/\(nS X.K H p ys\/zY X.K H p ys)/\∀l,H l=none->Q (.ref l) (upd H l (.lst ys))):=by
 intro pins s σ H xs us Q I r h;obtain⟨p,ys,rfl,c,q⟩:=h;obtain⟨u,rfl,i⟩:=vals1 r;cases i;have fin:∀(its:List _),Vals ys its->ys.length<=sizeLine->∀(h':Heap) (g:Nat),(∀b o',s.heap.get? b=some o'->h'.get? b=some o') →
   h'.get? _=some _->EP X pins σ Q _ _:=λits a hz h' g kp e=>
  ⟨.ref _,_,I.laid (t':=s.toks) kp (gZ _) (show g6 _ X.w _ h' _ (.lst ys) from⟨hz,its,g,a,e⟩),rfl,q _ Qhr⟩
 obtain c|c:=c
 .obtain⟨its,a,pl,hz⟩:=I.list c;have hlen:=a.length;obtain⟨o,d,f,n,hd⟩:=pl.isList;exact call_list_seq p Q4 d f hd (fin its a hz) WF
 .obtain⟨its,a,pl,hz⟩:=I.tuple c;have hlen:=a.length;obtain⟨o,d,f,n,hd⟩:=pl;exact call_list_seq p QaH d f hd (fin its a hz) WF
theorem yh:rW X (.type "tuple") (λxs H Q=>∃p ys,xs=[.ref p]/\((nS X.K H p ys/\∀l,H l=none->Q (.ref l) (upd H l (.tup ys)))\/(zY X.K H p ys/\Q Qdv H))):=by
 intro pins s σ H xs us Q I r h;obtain⟨p,ys,rfl,h⟩:=h;obtain⟨u,rfl,f⟩:=vals1 r;cases f;obtain⟨c,q⟩|⟨c,q⟩:=h
 .obtain⟨its,a,pl,hz⟩:=I.list c;have hlen:=a.length;refine call_tuple_list pl.isList (λh' kp=>?_) WF;have d:=I.kept (t':=s.toks) kp;have g:=
   d.laid (t':=s.toks) (λb o e=>kx _ e) (gZ _) (show g6 _ X.w _ _ _ (.tup ys) from⟨hz,its,a,IsTup.new _ _⟩)
  exact⟨.ref _,_,g,rfl,q _ (d.fQ.fresh (gZ _))⟩
 .obtain⟨its,a,pl,hz⟩:=I.tuple c;exact call_tuple_same pl ⟨.ref p,H,I,rfl,q⟩
def OF(K:Frag)(T:String)(x:V)(H:Hp):Prop:=match x with
 | .str _ => T = "str"
 | .int _=>T="int"
 | .ref p=>(T="list" /\ ∃xs,nS K H p xs)\/(T="tuple" /\ ∃o,K.lookup p=some o/\o.cls=.type "tuple" /\ o.dict=none) ∨
   (T="dict" /\ ((∃kvs,H p=some Qbi)\/∃kvs,H p=some Qd7))\/(T="set" /\ ∃S n,H p=some (.set S n))
 | _=>False
theorem akW{pins:BM}{σ:St}{H:Hp}{s:Qb}{T:String}{x:V}{v:Value}(I:QE)(r:RelV x v)(ty:OF X.K T x H) :
  s.TypeIs v T/\∀a,v=.ref a->∃d,s.heap.get? a=some d/\d.dict=none:=by
 cases x with
 | str z=>
  obtain⟨t,rfl⟩:=r;cases (ty);exact⟨typeIs_str s z t,λ_ e=>nomatch e⟩
 | int i=>
  obtain⟨t,rfl⟩:=r;cases (ty);exact⟨typeIs_int s i t,λ_ e=>nomatch e⟩
 | ref p=>
  cases r;obtain⟨rfl,xs,f⟩|⟨rfl,o,b,g,hd⟩|⟨rfl,b⟩|⟨rfl,S,n,b⟩:=ty
  .obtain⟨its,_,pl,_⟩:=I.list f;refine⟨pl.isList.typeIs,λa e=>?_⟩;obtain⟨o,n,e,c,hd,_⟩:=pl;simp_all
  .refine⟨⟨o,I.Nt p o b,g⟩,λa e=>?_⟩;cases e;exact⟨o,I.Nt _ o b,hd⟩
  .have z:∃o,s.heap.get? p=some o/\o.ExactDict:=by
    obtain⟨kvs,b⟩|⟨kvs,b⟩:=b
    .obtain⟨_,_,_,_,o,_,_,e,ex,_⟩:=I.fQ p _ b;simp_all
    .obtain⟨_,_,_,_,o,_,_,e,ex,_⟩:=I.fQ p _ b;simp_all
   obtain⟨o,e,ex⟩:=z;refine⟨⟨o,e,ex.1⟩,λa e2=>?_⟩;cases e2;exact⟨o,e,ex.2.1⟩
  .obtain⟨o,_,_,_,e,ex,_⟩:=I.fQ p _ b;refine⟨⟨o,e,ex.1⟩,λa e2=>?_⟩;cases e2;exact⟨o,e,ex.2.1⟩
 | _=>exact False.elim ty
noncomputable def tBM(K:Frag)(T:String)(r:Qhb)(to:TE)(t:TA):TE:=λσ H Q=>to σ H λx H1=>OF K T x H1/\t σ H1 λxs H2=>r x xs H2 Q
variable{o:Expr}{es:CU}{to:TE}{t:TA}{name:Str}{apos Ac:Pos}{T id:String}{r:Qhb}
def JB(pa:PlainAttrs T)(slot:Slot T name id)(b:typeOf QeO=pure (.type "method_descriptor"))(hm:MtR X id r)(m:PE X o to)(n:Qd0)
  (l:AS X o name:=by rfl)
  (g:((backTo Ac QcX).all QfT&&(backToKw Ac Qfa).all Qfu
   && decide ((e::es).length+([]:EO).length+Qfc<30))=true:=by rfl)
  (a:(apos.endLine==Ac.line)=true:=by rfl) (hs:Qaf:=by rfl) (p:AL X Ac es:=by rfl) :
  PE X (.Call (.Attribute o name apos) Qab [] Ac) (tBM X.K T r to t):=by
 intro pins s σ H Q I h;refine wpAny_Call_method_late l g a rfl (fY (m pins s σ H _ I h) λv s1 zz=>?_);obtain⟨x,H1,f,c,ty,k⟩:=zz;obtain⟨h1,h2⟩:=akW f c ty;refine⟨T,id,pa,slot,b,h1,h2,?_⟩;have d:=n Ac pins s1 σ H1 _ f k;rw[hs]at d ⊢;refine Calls.callWith_builtin (‹_›) (Calls.evalArgs_plain ?_);exact fY d λus s2 ⟨vs,H2,q,i,j⟩=>hm pins s2 σ H2 x vs v us Q q c i j
end
def y4(X:Cx)(id:String)(r:Qhb):Prop:=
 ∀(pins:BM) (s:Qb) (σ:St) (H:Hp) (x:V) (xs:BY) (v:Value) (us:B1) (Q:VK),Inv X pins σ H s->RelV x v->Vals xs us->r x xs H Q →
  wpAny Qu X.A (call QeO (v::us)) Qa5 X.xe s
variable{x:V}
theorem Vals.one{us:B1}(h:Vals [x] us):∃u,us=[u]/\RelV x u:=by
 cases h with
 | cons r h=>cases h;exact⟨_,rfl,r⟩
theorem Vals.eraseIdx:∀{xs:BY} {us:B1} (i:Nat),Vals xs us->Vals (xs.eraseIdx i) (us.eraseIdx i)
 | _,_,_,.nil=>.nil
 | _,_,0,.cons _ t=>t
 | _,_,i+1,.cons r t=>.cons r (Vals.eraseIdx i t)
theorem Vals.rep{xs:BY}{us:B1}(h:Qdn):∀k:Nat,Vals (List.replicate k xs).flatten (List.replicate k us).flatten
 | 0=>.nil
 | k+1=>Vals.append h (Vals.rep h k)
theorem BQ{α:Type}:∀(l:QR) (i:Nat),(l.eraseIdx i).length<=l.length
 | [],_=>gZ _
 | _::_,0=>mI _
 | _::r,i+1=>Nat.succ_le_succ (BQ r i)
theorem foldl_rep(its:B1):∀(k:Nat) (acc:B1),
  List.foldl (λb a=>b++a) acc.toArray (List.replicate k its.toArray)=(acc++(List.replicate k its).flatten).toArray
 | 0,acc=>by simp
 | k+1,acc=>by
  have e:acc.toArray++its.toArray=(acc++its).toArray:=by simp
  have e2:(acc++its)++(List.replicate k its).flatten=acc++(List.replicate Qaj its).flatten:=by
   rw[List.replicate_succ,List.flatten_cons,jc]
  rw[← e2,← foldl_rep its k _,← e,List.replicate_succ,k3]
variable{pins:BM}{σ:St}{H:Hp}{s:Qb}{l:Addr}{xs ys:BY}
theorem Inv.Fu{its its':B1}{f:CS->CS}{t':Nat}(I:QE)(c:H l=some Qa2)
  (e:s.heap.get? l=some {cls:=.type "list",data:=.seq its.toArray n}) (hf:f its.toArray=its'.toArray) (hv:Vals ys its') (hz:ys.length<=sizeLine) :
  Inv X pins σ (upd H l (.lst ys)) {s with heap:=s.heap.update l (Obj.mapSeq f),toks:=t'}:=by
 have q:=PySem.IsL.update e f;rw[hf]at q;refine I.write (c▸trivial) Q4 (λd u b a=>(Hc _ _ (mM b)).trans a) ⟨_,q⟩ ?_;exact⟨hz,its',_,hv,q⟩
theorem Inv.PH{its:B1}{t':Nat}(I:QE)(hv:Vals ys its)(hz:ys.length<=sizeLine) :
  Inv X pins σ (upd H s.heap.objs.size (.lst ys)) {s with heap:=s.heap.push {cls:=.type "list",data:=.seq its.toArray},toks:=t'}:=
 I.laid (λ_ _ q=>kx _ q) (gZ _) ⟨hz,its,0,hv,mv _ rfl⟩
theorem Inv.fresh(I:QE):H s.heap.objs.size=none:=I.fQ.fresh (gZ _)
theorem Inv.Fs(I:QE)(a:H l=some Qa2):xs.length<=sizeLine/\∃(its:B1) (n:Nat),Vals xs its/\xs.length=its.length/\s.heap.get? l=some {cls:=.type "list",data:=.seq its.toArray n}:=by
 obtain⟨z,its,n,r,e⟩:=I.fQ l _ a;exact⟨z,its,n,r,r.length,e⟩
theorem EK(h:n<=sizeLine):Builtin.List.listTooLong n=false:=ky We
def afI:V->BY->Hp->VK->Prop:=λx vs H Q=>∃l xs y,x=.ref l/\vs=[y]/\H l=some Qa2/\xs.length<sizeLine/\Q .non (upd H l (.lst (xs++[y])))
theorem BR:y4 X "list.append" afI:=by
 intro pins s σ H x vs v us Q I b c h;obtain⟨l,xs,y,rfl,rfl,a,hz,q⟩:=h;cases b;obtain⟨u,rfl,d⟩:=c.one;obtain⟨z,its,n,r,f,e⟩:=I.Fs a;refine tw F.slot_list_append ⟨_,e,rfl⟩ F.entry_list_append (F.args_list_append_2 _ _) (PySem.list_append l _ n u WF) ⟨e,?_⟩;refine⟨.non,_,I.Fu a e WA (r.append (.cons d .nil)) ?_,rfl,q⟩;grind
def akX:V->BY->Hp->VK->Prop:=λx vs H Q=>∃l xs i k y,x=.ref l/\vs=[.int i]/\H l=some Qa2 /\ -(2 ^ 63)<=i/\i<2 ^ 63/\seqIndex? i xs.length=some k/\xs[k]? = some y/\Q y (upd H l (.lst (xs.eraseIdx k)))
theorem aaz:y4 X "list.pop" akX:=by
 intro pins s σ H x vs v us Q I c d h;obtain⟨l,xs,i,k,y,rfl,rfl,b,h1,h2,m,g,q⟩:=h;cases c;obtain⟨u,rfl,f⟩:=d.one;obtain⟨t,rfl⟩:=f;obtain⟨z,its,n,r,j,e⟩:=I.Fs b;obtain⟨w,hw,a⟩:=r.get g;refine tw F.slot_list_pop ⟨_,e,rfl⟩ F.entry_list_pop (F.args_list_pop_2 _ _)
  (MeetsSeq.list_pop_at l _ n i t k w (fitsIndex_both h1 h2) WE WE WE) ⟨e,?_⟩
 refine⟨y,_,I.Fu b e ?_ (r.eraseIdx k) ?_,a,q⟩
 .simp_all
 .have:=BQ xs k;lia
def len_rep(xs:QR)(k:Nat):(List.replicate k xs).flatten.length=k*xs.length:=by simp
end L2
namespace Att
open PySem PySem.W PySem.Calls PyProof.Rows
def DH{P:Params}{h:Heap}:∀(ns:AT) (vs:B1),WellAll P h vs (ns.map WData.int)->IntsAre vs ns:=by
 intro ns
 induction ns with
 | nil=>
  intro vs w;cases w;exact .nil
 | cons n ns c=>
  intro vs w;cases w with
  | cons a b=>
   cases a;exact .cons _ _ (c _ b)
theorem Xi{l:OpenLaw}{n:Nat}(j:l.most=some n){P:Params}{h:Heap}{args:List WData}{vals:B1}
  (e:l.row.toRowW.claim.pre args=true) (o:WellAll P h vals args) :
  ∃a vs ns,vals=[Value.ref a]/\args=[WData.list (ns.map WData.int)]/\h.get? a=some {cls:=.type "list",data:=.seq vs.toArray}/\IntsAre vs ns/\ns.length<=n:=by
 have Ia:=(pre_splitW e).1;have k:=(pre_splitW e).2;obtain⟨d,r,rfl,h1,h2⟩:=hasAllW_cons Ia;obtain rfl:=hasAllW_nil h2;obtain⟨xs,rfl,m⟩:=hasW_list h1;obtain⟨ns,rfl⟩:=items_int m;have hlen:ns.length<=n:=by
  have b:=by
   have b:=(holds_andW k).1;rw[j]at b;exact b
  have p:=condW_of b (w_not (w_lt w_lit (w_len_list (w_arg rfl))));simp_all
 cases o with
 | cons g f=>
  cases f;cases g with
  | list i c=>exact⟨_,_,ns,rfl,rfl,i,DH ns _ c,hlen⟩
def Xk(l:OpenLaw)(args:List WData):l.row.toRowW.claim.post args QfF args=true:=
 postW_of
  (rfl)
  (w_eq_bool (w_res rfl) w_lit) rfl
def N3{l:OpenLaw}{n:Nat}{q:Qat}{loose:At}{k:Bi->Heap->Prop}{j:Qju}{d:DefRec}
  (t:l.most=some n) (g:QjI)
  (call:∀(w:World) (j1 b:Qb) (mg mb:Bi) (c:Addr) (o:Obj) (pm cd doc:Value) (a:Addr) (vs:B1) (ns:AT),
   Ground q loose [] k w j1 mg mb b.heap->j w b.heap →
   b.heap.get? c=some o->o.data=.func (docDef d.name d.params d.body d.scope pm cd doc)->b.heap.CodeRec cd d.name->mg d.name=some (.ref c) →
   b.heap.get? a=some {cls:=.type "list",data:=.seq vs.toArray}->IntsAre vs ns->ns.length<=n->b.gens=#[] →
   codeAny (model l.prog w) callerA (.call (.ref c) ⟨[.ref a],[]⟩) (λr s'=>r=.ok (.ret QfF)/\OldK b.heap s'.heap/\s'.os=b.os/\AllBare s'.gens) b) :
  WalkO q loose k j l.row.toRowW d [] QiF:=by
 intro w j1 b mg mb G Y c o pm cd doc z kV s hd kN hD e v args vals as B i m A u;obtain rfl:z=.none:=Dflts.none hD g;obtain rfl:kV=.none:=Dflts.noKw hD;obtain⟨a,vs,ns,rfl,rfl,h,hints,hlen⟩:=Xi t B A;refine enter_call (codeAny_mono (call w j1 b mg mb c o pm cd doc a vs ns G Y s (fd_plain hd) kN e h hints hlen v) λr s' p=>?_);obtain⟨rfl,h2,y,x⟩:=p;exact⟨.inl ⟨ _,_,[],rfl,λ_=>rfl,.bool true,Xk l _,λ_=>⟨List.Pairwise.nil,λ_ hm=>(nomatch hm)⟩⟩,h2,y,x⟩
noncomputable def ledger(h:Heap)(L d:Addr):BM:=(List.range h.objs.size).filterMap λa=>if a=L\/a=d then none else(h.get? a).map λo=>(a,o)
end Att
namespace L2
open PySem PySem.Spec PyProof.Rows
theorem JC:∀{vs:B1} {ns:AT},IntsAre vs ns->Vals QbZ vs
 | _,_,.nil=>.nil
 | _,_,.cons n t h=>.cons ⟨t,rfl⟩ (JC h)
noncomputable def inClass(s:Stmt)(j:Nat):Stmt:=match s with
 | .ClassDef _ _ _ body _ _ _ _ _ _ _=>body.getD j (.Pass ⟨0,0,0,0⟩)
 | _=>.Pass ⟨0,0,0,0⟩
noncomputable def oG(s:Stmt):Arguments:=match s with
 | .FunctionDef _ a _ _ _ _ _ _ _ _=>a
 | _=>{posonlyargs:=[],args:=[],vararg:=none,kwonlyargs:=[],kw_defaults:=[],kwarg:=none,defaults:=[]}
noncomputable def eL(s:Stmt):Co:=match s with
 | .FunctionDef _ _ b _ _ _ _ _ _ _=>b
 | _=>[]
noncomputable def ak(s:Stmt):Scope:=match s with
 | .FunctionDef _ _ _ _ _ _ sc _ _ _=>sc
 | _=>{kind:=.function,names:=[],isGenerator:=false,isCoroutine:=false}
noncomputable abbrev lR:ZE:=λ_ _ _ _ _ _=>False
abbrev E0:XK:=λ_ _ _=>False
variable{X:Cx}
noncomputable def u9:Passes lR X E0:=λ_ _ _ _ _ _ _ h=>h.elim
structure ZF(K:Frag)(x qual:Str)(st:Stmt)(f:Addr)(fd:QaG):Prop where
 ex:∃(oc:Value) (od:Do) (kV doc pm:Value) (an:Do) (gR ct:Value) (Q8:Cn),
  fd=fnOf x qual (oG st) Qbk QaJ .none kV doc pm an gR ct/\K.lookup f=some ⟨oc,od,.func fd,Q8⟩/\codeIn K gR qual=true
 kp:keepIn K Q3=true
variable{P:Qat}{w:World}{K:Frag}{mg:Bi}{base:Heap}
theorem ZF.ok{x qual:Str}{st:Stmt}{f:Addr}{fd:QaG}{N ps:At}{k:Nat}{sp:Sp}(F:QdG)(S:Qb2)(len:∀vs H Q E,sp vs H Q E->vs.length=ps.length)
  (c:∀(gR:Value) (A:Qau) (outer:D1) (s:Qb) (H:Hp) (vs:BY) (Q:VK) (E:XK),eG k (A.deeper QcQ)->sp vs H Q E →
   ∃t,QS (rY lR P w K mg base N qual QaJ f gR A outer s H E).Kv Qbk t/\t {nx:=λ_ H'=>Q .non H',rt:=Q} (start N vs) H):fj P w K mg base lR Qaj f fd ps sp:=by
 obtain⟨oc,od,kV,doc,pm,an,gR,ct,Q8,rfl,lk,kN⟩:=F.ex;refine SO lk kN S len λA outer s H vs Q E a b=>?_;obtain⟨t,h,q⟩:=c gR A _ s H vs Q E a b;exact⟨t,h.Kv,q⟩
theorem ZF.binds{x qual:Str}{st:Stmt}{f:Addr}{fd:QaG}{ps:At}(F:QdG)
  (h:∀(kV doc pm:Value) (an:Do) (gR ct:Value) (us:B1),us.length=ps.length->bindArgs Qgf ⟨us,[]⟩=pure Qe0):Binds K fd ps []:=by
 obtain⟨oc,od,kV,doc,pm,an,gR,ct,Q8,rfl,lk,kN⟩:=F.ex;exact .all (h kV doc pm an gR ct)
def aaB{x qual:Str}{st:Stmt}{f:Addr}{oc:Value}{od an:Do}{Q8:Cn}{kV doc pm gR ct:Value}(l:QkT)
  (c:QjO) (k:QhB):ZF K x qual st f Qgf:=⟨⟨oc,od,kV,doc,pm,an,gR,ct,Q8,rfl,l,c⟩,k⟩
def cV{n:Nat}(h:n<=1000):n<sizeLine:=ri h Wp
def Rb{A B:Prop}(h:B):if false=true then A else B:=‹_›
def N4{A B:Prop}(h:A):if true=true then A else B:=‹_›
def aB(H H':Hp):Prop:=∀b o,H b=some o->H' b=some o
theorem aB.refl(H:Hp):aB H H:=λ_ _ h=>h
variable{H:Hp}
theorem aB.trans{H1 H2:Hp}(a:aB H H1)(b:aB H1 H2):aB H H2:=λc o h=>b c o (a c o h)
variable{H':Hp}
theorem aB.free(e:aB H H'){l:Addr}(h:H' l=Option.none):H l=Option.none:=by
 cases q:H l with
 | none=>rfl
 | some o=>
  rw[e l o q]at h;cases h
variable{a:Addr}
theorem aB.seq{xs:BY}(e:aB H H')(h:nS K H a xs):nS K H' a xs:=by
 rcases h with(h|⟨o,h⟩)|h
 .exact .inl (.inl QdE)
 .exact .inl (.inr ⟨o,e _ _ h⟩)
 .exact .inr h
section
variable{κ:Type}[DecidableEq κ]
noncomputable def vd(kvs:Qbz)(k:κ):Option V:=(kvs.find? λa=>decide (a.1=k)).map (·.2)
noncomputable def putK(kvs:Qbz)(k:κ)(v:V):List (κ×V):=
 if QcS=true then kvs.map Qkm else kvs++[(k,v)]
def ve{p:κ×V}{r:Qbz}{k:κ}(e:p.1=k):vd (p::r) k=some p.2:=by simp[vd,rb,e]
def r6{p:κ×V}{r:Qbz}{k:κ}(e:¬ p.1=k):vd (p::r) k=vd r k:=by simp[vd,rb,e]
theorem N5(k:κ):∀kvs:List (κ×V),QcS=(vd kvs k).isSome
 | []=>rfl
 | p::r=>by
  rw[nZ];by_cases e:p.1=k
  .simp only[ve e,lx e,Bool.true_or,Option.isSome_some]
  .rw[r6 e,ky e,Bool.false_or];exact N5 k r
theorem C8(kvs:Qbz)(k:κ)(v:V):(putK kvs k v).length<=kvs.length+1:=by
 unfold putK;split
 .rw[d8];lia
 .rw[kr,lr,F1];lia
theorem yH.Xl{o:Qcv}{u:Option Value}(r:yH o u):o.isSome=u.isSome:=by
 cases o with
 | none=>cases u with
  | none=>rfl
  | some _=>exact(show False from r).elim
 | some _=>cases u with
  | none=>exact(show False from r).elim
  | some _=>rfl
theorem yH.getD{o:Qcv}{u:Option Value}{d:V}{d':Value}(r:yH o u)(rd:RelV d d'):RelV (o.getD d) (u.getD d'):=by
 cases o with
 | none=>cases u with
  | none=>exact rd
  | some _=>exact(show False from r).elim
 | some _=>cases u with
  | none=>exact(show False from r).elim
  | some _=>exact r
theorem KV.val{kvs:Qbz}{vs:QdL}(r:Qdu)(k:κ):yH (vd kvs k) (valueAt vs k):=by
 unfold KV at r
 induction r with
 | nil=>exact True.intro
 | @cons p q ps a h t d=>
  obtain⟨h1,h2⟩:=h;by_cases e:p.1=k
  .have c:q.1=k:=h1.symm.trans e;have b:valueAt (q::a) k=some q.2:=by simp[valueAt,rb,c]
   rw[ve e,b];exact h2
  .have c:¬ q.1=k:=λz=>e (h1.trans z);have b:valueAt (q::a) k=valueAt a k:=by simp[valueAt,rb,c]
   rw[r6 e,b];exact d
theorem KV.any{kvs:Qbz}{vs:QdL}(r:Qdu)(k:κ):QcS=vs.any λa=>decide (a.1=k):=by
 unfold KV at r
 induction r with
 | nil=>rfl
 | cons h t b=>rw[nZ,nZ,b,h.1]
theorem KV.m4{kvs:Qbz}{vs:QdL}(r:Qdu)(k:κ){y:V}{u:Value}(b:Qcb) :
  KV Qka (vs.map λa=>if a.1=k then(a.1,u) else a):=by
 unfold KV at r ⊢
 induction r with
 | nil=>exact .nil
 | @cons p q ps d h t c=>
  rw[js,js];refine .cons ?_ c;obtain⟨h1,h2⟩:=h;by_cases e:p.1=k
  .rw[di e,di (h1.symm.trans e)];exact⟨h1,b⟩
  .rw[cq e,cq (λz=>e (h1.trans z))];exact⟨h1,h2⟩
theorem KV.put{kvs:Qbz}{vs:QdL}(r:Qdu)(k:κ){y:V}{u:Value}(a:Qcb):KV (putK kvs k y) (stored vs k u):=by
 unfold putK stored;rw[r.any k];by_cases e:(vs.any λb=>decide (b.1=k))=true
 .rw[di e,di e];exact r.m4 k a
 .rw[cq e,cq e];exact Paired.snoc r ⟨rfl,a⟩
theorem KV.keys{kvs:Qbz}{vs:QdL}(r:Qdu):kvs.map (·.1)=vs.map (·.1):=by
 unfold KV at r
 induction r with
 | nil=>rfl
 | cons h t a=>rw[js,js,a,h.1]
theorem KV.length{kvs:Qbz}{vs:QdL}(r:Qdu):kvs.length=vs.length:=Paired.length r
end
variable{u:Value}
theorem NU{k:Key}(r:RelV (kV k) u):(gJ P w).is k u=true:=by
 cases k with
 | inl i=>obtain⟨t,e⟩:=(show ∃t,u=Value.int i t from r);subst e;exact NB P w i t
 | inr x=>obtain⟨t,e⟩:=(show ∃t,u=Value.str x t from r);subst e;exact NC P w x t
theorem JD{P:Qat}{w:World}:∀{ks:EM} {us:B1},Vals (ks.map kV) us->ItemsAre Qdp ks us
 | [],_,r=>by rw[List.map_nil]at r;cases r;exact .nil
 | k::ks,_,r=>by
  rw[js]at r;cases r with
  | cons h t=>exact .cons (NU h) (JD t)
abbrev KT(H:Hp):Bn->List Qfs->Prop:=Paired λp q=>p.1=q.1/\H q.2.1=some (.tup (p.1.map kV))/\RelV p.2 q.2.2
variable{kvs:Bn}{xs:List Qfs}
theorem KT.val(r:KT H kvs xs)(k:EM):yH (vd kvs k) ((atKey xs k).map (·.2)):=by
 induction r with
 | nil=>exact True.intro
 | @cons p q ps a h t d=>
  obtain⟨h1,_,h2⟩:=h;by_cases e:p.1=k
  .have c:q.1=k:=h1.symm.trans e;have b:atKey (q::a) k=some q.2:=by simp[atKey,rb,c]
   rw[ve e,b];exact h2
  .have c:¬ q.1=k:=λz=>e (h1.trans z);have b:atKey (q::a) k=atKey a k:=by simp[atKey,rb,c]
   rw[r6 e,b];exact d
variable{y:V}
theorem KT.m4(r:KT H kvs xs)(k:EM)(b:Qcb) :
  KT H Qka (xs.map (putAt k u)):=by
 induction r with
 | nil=>exact .nil
 | @cons p q ps f h t c=>
  rw[js,js];refine .cons ?_ c;obtain⟨h1,h2,d⟩:=h;unfold putAt;by_cases e:p.1=k
  .rw[di e,di (h1.symm.trans e)];exact⟨h1,h2,b⟩
  .rw[cq e,cq (λz=>e (h1.trans z))];exact⟨h1,h2,d⟩
theorem KT.put(r:KT H kvs xs)(k:EM){b:Addr}(d:H b=some (.tup (k.map kV)))(a:Qcb) :
  KT H (putK kvs k y) (storedH xs k b u):=by
 have e:(kvs.any λc=>decide (c.1=k))=(atKey xs k).isSome:=by
  rw[N5,(r.val k).Xl,Option.isSome_map]
 unfold putK storedH;rw[e];by_cases q:(atKey xs k).isSome=true
 .rw[di q,di q];exact r.m4 k a
 .rw[cq q,cq q];exact Paired.snoc r ⟨rfl,d,a⟩
theorem KT.keeps(r:KT H kvs xs)(a:∀b ys,H b=some (.tup ys)->H' b=some (.tup ys)):KT H' kvs xs:=
 Paired.Mo r λ_ _ z=>⟨z.1,a _ _ z.2.1,z.2.2⟩
variable{h:Heap}
def SI{u:HO}(ok:Qbl)(e:Rd H a u):g6 P w H h a u:=e.ok ok
def NS{kvs:Cc}(ok:Qbl)(e:Rd H a Qbi):kvs.length<=sizeLine/\Qct=false/\∃vs,KV kvs vs/\h.DictOf Qdp a vs:=
 show g6 P w H h a Qbi from SI ok e
def SH{kvs:Cc}(ok:Qbl)(e:H a=some Qbi):kvs.length<=sizeLine/\Qct=false/\∃vs,KV kvs vs/\h.DictOf Qdp a vs:=NS ok (.inl e)
def Rc{ks:EM}(ok:Qbl)(e:H a=some (.tup (ks.map kV))):(tupleKind Qdp).is h ks a:=by
 obtain⟨_,its,r,o,h1,h2,n,b⟩:=(show g6 P w H h a (.tup (ks.map kV)) from ok a _ e);exact⟨o,its.toArray,n,h1,h2,b,by simpa using JD r⟩
def NO(ok:Qbl)(e:Rd H a Qd7):kvs.length<=sizeLine/\Qct=false ∧
  ∃xs,KT H kvs xs/\h.DictOfH QjM a xs:=by
 obtain⟨z,y,xs,r,o,es,ep,h1,h2,i,g,f⟩:=(show g6 P w H h a Qd7 from SI ok e);refine⟨z,y,xs,r,o,es,ep,h1,h2,i,g,λx b=>?_,f⟩;have all:∀{l:Bn} {m:List Qfs},KT H l m->∀x∈m,(tupleKind Qdp).is h x.1 x.2.1:=by
  intro l m q
  induction q with
  | nil=>intro x b;exact nomatch b
  | @cons p q ps j c t d=>
   intro x b;obtain e|b:=fV.1 b
   .subst e;exact Rc ok (by rw[← c.1];exact c.2.1)
   .exact d x b
 exact all r x b
def apB(ok:Qbl)(e:H a=some Qd7):kvs.length<=sizeLine/\Qct=false ∧
  ∃xs,KT H kvs xs/\h.DictOfH QjM a xs:=NO ok (.inl e)
def FO(H:Hp)(a:Addr)(y:V)(r:Qcv):Prop:=
 (∃kvs k,Rd H a Qbi/\y=kV k/\r=vd kvs k)\/∃kvs k b,Rd H a Qd7/\y=.ref b/\H b=some (.tup (k.map kV))/\r=vd kvs k
def FK(H:Hp)(a:Addr)(y v:V)(H':Hp):Prop:=
 (∃kvs k,H a=some Qbi/\y=kV k/\kvs.length<sizeLine/\H'=upd H a (.dK (putK kvs k v))) ∨
 ∃kvs k b,H a=some Qd7/\y=.ref b/\H b=some (.tup (k.map kV))/\kvs.length<sizeLine/\H'=upd H a (.dT (putK kvs k v))
theorem FO.k{kvs:Cc}{k:Key}(e:H a=some Qbi):FO H a (kV k) (vd kvs k):=.inl ⟨kvs,k,.inl e,rfl,rfl⟩
theorem FK.k{kvs:Cc}{k:Key}{v:V}(e:H a=some Qbi)(b:kvs.length<sizeLine):FK H a (kV k) v (upd H a (.dK (putK kvs k v))):=.inl ⟨kvs,k,e,rfl,b,rfl⟩
variable{pins:BM}{σ:St}{s:Qb}{v:V}{r:Value}{A:Qau}{E:B0}
theorem Inv.big(I:QE):sysModules<s.heap.objs.size:=by
 have h:mainGlobals<s.heap.objs.size:=(I.mod.glob.keeps I.bk).lt;exact Nat.lt_trans Wp h
noncomputable def Vl{h':Heap}{t':Nat}{c:HO}(I:QE)(d:HE (H a))(hs:Heap.SameBut a s.heap h')(he:∃q,h'.get? a=some q)(new:g6 X.prog X.w (upd H a c) h' a c) :
  Inv X pins σ (upd H a c) {s with heap:=h',toks:=t'}:=
 I.write (x:=a) (e:=a) d Q4 (λb q f z=>(hs.2 b f).trans z) he new
def ak0{h':Heap}{kvs:Cc}{vs:List (Key×Value)}(z:kvs.length<=sizeLine)(hd:Qct=false)(rel:Qdu)(dd:h'.DictOf Qdp a vs) :
  g6 P w H' h' a Qbi:=⟨z,hd,vs,rel,dd⟩
theorem Xm{Q:Unit->Shared->Prop}(x:A.units+1<cLine)(I:QE)(g:FK H a y v H')(n:Qcb)(o:RelV v r)(h:∀s',Inv X pins σ H' s'->Q () s') :
  wpAny Qu A (setItem Qan u r) Q E s:=by
 obtain⟨kvs,k,e,j,l,m⟩|⟨kvs,k,b,e,j,t,l,m⟩:=g
 .subst j m;obtain⟨z,hd,vs,rel,dd⟩:=SH I.fQ e;have hz:vs.length<=sizeLine:=by rw[← rel.length];exact z
  have i:(putK kvs k v).length<=sizeLine:=by have:=C8 kvs k v;lia
  refine wpAny_setItem_pairs (hsz:=hz) (NU n) dd λh' d hs=>h _ ?_;have he:∃q,h'.get? a=some q:=let ⟨q,_,_,f,_⟩:=d;⟨q,f⟩;exact Vl I (by rw[e];exact True.intro) hs he (ak0 i hd (rel.put k o) d)
 .subst j m;cases (show u=Value.ref b from n);obtain⟨z,hd,xs,rel,dd⟩:=apB I.fQ e;have hz:xs.length<=sizeLine:=by rw[← Paired.length rel];exact z
  have i:(putK kvs k v).length<=sizeLine:=by have:=C8 kvs k v;lia
  refine wpAny_setItem_heap (hsz:=hz) (tupleKind_room_in1 x) (Rc I.fQ t) dd λh' d hs=>h _ ?_;obtain⟨q,es,ep,f,h2,D,C,_,B⟩:=d;refine Vl I (by rw[e];exact True.intro) hs ⟨q,f⟩ ⟨i,hd,_,(rel.put k t o).keeps λc ys p=>?_,q,es,ep,f,h2,D,C,B⟩;rw[au (aoZ p e (λz=>nomatch z))];exact p
noncomputable def apC(td ty tv:TE):TS:=λD σ H=>tv σ H λv H1=>td σ H1 λx H2=>ty σ H2 λy c=>∃a b,x=.ref a/\FK c a y v b/\D.nx σ b
variable{o i value:Expr}{pos pos':Pos}{td ty tv:TE}
def afJ(k:X.A.units+1<cLine)(l:PE X o td)(hi:PE X i ty)(hv:PE X value tv)(hs:swapsWith value (some (.Subscript o i pos')) pos.line X.env=pure false) :
  PS X (.Assign [.Subscript o i pos'] value pos) (apC td ty tv):=by
 intro pins s σ H D I h;refine wpAny_Assign_Subscript (fY (hv pins s σ H _ I h) λr s1 ⟨v,H1,q,d,j⟩=>fY (l pins s1 σ H1 _ q j) λu s2 ⟨x,H2,p,c,f⟩=>fY (hi pins s2 σ H2 _ p f) λw s3 zz=>?_) hs;obtain⟨y,z,n,b,a,t,ex,g,e⟩:=zz;subst ex;obtain rfl:u=Value.ref a:=c;exact Xm k n g b d λs4 m=>⟨σ,t,m,e⟩
noncomputable def aaH(h:Heap)(a:sysModules<h.objs.size):g6 P w H (h.push {cls:=.type "dict",data:=.dict #[]}) h.objs.size (.dK []):=
 ⟨kn _,yB.2 (mM (ll a)),[],.nil,Heap.DictOf.new h⟩
def ak1:TE:=λ_ H Q=>∀p,H p=none->Q Qdv Qhz
def aaI:PE X (.Dict [] [] pos) ak1:=λpins s σ H Q I h=>
 wpAny_Dict_empty ⟨.ref s.heap.objs.size,_,I.laid (a:=s.heap.objs.size) (o:=.dK []) (t':=s.toks) (λ_ _ q=>kx _ q) (gZ _) (aaH s.heap I.big),rfl,h _ Qhr⟩
structure M2(X:Cx)(o:Expr)(m:Str)(apos:Pos)(e f:Expr)(Ac:Pos):Prop where
 base:attributeBase o m X.env (eval o X.env)=eval o X.env
 few:((backTo Ac (starEach [e,f] X.env)).all QfT&&(backToKw Ac Qfa).all Qfu
  && decide (([e,f]:CU).length+([]:EO).length+Qfc<30))=true
 line:(apos.endLine==Ac.line)=true
 trees:backTo Ac (starEach [e,f] X.env)=[(false,eval e X.env),(false,eval f X.env)]
def IsD(H:Hp)(a:Addr):Prop:=(∃kvs,Rd H a Qbi)\/∃kvs,Rd H a Qd7
def ak2(I:QE)(d:IsD H a) :
  s.TypeIs Qan "dict" /\ (∀b,Value.ref a=.ref b->∃c,s.heap.get? b=some c/\c.dict=none)/\Qct=false:=by
 obtain⟨kvs,e⟩|⟨kvs,e⟩:=d
 .obtain⟨_,hd,vs,_,dd⟩:=NS I.fQ e;refine⟨dd.typeIs,λb q=>?_,hd⟩;cases q;obtain⟨c,_,_,h1,h2,_⟩:=dd;exact⟨c,h1,h2.2.1⟩
 .obtain⟨_,hd,xs,_,dd⟩:=NO I.fQ e;refine⟨dd.typeIs,λb q=>?_,hd⟩;cases q;obtain⟨c,_,_,h1,h2,_⟩:=dd;exact⟨c,h1,h2.2.1⟩
variable{d:V}{o:Qcv}
def ak3{Q:B0}(j:A.units+1<cLine)(I:QE)(g:FO H a y o)(i:Qcb)(rd:RelV d r)(h:∀f s',Inv X pins σ H s'->RelV (o.getD d) f->Q f s') :
  wpAny Qu A (call (.builtin "dict.get") [.ref a,u,r]) Q E s:=by
 obtain⟨kvs,k,e,c,l⟩|⟨kvs,k,b,e,c,m,l⟩:=g
 .subst c;obtain⟨z,hd,vs,rel,dd⟩:=NS I.fQ e;refine call_meetsIn PySem.F.slot_dict_get dd.typeIs PySem.F.entry_dict_get (PySem.F.args_dict_get_3 _ _ _) (meets_dict_get_default (gJ X.prog X.w) a (NU i) hd r) ⟨_,dd.mapOf,h _ _ (I.tok _) ?_⟩;rw[l];exact(rel.val k).getD rd
 .subst c;cases (show u=Value.ref b from i);obtain⟨z,hd,xs,rel,dd⟩:=NO I.fQ e;refine call_meetsIn PySem.F.slot_dict_get dd.typeIs PySem.F.entry_dict_get (PySem.F.args_dict_get_3 _ _ _) (meetsH_dict_get_default (tupleKind (gJ X.prog X.w)) a b hd r) ⟨tupleKind_room_in1 j,k,xs,Rc I.fQ m,dd,h _ _ (I.tok _) ?_⟩;rw[l];exact(rel.val k).getD rd
noncomputable def ak4(td ty tx:TE):TE:=λσ H Q=>td σ H λx H1=>∃a,x=.ref a/\IsD H1 a/\ty σ H1 λy H2=>tx σ H2 λz b=>∃o,FO b a y o/\Q (o.getD z) b
variable{o e f:Expr}{apos Ac:Pos}{tx:TE}
def aaJ(q:X.A.units+1<cLine)(r:PE X o td)(he:PE X e ty)(hf:PE X f tx)(m:M2 X o "get" apos e f Ac):PE X (.Call (.Attribute o "get" apos) [e,f] [] Ac) (ak4 td ty tx):=by
 intro pins s σ H Q I h;refine wpAny_Call_method m.base m.few m.line PySem.F.plainAttrs_dict PySem.F.slot_dict_get PySem.F.type_dict_get (fY (r pins s σ H _ I h) λu s1 zz=>?_);obtain⟨x,H1,c,k,a,ex,d,p⟩:=zz;subst ex;obtain rfl:u=Value.ref a:=k;obtain⟨t1,t2,_⟩:=ak2 c d;refine⟨t1,t2,?_⟩;rw[m.trees];refine Calls.callWith_builtin rfl (Calls.evalArgs_plain (Kj (fY (he pins s1 σ H1 _ c p) λE s2 ⟨y,H2,w,j,n⟩=>
  Kj (fY (hf pins s2 σ H2 _ w n) λG s3 ⟨z,B,v,i,D,g,l⟩=>Calls.spliced_nil ?_))))
 exact ak3 q v g j i λC s4 t b=>⟨_,B,t,b,l⟩
end L2
namespace L3
open PySem PySem.Spec PyProof.Rows L2
inductive D where
 | non|bl (b:Bool)|int (i:Int)|str (x:Str)
 | tup (ds:List D)|lst (ds:List D)|ins (c:Str) (fs:List (Str×D))|qw (kvs:List (Key×D))
 | dct (kvs:List (EM×D))
 | any
 | val (v:V)
 | DI (w:World) (ds es:List D)
abbrev _root_.BA:=List D
abbrev _root_.CI:=List (Key×D)
inductive T where
 | sh (d:D)|tup (ts:List T)|lst (ts:List T)|ins (c:Str) (fs:List (Str×T))|qw (kvs:CI)|dct (kvs:List (EM×T))
 | pin (x:Addr) (t:T)
 | DI (w:World) (ds es:BA)
abbrev _root_.BS:=List (Str×T)
abbrev _root_.B2:=List T
abbrev _root_.Cf:=List (EM×T)
abbrev _root_.D2:=List (EM×D)
abbrev _root_.Db:=List (Str×D)
mutual
def T.gT:T->D
 | .sh d=>d
 | .tup ts=>.tup (gU ts)
 | .lst ts=>.lst (gU ts)
 | .ins c fs=>.ins c (uS fs)
 | .qw kvs=>.qw kvs
 | .dct kvs=>.dct (MU kvs)
 | .pin _ t=>t.gT
 | .DI w ds es=>.DI w ds es
def T.gU:B2->BA
 | []=>[]
 | t::ts=>t.gT::T.gU ts
def T.uS:BS->Db
 | []=>[]
 | (x,t)::fs=>(x,t.gT)::T.uS fs
def T.MU:Cf->D2
 | []=>[]
 | (x,t)::fs=>(x,t.gT)::T.MU fs
end
mutual
def D.Ia(w:World):D->Int
 | .int i=>hashInt i
 | .str x => hashStr w x
 | .tup ds=>reduceHash (Builtin.Tuple.tupleHashOf (D.RU w ds))
 | _=>0
def D.RU(w:World):BA->AT
 | []=>[]
 | d::ds=>d.Ia w::D.RU w ds
end
def IxP(w:World)(a:Addr)(ds:BA)(vs us:BY)(h:Heap):Prop:=
 Qct=false/\∃(xs:List (D×Addr×Value)) (o:Obj) (es:Array DictEntry) (ep:Nat),h.get? a=some o/\o.ExactDict/\o.data=.dict es ep/\es.toList=xs.map (λx=>⟨x.1.Ia w,.ref x.2.1,x.2.2⟩)/\xs.map (·.1)=ds/\xs.map (λx=>V.ref x.2.1)=vs/\Vals us (xs.map λx=>x.2.2)
abbrev _root_.BC:=Str->Addr
variable(K:Frag)(CL:BC)
mutual
inductive bV(Z:Hp):D->V->Prop where
 | non:bV Z .non .non
 | bl (b:Bool):bV Z (.bl b) (.bl b)
 | int (i:Int):bV Z QaQ QaQ
 | str (x:Str):bV Z Qbc Qbc
 | any (v:V):bV Z .any v
 | val (v:V):bV Z (.val v) v
 | tup {a:Addr} {vs:BY} {ds:BA}:zY K Z a vs->ay Z ds vs->bV Z Qb6 Qan
 | lst {a:Addr} {vs:BY} {ds:BA}:nS K Z a vs->ay Z ds vs->bV Z Qdq Qan
 | ins {a dx:Addr} {c:Str} {gs:CA} {fs:Db}:Z a=some QeB->nh Z fs gs->bV Z Qbu Qan
 | qw {a:Addr} {gs:Cc} {fs:CI}:Z a=some (.dK gs)->cK Z fs gs->bV Z (.qw fs) Qan
 | dct {a:Addr} {gs:Bn} {fs:D2}:Rd Z a Qef->uM Z fs gs->bV Z (.dct fs) Qan
 | DI {a:Addr} {w:World} {vs us:BY} {ds es:BA}:Z a=some (.ext (IxP w a ds vs us))->ay Z ds vs->ay Z es us->bV Z (.DI w ds es) Qan
inductive ay(Z:Hp):BA->BY->Prop where
 | nil:ay Z [] []
 | cons {d:D} {v:V} {ds:BA} {vs:BY}:bV Z d v->ay Z ds vs->ay Z (d::ds) QaX
inductive nh(Z:Hp):Db->CA->Prop where
 | nil:nh Z [] []
 | cons {x:Str} {d:D} {v:V} {ds:Db} {vs:CA}:bV Z d v->nh Z ds vs->nh Z ((x,d)::ds) ((x,v)::vs)
inductive cK(Z:Hp):CI->Cc->Prop where
 | nil:cK Z [] []
 | cons {x:Key} {d:D} {v:V} {ds:CI} {vs:Cc}:bV Z d v->cK Z ds vs->cK Z ((x,d)::ds) ((x,v)::vs)
inductive uM(Z:Hp):D2->Bn->Prop where
 | nil:uM Z [] []
 | cons {x:EM} {d:D} {v:V} {ds:D2} {vs:Bn}:bV Z d v->uM Z ds vs->uM Z ((x,d)::ds) ((x,v)::vs)
end
mutual
inductive bL(H Z:Hp):T->V->BN->Prop where
 | sh {d:D} {v:V}:bV K CL Z d v->bL H Z (.sh d) v []
 | tup {a:Addr} {vs:BY} {ts:B2} {fp:BN}:Z a=some (.tup vs)->aU H Z ts vs fp->bL H Z (.tup ts) Qan fp
 | lst {a:Addr} {vs:BY} {ts:B2} {fp:BN}:H a=some (.lst vs)->aU H Z ts vs fp->bL H Z (.lst ts) Qan (a::fp)
 | ins {a dx:Addr} {c:Str} {gs:CA} {fs:BS} {fp:BN}:H a=some QeB->dz H Z fs gs fp->bL H Z Qbu Qan (a::fp)
 | qw {a:Addr} {gs:Cc} {kvs:CI}:H a=some (.dK gs)->cK K CL Z kvs gs->bL H Z (.qw kvs) Qan [a]
 | dct {a:Addr} {gs:Bn} {kvs:Cf} {fp:BN}:H a=some Qef->fX H Z kvs gs fp->bL H Z (.dct kvs) Qan (a::fp)
 | pin {x:Addr} {t:T} {fp:BN}:bL H Z t QcK fp->bL H Z (.pin x t) QcK fp
 | DI {a:Addr} {w:World} {vs us:BY} {ds es:BA}:H a=some (.ext (IxP w a ds vs us))->ay K CL Z ds vs->ay K CL Z es us->bL H Z (.DI w ds es) Qan [a]
inductive aU(H Z:Hp):B2->BY->BN->Prop where
 | nil:aU H Z [] [] []
 | cons {t:T} {v:V} {ts:B2} {vs:BY} {fp gp:BN}:bL H Z t v fp->aU H Z ts vs gp->aU H Z (t::ts) QaX (fp++gp)
inductive dz(H Z:Hp):BS->CA->BN->Prop where
 | nil:dz H Z [] [] []
 | cons {x:Str} {t:T} {v:V} {ts:BS} {vs:CA} {fp gp:BN}:bL H Z t v fp->dz H Z ts vs gp->dz H Z ((x,t)::ts) ((x,v)::vs) (fp++gp)
inductive fX(H Z:Hp):Cf->Bn->BN->Prop where
 | nil:fX H Z [] [] []
 | cons {x:EM} {t:T} {v:V} {ts:Cf} {vs:Bn} {fp gp:BN}:bL H Z t v fp->fX H Z ts vs gp->fX H Z ((x,t)::ts) ((x,v)::vs) (fp++gp)
end
abbrev _root_.ES:=Option T
abbrev _root_.BB:=List ES
inductive fZ(H Z:Hp):BB->L2.St->BN->Prop where
 | nil:fZ H Z [] [] []
 | skip {o:Qcv} {δ:BB} {σ:L2.St} {fp:BN}:fZ H Z δ σ fp->fZ H Z (none::δ) (o::σ) fp
 | cons {t:T} {v:V} {δ:BB} {σ:L2.St} {fp gp:BN}:bL K CL H Z t v fp->fZ H Z δ σ gp->fZ H Z (some t::δ) (some v::σ) (fp++gp)
variable{K:Frag}{CL:BC}{H H':Hp}{a:Addr}
theorem Rd.mono{u:HO}(e:aB H H')(h:Rd H a u):Rd H' a u:=h.imp (e _ _) λ⟨o,q⟩=>⟨o,e _ _ q⟩
variable{xs:BY}
theorem aB.pf(e:aB H H')(h:zY K H a xs):zY K H' a xs:=by
 rcases h with(h|⟨o,h⟩)|h
 .exact .inl (.inl QdE)
 .exact .inl (.inr ⟨o,e _ _ h⟩)
 .exact .inr h
variable{Z Z':Hp}{v:V}
theorem bV.mono(e:Qbm){d:D}(h:Qde):bV K CL Z' d v:=
 bV.rec
  .non .bl .int .str .any .val QgH QgN QgV Qg0 QgC QgI .nil QaZ .nil QaZ .nil QaZ .nil QaZ h
theorem ay.mono(e:Qbm){d:BA}{v:BY}(h:ay K CL Z d v):ay K CL Z' d v:=
 ay.rec
  .non .bl .int .str .any .val QgH QgN QgV Qg0 QgC QgI .nil QaZ .nil QaZ .nil QaZ .nil QaZ h
theorem nh.mono(e:Qbm){d:Db}{v:CA}(h:nh K CL Z d v):nh K CL Z' d v:=
 nh.rec
  .non .bl .int .str .any .val QgH QgN QgV Qg0 QgC QgI .nil QaZ .nil QaZ .nil QaZ .nil QaZ h
theorem cK.mono(e:Qbm){d:CI}{v:Cc}(h:cK K CL Z d v):cK K CL Z' d v:=
 cK.rec
  .non .bl .int .str .any .val QgH QgN QgV Qg0 QgC QgI .nil QaZ .nil QaZ .nil QaZ .nil QaZ h
variable{t:T}{fp:BN}
theorem bL.mono(e:Qbm)(k:∀a∈fp,H' a=H a)(h:QfB):bL K CL H' Z' t v fp:=
 bL.rec (motive_2:=λt v fp _=>(∀a∈fp,H' a=H a)->aU K CL H' Z' t v fp) (motive_3:=λt v fp _=>(∀a∈fp,H' a=H a)->dz K CL H' Z' t v fp) (motive_4:=λt v fp _=>(∀a∈fp,H' a=H a)->fX K CL H' Z' t v fp)
  (λh _=>.sh (h.mono e)) QgE Qgp Qgq Qgm Qgr Qg9 Qgi QaN Qbn QaN Qbn QaN Qbn h k
theorem aU.mono(e:Qbm){t:B2}{v:BY}(k:∀a∈fp,H' a=H a)(h:aU K CL H Z t v fp):aU K CL H' Z' t v fp:=
 aU.rec (motive_1:=λt v fp _=>(∀a∈fp,H' a=H a)->bL K CL H' Z' t v fp) (motive_3:=λt v fp _=>(∀a∈fp,H' a=H a)->dz K CL H' Z' t v fp) (motive_4:=λt v fp _=>(∀a∈fp,H' a=H a)->fX K CL H' Z' t v fp)
  (λh _=>.sh (h.mono e)) QgE Qgp Qgq Qgm Qgr Qg9 Qgi QaN Qbn QaN Qbn QaN Qbn h k
theorem dz.mono(e:Qbm){t:BS}{v:CA}(k:∀a∈fp,H' a=H a)(h:dz K CL H Z t v fp):dz K CL H' Z' t v fp:=
 dz.rec (motive_1:=λt v fp _=>(∀a∈fp,H' a=H a)->bL K CL H' Z' t v fp) (motive_2:=λt v fp _=>(∀a∈fp,H' a=H a)->aU K CL H' Z' t v fp) (motive_4:=λt v fp _=>(∀a∈fp,H' a=H a)->fX K CL H' Z' t v fp)
  (λh _=>.sh (h.mono e)) QgE Qgp Qgq Qgm Qgr Qg9 Qgi QaN Qbn QaN Qbn QaN Qbn h k
theorem fX.mono(e:Qbm){t:Cf}{v:Bn}(k:∀a∈fp,H' a=H a)(h:fX K CL H Z t v fp):fX K CL H' Z' t v fp:=
 fX.rec (motive_1:=λt v fp _=>(∀a∈fp,H' a=H a)->bL K CL H' Z' t v fp) (motive_2:=λt v fp _=>(∀a∈fp,H' a=H a)->aU K CL H' Z' t v fp) (motive_3:=λt v fp _=>(∀a∈fp,H' a=H a)->dz K CL H' Z' t v fp)
  (λh _=>.sh (h.mono e)) QgE Qgp Qgq Qgm Qgr Qg9 Qgi QaN Qbn QaN Qbn QaN Qbn h k
theorem bL.there(h:QfB):∀a∈fp,∃o,H a=some o:=
 bL.rec (motive_3:=λt v fp _=>∀a∈fp,∃o,H a=some o) (motive_4:=λt v fp _=>∀a∈fp,∃o,H a=some o)
  (λ_ a b=>absurd b kA) QhJ (λh _ r a b=>(fV.1 b).elim (λq=>⟨_,q▸h⟩) (r a)) (λh _ r a b=>(fV.1 b).elim (λq=>⟨_,q▸h⟩) (r a)) (λh _ a b=>(fV.1 b).elim (λq=>⟨_,q▸h⟩) QcY) (λh _ r a b=>(fV.1 b).elim (λq=>⟨_,q▸h⟩) (r a)) QhT (λh _ _ a b=>(fV.1 b).elim (λq=>⟨_,q▸h⟩) QcY) Qbq Qbo Qbq Qbo Qbq Qbo h
theorem aU.there{t:B2}{v:BY}(h:aU K CL H Z t v fp):∀a∈fp,∃o,H a=some o:=
 aU.rec (motive_1:=λt v fp _=>∀a∈fp,∃o,H a=some o) (motive_3:=λt v fp _=>∀a∈fp,∃o,H a=some o) (motive_4:=λt v fp _=>∀a∈fp,∃o,H a=some o)
  (λ_ a b=>absurd b kA) QhJ (λh _ r a b=>(fV.1 b).elim (λq=>⟨_,q▸h⟩) (r a)) (λh _ r a b=>(fV.1 b).elim (λq=>⟨_,q▸h⟩) (r a)) (λh _ a b=>(fV.1 b).elim (λq=>⟨_,q▸h⟩) QcY) (λh _ r a b=>(fV.1 b).elim (λq=>⟨_,q▸h⟩) (r a)) QhT (λh _ _ a b=>(fV.1 b).elim (λq=>⟨_,q▸h⟩) QcY) Qbq Qbo Qbq Qbo Qbq Qbo h
theorem dz.there{t:BS}{v:CA}(h:dz K CL H Z t v fp):∀a∈fp,∃o,H a=some o:=
 dz.rec (motive_1:=λt v fp _=>∀a∈fp,∃o,H a=some o) (motive_2:=λt v fp _=>∀a∈fp,∃o,H a=some o) (motive_3:=λt v fp _=>∀a∈fp,∃o,H a=some o) (motive_4:=λt v fp _=>∀a∈fp,∃o,H a=some o)
  (λ_ a b=>absurd b kA) QhJ (λh _ r a b=>(fV.1 b).elim (λq=>⟨_,q▸h⟩) (r a)) (λh _ r a b=>(fV.1 b).elim (λq=>⟨_,q▸h⟩) (r a)) (λh _ a b=>(fV.1 b).elim (λq=>⟨_,q▸h⟩) QcY) (λh _ r a b=>(fV.1 b).elim (λq=>⟨_,q▸h⟩) (r a)) QhT (λh _ _ a b=>(fV.1 b).elim (λq=>⟨_,q▸h⟩) QcY) Qbq Qbo Qbq Qbo Qbq Qbo h
theorem fX.there{t:Cf}{v:Bn}(h:fX K CL H Z t v fp):∀a∈fp,∃o,H a=some o:=
 fX.rec (motive_1:=λt v fp _=>∀a∈fp,∃o,H a=some o) (motive_2:=λt v fp _=>∀a∈fp,∃o,H a=some o) (motive_3:=λt v fp _=>∀a∈fp,∃o,H a=some o) (motive_4:=λt v fp _=>∀a∈fp,∃o,H a=some o)
  (λ_ a b=>absurd b kA) QhJ (λh _ r a b=>(fV.1 b).elim (λq=>⟨_,q▸h⟩) (r a)) (λh _ r a b=>(fV.1 b).elim (λq=>⟨_,q▸h⟩) (r a)) (λh _ a b=>(fV.1 b).elim (λq=>⟨_,q▸h⟩) QcY) (λh _ r a b=>(fV.1 b).elim (λq=>⟨_,q▸h⟩) (r a)) QhT (λh _ _ a b=>(fV.1 b).elim (λq=>⟨_,q▸h⟩) QcY) Qbq Qbo Qbq Qbo Qbq Qbo h
theorem bL.gT(e:Qbm)(k:∀a∈fp,Z' a=H a)(h:QfB):bV K CL Z' t.gT v:=
 bL.rec (motive_2:=λt v fp _=>(∀a∈fp,Z' a=H a)->ay K CL Z' _ v) (motive_3:=λt v fp _=>(∀a∈fp,Z' a=H a)->nh K CL Z' _ v) (motive_4:=λt v fp _=>(∀a∈fp,Z' a=H a)->uM K CL Z' _ v)
  (λh _=>by exact h.mono e) (λh _ r k=>by exact .tup (zY.of QdE) (r k)) (λh _ r k=>by exact .lst (nS.of ((k _ gj).trans h)) Qek) (λh _ r k=>by exact .ins ((k _ gj).trans h) Qek) (λh f k=>by exact .qw ((k _ gj).trans h) (cK.mono e f)) (λh _ r k=>by exact .dct (.inl ((k _ gj).trans h)) Qek) (λ_ r k=>by rw[T.gT];exact r k) (λh f g k=>by exact .DI ((k _ gj).trans h) (ay.mono e f) (ay.mono e g)) (λ_=>by exact .nil) (λ_ _ h r k=>by rw[T.gU];exact .cons QiW QiX) (λ_=>by rw[T.uS];exact .nil) (λ_ _ h r k=>by exact .cons QiW QiX) (λ_=>by exact .nil) (λ_ _ h r k=>by rw[T.MU];exact .cons QiW QiX) h k
variable{vs:BY}
theorem ay.ind{P:BA->BY->Prop}(n:P [] [])(c:∀{d:D} {v:V} {ds:BA} {vs:BY},bV K CL Z d v->ay K CL Z ds vs->P ds vs->P (d::ds) QaX){ds:BA}(h:QeG):P ds vs:=
 ay.rec (motive_1:=λ_ _ _=>True) (motive_3:=λ_ _ _=>True) (motive_4:=λ_ _ _=>True) (motive_5:=λ_ _ _=>True)
  trivial Qa4 Qa4 Qa4 Qa4 Qa4 Qae Qae Qae Qae Qae Qg4 n Qew trivial Qas trivial Qas trivial Qas h
theorem cK.ind{P:CI->Cc->Prop}(n:P [] [])(c:∀{x:Key} {d:D} {v:V} {ds:CI} {vs:Cc},bV K CL Z d v->cK K CL Z ds vs->P ds vs->P ((x,d)::ds) ((x,v)::vs)){ds:CI}{vs:Cc}(h:cK K CL Z ds vs):P ds vs:=
 cK.rec (motive_1:=λ_ _ _=>True) (motive_2:=λ_ _ _=>True) (motive_3:=λ_ _ _=>True) (motive_5:=λ_ _ _=>True)
  trivial Qa4 Qa4 Qa4 Qa4 Qa4 Qae Qae Qae Qae Qae Qg4 trivial Qas trivial Qas n Qew trivial Qas h
theorem uM.ind{P:D2->Bn->Prop}(n:P [] [])(c:∀{x:EM} {d:D} {v:V} {ds:D2} {vs:Bn},bV K CL Z d v->uM K CL Z ds vs->P ds vs->P ((x,d)::ds) ((x,v)::vs)){ds:D2}{vs:Bn}(h:uM K CL Z ds vs):P ds vs:=
 uM.rec (motive_1:=λ_ _ _=>True) (motive_2:=λ_ _ _=>True) (motive_3:=λ_ _ _=>True) (motive_4:=λ_ _ _=>True) (motive_5:=λd v _=>P d v)
  trivial Qa4 Qa4 Qa4 Qa4 Qa4 Qae Qae Qae Qae Qae Qg4 trivial Qas trivial Qas trivial Qas n Qew h
variable{ts:B2}
theorem aU.ind{P:B2->BY->BN->Prop}(n:P [] [] [])(c:∀{t:T} {v:V} {ts:B2} {vs:BY} {fp gp:BN},bL K CL H Z t v fp->aU K CL H Z ts vs gp->P ts vs gp->P (t::ts) QaX (fp++gp))(h:aU K CL H Z ts vs fp):P ts vs fp:=
 aU.rec (motive_1:=λ_ _ _ _=>True) (motive_3:=λ_ _ _ _=>True) (motive_4:=λ_ _ _ _=>True)
  (λ_=>trivial) Qae Qae Qae Qc0 Qae Qc0 Qae n Qew trivial Qas trivial Qas h
theorem dz.ind{P:BS->CA->BN->Prop}(n:P [] [] [])(c:∀{x:Str} {t:T} {v:V} {ts:BS} {vs:CA} {fp gp:BN},bL K CL H Z t v fp->dz K CL H Z ts vs gp->P ts vs gp->P ((x,t)::ts) ((x,v)::vs) (fp++gp)){ts:BS}{vs:CA}(h:dz K CL H Z ts vs fp):P ts vs fp:=
 dz.rec (motive_1:=λ_ _ _ _=>True) (motive_2:=λ_ _ _ _=>True) (motive_4:=λ_ _ _ _=>True)
  (λ_=>trivial) Qae Qae Qae Qc0 Qae Qc0 Qae trivial Qas n Qew trivial Qas h
theorem fX.ind{P:Cf->Bn->BN->Prop}(n:P [] [] [])(c:∀{x:EM} {t:T} {v:V} {ts:Cf} {vs:Bn} {fp gp:BN},bL K CL H Z t v fp->fX K CL H Z ts vs gp->P ts vs gp->P ((x,t)::ts) ((x,v)::vs) (fp++gp)){ts:Cf}{vs:Bn}(h:fX K CL H Z ts vs fp):P ts vs fp:=
 fX.rec (motive_1:=λ_ _ _ _=>True) (motive_2:=λ_ _ _ _=>True) (motive_3:=λ_ _ _ _=>True)
  (λ_=>trivial) Qae Qae Qae Qc0 Qae Qc0 Qae trivial Qas trivial Qas n Qew h
theorem ay.length{d:BA}{v:BY}(h:ay K CL Z d v):d.length=v.length:=
 ay.ind (P:=λd v=>d.length=v.length) rfl Qg1 h
theorem aU.length{d:B2}{v:BY}(h:aU K CL H Z d v fp):d.length=v.length:=
 aU.ind (P:=λd v _=>d.length=v.length) rfl Qg1 h
theorem fZ.length{d:BB}{v:L2.St}(h:fZ K CL H Z d v fp):d.length=v.length:=by
 induction h with
 | nil=>rfl
 | skip _ i=>exact congrArg (· + 1) i
 | cons _ _ i=>exact congrArg (· + 1) i
theorem ay.get{Z:Hp}:∀{ds:BA} {vs:BY} {i:Nat} {d:D},ay K CL Z ds vs->ds[i]? = some d->∃v,vs[i]? = some v/\bV K CL Z d v
 | _,_,_,_,.nil,e=>by simp at e
 | _,_,0,_,.cons r _,e=>by simp_all
 | _,_,i+1,d,.cons _ t,e=>by
  obtain⟨u,h1,h2⟩:=ay.get t (‹_›);exact⟨u,‹_›,h2⟩
theorem ay.Xn{Z:Hp}:∀{ds:BA} {vs:BY} {i:Nat} {v:V},ay K CL Z ds vs->vs[i]? = some v->∃d,ds[i]? = some d/\bV K CL Z d v
 | _,_,_,_,.nil,e=>by simp at e
 | _,_,0,_,.cons r _,e=>by simp_all
 | _,_,i+1,d,.cons _ t,e=>by
  obtain⟨u,h1,h2⟩:=ay.Xn t (‹_›);simp_all
theorem fZ.get:∀{δ:BB} {σ:L2.St} {fp:BN} {i:Nat} {t:T},fZ K CL H Z δ σ fp->δ[i]? = some Qar →
  ∃v f1 f2 c,σ[i]? = some Qay/\fp=f1++(f2++c)/\bL K CL H Z t v f2 ∧
   (∀{H' Z':Hp} {t':T} {v':V} {g:BN},aB Z Z'->(∀a∈f1++c,H' a=H a)->bL K CL H' Z' t' v' g->fZ K CL H' Z' (δ.set i (some t')) (σ.set i (some v')) (f1++(g++c))) ∧
   (∀{o:Qcv},fZ K CL H Z (δ.set i none) (σ.set i o) (f1++c)):=by
 intro δ σ fp i t h;have mono:∀{H H' Z Z':Hp} {δ:BB} {σ:L2.St} {fp:BN},aB Z Z'->(∀a∈fp,H' a=H a)->fZ K CL H Z δ σ fp->fZ K CL H' Z' δ σ fp:=by
  intro H H' Z Z' δ σ fp e k r
  induction r with
  | nil=>exact .nil
  | skip _ d=>exact .skip (d k)
  | cons r _ d=>exact .cons (r.mono e λa b=>k a (ka _ b)) (d λa b=>k a (i5 _ b))
 induction h generalizing i with
 | nil=>intro e;simp at e
 | @skip o δ σ fp r d=>
  cases i with
  | zero=>intro e;simp at e
  | succ i=>
   intro e;obtain⟨v,f1,f2,c,h1,h2,m,l,j⟩:=d (i:=i) (by simpa using e);exact⟨v,f1,f2,c,by simpa using h1,h2,m,λe k q=>.skip (l e k q),.skip j⟩
 | @cons t0 v0 δ σ fp gp f r d=>
  cases i with
  | zero=>
   intro e;simp at e;subst e;refine⟨v0,[],fp,gp,rfl,rfl,f,λ{H' Z' t' v' g} e k q=>fZ.cons (fp:=g) (gp:=gp) q (mono (fp:=gp) e (λa b=>k a (by simpa using b)) r),.skip (by simpa using r)⟩
  | succ i=>
   intro e;obtain⟨v,f1,f2,c,h1,h2,m,l,j⟩:=d (i:=i) (by simpa using e);refine⟨v,fp++f1,f2,c,by simpa using h1,by rw[h2,List.append_assoc],m,λ{H' Z' t' v' g} e k q=>?_,λ{o}=>?_⟩
   .rw[jc];exact .cons (f.mono e λa b=>k a (by simp[b])) (l e (λa b=>k a (by rw[jc];exact i5 _ b)) q)
   .rw[jc];exact .cons f j
variable{δ:BB}{σ:L2.St}
theorem fZ.mono(e:Qbm)(k:∀a∈fp,H' a=H a)(r:QjJ):fZ K CL H' Z' δ σ fp:=by
 induction r with
 | nil=>exact .nil
 | skip _ b=>exact .skip (b k)
 | cons r _ b=>exact .cons (r.mono e λa c=>k a (ka _ c)) (b λa c=>k a (i5 _ c))
theorem fZ.there(r:QjJ):∀a∈fp,∃o,H a=some o:=by
 induction r with
 | nil=>intro a c;cases c
 | skip _ b=>exact b
 | cons r _ b=>exactλa c=>(gY.1 c).elim (r.there a) (b a)
theorem fZ.put(r:QjJ){g:BN}(q:bL K CL H Z t v g) :
  ∀{i:Nat},i<δ.length->∃f,fZ K CL H Z (δ.set i Qar) (σ.set i Qay) f/\∃a,a.Sublist fp/\f.Perm (g++a):=by
 induction r with
 | nil=>intro i hi;simp at hi
 | @skip o δ σ fp r b=>
  intro i hi;cases i with
  | zero=>exact⟨ _,.cons q r,fp,n7 _,List.Perm.refl _⟩
  | succ i=>
   obtain⟨f,h1,a,h2,c⟩:=b (by simpa using hi);exact⟨f,.skip h1,a,h2,c⟩
 | @cons t0 v0 δ σ fp gp d r b=>
  intro i hi;cases i with
  | zero=>exact⟨ _,.cons q r,gp,uu _ _,List.Perm.refl _⟩
  | succ i=>
   obtain⟨f,h1,a,h2,c⟩:=b (by simpa using hi);refine⟨ _,.cons d h1,_,pE (n7 _) h2,?_⟩;refine(ub fp c).trans ?_;rw[← jc,← jc];exact List.Perm.append_right a nt
theorem bV.gV{ds:BA}(h:bV K CL Z Qdq v):∃a vs,v=.ref a/\nS K Z a vs/\ay K CL Z ds vs:=by cases h with|lst p q=>exact⟨_,_,rfl,p,q⟩
theorem bV.Rf{ds:BA}(h:bV K CL Z Qb6 v):∃a vs,v=.ref a/\zY K Z a vs/\ay K CL Z ds vs:=by cases h with|tup p q=>exact⟨_,_,rfl,p,q⟩
variable{c:Str}
theorem bV.HK{fs:Db}(h:bV K CL Z Qbu v):∃a dx gs,v=.ref a/\Z a=some QeB/\nh K CL Z fs gs:=by cases h with|ins p q=>exact⟨_,_,_,rfl,p,q⟩
theorem bL.KD{d:D}(h:bL K CL H Z (.sh d) v fp):fp=[]/\bV K CL Z d v:=by cases h with|sh r=>exact⟨rfl,r⟩
theorem bL.gV(h:bL K CL H Z (.lst ts) v fp):∃a vs g,v=.ref a/\fp=a::g/\H a=some (.lst vs)/\aU K CL H Z ts vs g:=by cases h with|lst p q=>exact⟨_,_,_,rfl,rfl,p,q⟩
theorem bL.Rf(h:bL K CL H Z (.tup ts) v fp):∃a vs,v=.ref a/\Z a=some (.tup vs)/\aU K CL H Z ts vs fp:=by cases h with|tup p q=>exact⟨_,_,rfl,p,q⟩
theorem bL.HK{fs:BS}(h:bL K CL H Z Qbu v fp):∃a dx gs g,v=.ref a/\fp=a::g/\H a=some QeB/\dz K CL H Z fs gs g:=by cases h with|ins p q=>exact⟨_,_,_,_,rfl,rfl,p,q⟩
theorem bL.Rg{y:Addr}(h:bL K CL H Z (.pin y t) v fp):v=.ref y/\bL K CL H Z t Qdw fp:=by cases h with|pin r=>exact⟨rfl,r⟩
noncomputable def HL(X:Cx)(e:Expr):TE:=λσ H Q=>∀(pins:BM) (s:Qb),Inv X pins σ H s->wpAny Qu X.A QeK Qa5 X.xe s
noncomputable def FF(X:Cx)(e:Expr):TT:=λσ H Q=>∀(pins:BM) (s:Qb),Inv X pins σ H s->wpAny Qu X.A (isTrue e X.env QeK) QeE X.xe s
noncomputable def Rh(X:Cx)(es:CU):TA:=λσ H Q=>∀(pos:Pos) (pins:BM) (s:Qb),Inv X pins σ H s->wpAny Qu X.A QkG (AP X pins σ Q) X.xe s
noncomputable def MO(X:Cx)(st:Stmt):TS:=λD σ H=>∀(pins:BM) (s:Qb),Inv X pins σ H s->wpAny Qu X.A (exec st X.env) (SP X pins D) X.xe s
noncomputable def MM(X:Cx)(st:Co):TS:=λD σ H=>∀(pins:BM) (s:Qb),Inv X pins σ H s->wpAny Qu X.A (execs st X.env) (SP X pins D) X.xe s
variable{X:Cx}{e:Expr}
noncomputable def dQ:PE X e (HL X e):=λpins s _ _ _ I h=>h pins s I
noncomputable def og:PT X e (FF X e):=λpins s _ _ _ I h=>h pins s I
noncomputable def HM{e:CU}:PA X e (Rh X e):=λpos pins s _ _ _ I h=>h pos pins s I
noncomputable def psS{e:Stmt}:PS X e (MO X e):=λpins s _ _ _ I h=>h pins s I
noncomputable def ZG{e:Co}:QS X e (MM X e):=λpins s _ _ _ I h=>h pins s I
noncomputable def cI{t:TE}(h:PE X e t){Q:VK}(q:t σ H Q):HL X e σ H Q:=λpins s I=>h pins s σ H Q I q
variable{Q:Dx}
noncomputable def HN{t:TT}(h:PT X e t)(q:t σ H Q):FF X e σ H Q:=λpins s I=>h pins s σ H Q I q
noncomputable def HP{e:CU}{t:TA}(h:PA X e t){Q:EN}(q:t σ H Q):Rh X e σ H Q:=λpos pins s I=>h pos pins s σ H Q I q
noncomputable def r9{e:Stmt}{t:TS}(h:PS X e t){D:Ends}(q:t D σ H):MO X e D σ H:=λpins s I=>h pins s σ H D I q
noncomputable def RS{e:Co}{t:TS}(h:QS X e t){D:Ends}(q:t D σ H):MM X e D σ H:=λpins s I=>h pins s σ H D I q
noncomputable def notStar:Expr->Bool
 | .Starred _ _=>false
 | _=>true
variable{es:CU}{env:Env}
def bq(h:notStar e=true):starEach Qab env=(false,eval e env)::starEach es env:=by
 cases e<;>first|rfl|(cases h)
structure Bx where
 B:Hp
 Z:Hp
def kQ:HO->Bool
 | .tup _=>true
 | .gT _ _=>true
 | _=>false
noncomputable def JF(x:Str):Bool:=x.cps[0]? == some 35
noncomputable def KG(x:Str):Str:=⟨x.cps.extract 1 x.cps.size⟩
def qV(CL:BC)(Z:Hp):Prop:=∀x,JF x=true->CL x≠0->Z (CL x)=some (.tabs (KG x))
structure bH(K:Frag)(CL:BC)(b:Bx)(H Z:Hp)(δ:BB)(σ:L2.St)(ts:B2)(vs:BY):Prop where
 rep:∃fp gp,fZ K CL H Z δ σ fp/\aU K CL H Z ts vs gp/\(fp++gp).Nodup/\∀a∈fp++gp,Z a=none/\b.B a=none
 bh:aB b.B H
 zz:aB b.Z Z
 zh:aB Z H
 new:∀a o,Z a=some o->b.Z a=none->b.B a=none
 tp:∀a o,H a=some o->kQ o=true->Z a=some o
 tab:qV CL b.Z
variable{b:Bx}
theorem qV.mono{A B:Hp}(h:qV CL A)(e:aB A B):qV CL B:=λx a h0=>e _ _ (h x a h0)
theorem bH.Ri(S:Qap):qV CL Z:=S.tab.mono S.zz
theorem bH.N6(S:Qap):qV CL H:=S.Ri.mono S.zh
def Rj{A B:Hp}(e:aB A B)(h:B a=none):A a=none:=e.free h
variable{p:Addr}{o:HO}
theorem aB.upd(h:H p=none):aB H (upd H p o):=λb u e=>au (aO e h)▸e
theorem bH.view(S:Qci):bV K CL H t.gT v:=by
 obtain⟨fp,gp,_,r,_,_⟩:=S.rep;cases r with
 | cons r _=>exact r.gT S.zh λ_ _=>rfl
theorem bH.pop(S:Qci):bH K CL b H Z δ σ ts vs:=by
 obtain⟨fp,gp,e,r,nd,k⟩:=S.rep;cases r with
 | @cons _ _ _ _ f1 f2 f c=>
  refine⟨⟨fp,f2,e,c,nd.sublist Qjv,λa d=>k a ?_⟩,S.bh,S.zz,S.zh,S.new,S.tp,S.tab⟩;obtain h|h:=gY.1 d
  .exact ka _ h
  simp_all
theorem bH.push{d:D}(S:Qap)(r:Qde):bH K CL b H Z δ σ (.sh d::ts) QaX:=by
 obtain⟨fp,gp,e,a,nd,k⟩:=S.rep;exact⟨⟨fp,_,e,.cons (.sh r) a,nd,k⟩,S.bh,S.zz,S.zh,S.new,S.tp,S.tab⟩
theorem bH.KH(S:Qci):∃Z',aB Z Z'/\bH K CL b H Z' δ σ (.sh t.gT::ts) QaX:=by
 classical
 obtain⟨fp,gp,e,r,nd,k⟩:=S.rep;cases r with
 | @cons _ _ _ _ f1 f2 m l=>
  have j:=λa c=>k a (i5 _ (ka _ c));have sz:aB Z _:=λa o q=>by
   by_cases c:a∈f1
   .rw[(j a c).1]at q;cases q
   .show(if a∈f1 then H a else Z a)=some o;rw[cq c];exact q
  have f:=lj.1 nd;have n:∀a∈fp++f2,a∉f1:=λa c h1=>by
   obtain h|h:=gY.1 c
   .exact f.2.2 a h a (ka _ h1) rfl
   .exact(lj.1 f.2.1).2.2 a h1 a h rfl
  refine⟨ _,sz,⟨⟨fp,[]++f2,e.mono sz Qda,.cons (.sh (m.gT sz λa c=>di c)) (l.mono sz λ_ _=>rfl),?_,λa c=>?_⟩,S.bh,S.zz.trans sz,λa o q=>?_,λa o q z=>?_,λa o q i=>?_,S.tab⟩⟩
  .exact nd.sublist Qjv
  .have g:a∈fp++f2:=c;refine⟨?_,(k a ?_).2⟩
   .rw[cq (n a g)];refine(k a ?_).1;obtain h|h:=gY.1 g
    .exact ka _ h
    .exact i5 _ (i5 _ h)
   simp_all
  .have d:=q;by_cases c:a∈f1
   .rw[di c]at d;exact d
   .rw[cq c]at d;exact S.zh a o d
  .have d:=q;by_cases c:a∈f1
   .exact(j a c).2
   .rw[cq c]at d;exact S.new a o d z
  .exact sz a o (S.tp a o q i)
variable{i:Nat}
theorem bH.afK(S:Qap)(hi:δ[i]? = some Qar):∃v Z',σ[i]? = some Qay/\aB Z Z'/\bH K CL b H Z' (δ.set i (some (.sh t.gT))) σ (.sh t.gT::ts) QaX:=by
 classical
 obtain⟨fp,gp,e,r,nd,k⟩:=S.rep;obtain⟨v,f1,f2,d,hv,s,rt,put,_⟩:=e.get hi;subst s;have p:∀a∈f2,Z a=none/\b.B a=none:=λa c=>k a (by simp[c]);have sz:aB Z Qib:=λa o q=>by
  by_cases c:a∈f2
  .rw[(p a c).1]at q;cases q
  .show QgA=some o;rw[cq c];exact q
 have w:∀a∈(f1++d)++gp,a∉f2:=λa c h2=>by
  have u:(QeS++gp).Perm (f2++((f1++d)++gp)):=by
   rw[← jc,← jc];refine(List.perm_append_right_iff gp).2 ?_;rw[← jc];exact(List.perm_append_right_iff d).2 nt
  exact(lj.1 (u.nodup_iff.1 nd)).2.2 a h2 a c rfl
 have n:bV K CL Qib t.gT v:=rt.gT sz λa c=>di c;have m:σ.set i Qay=σ:=by
  apply we;intro j;rw[List.getElem?_set];split
  .rename_i h;subst h;split
   .exact hv.symm
   .rename_i h2;rw[v3 We]
  .rfl
 have e2:fZ K CL H Qib (δ.set i (some (.sh t.gT))) σ (f1++([]++d)):=by
  have:=put (H':=H) (t':=.sh t.gT) (v':=v) (g:=[]) sz Qda (.sh n)
  rwa [m]at this
 refine⟨v,λa=>if a∈f2 then H a else Z a,hv,sz,⟨⟨f1++([]++d),[]++gp,e2,.cons (.sh n) (r.mono sz λ_ _=>rfl),?_,λa c=>?_⟩,S.bh,S.zz.trans sz,λa o q=>?_,λa o q z=>?_,λa o q i=>sz a o (S.tp a o q i),S.tab⟩⟩
 .exact nd.sublist (pE Qjv (n7 _))
 .have l:a∈(f1++d)++gp:=c;have hm:a∈QeS++gp:=by
   simp only[gY]at l ⊢;rcases l with(h|h)|h
   .exact .inl (.inl h)
   .exact .inl (.inr (.inr h))
   .exact .inr h
  refine⟨?_,(k a hm).2⟩;show QgA=none;rw[cq (w a l)];exact(k a hm).1
 .have f:QgA=some o:=q;by_cases c:a∈f2
  .rw[di c]at f;exact f
  .rw[cq c]at f;exact S.zh a o f
 .have f:QgA=some o:=q;by_cases c:a∈f2
  .exact(p a c).2
  .rw[cq c]at f;exact S.new a o f z
theorem bH.move(S:Qap)(hi:δ[i]? = some Qar):∃v,σ[i]? = some Qay/\bH K CL b H Z (δ.set i none) σ (t::ts) QaX:=by
 obtain⟨fp,gp,e,r,nd,k⟩:=S.rep;obtain⟨v,f1,f2,c,hv,g,rt,_,del⟩:=e.get hi;subst g;have d:σ.set i Qay=σ:=by
  apply we;intro j;rw[List.getElem?_set];split
  .rename_i h;subst h;split
   .exact hv.symm
   simp_all
  .rfl
 have f:((f1++(f2++c))++gp).Perm ((f1++c)++(f2++gp)):=by
  have h1:(f2++c).Perm _:=nt;have h2:=(ub f1 h1).append_right gp;simp_all
 refine⟨v,hv,⟨⟨ _,_,?_,.cons rt r,f.nodup_iff.1 nd,λa l=>k a (f.mem_iff.2 l)⟩,S.bh,S.zz,S.zh,S.new,S.tp,S.tab⟩⟩;have:=del (o:=some v)
 rwa [d]at this
theorem bH.look(S:Qap)(hi:δ[i]? = some Qar):∃v,σ[i]? = some Qay/\bV K CL H t.gT v:=by
 obtain⟨fp,gp,e,r,nd,k⟩:=S.rep;obtain⟨v,f1,f2,c,hv,a,rt,_,_⟩:=e.get hi;exact⟨v,hv,rt.gT S.zh λ_ _=>rfl⟩
theorem bH.Vm{d:D}(S:Qap)(hi:δ[i]? = some Qb0):∃v,σ[i]? = some Qay/\bV K CL Z d v:=by
 obtain⟨fp,gp,e,r,nd,k⟩:=S.rep;obtain⟨v,f1,f2,c,hv,a,rt,_,_⟩:=e.get hi;obtain⟨rfl,h⟩:=rt.KD;exact⟨v,hv,h⟩
theorem bH.set(S:Qci)(hi:i<δ.length):bH K CL b H Z (δ.set i Qar) (σ.set i Qay) ts vs:=by
 obtain⟨fp,gp,e,r,nd,k⟩:=S.rep;cases r with
 | @cons _ _ _ _ f1 f2 j h=>
  obtain⟨f,h1,g,h2,m⟩:=e.put j hi;have d:(f++f2).Perm (g++(f1++f2)):=by
   refine(m.append_right f2).trans ?_;rw[← jc];exact nt.append_right f2
  have c:(g++(f1++f2)).Sublist _:=pE h2 (n7 _);exact⟨⟨f,f2,h1,h,d.nodup_iff.2 (nd.sublist c),λa l=>k a (c.subset (d.mem_iff.1 l))⟩,S.bh,S.zz,S.zh,S.new,S.tp,S.tab⟩
mutual
def D.tG:D->Bool
 | .tup ds=>D.bR ds
 | .lst _=>false
 | .ins _ _=>false
 | .qw _=>false
 | .dct _=>false
 | .any=>false
 | .DI _ _ _=>false
 | _=>true
def D.bR:BA->Bool
 | []=>true
 | d::ds=>d.tG&&D.bR ds
end
mutual
def T.clean:T->Bool
 | .sh d=>d.tG
 | .tup ts=>T.dH ts
 | .lst ts=>T.dH ts
 | .ins _ fs=>T.f6 fs
 | .qw kvs=>D.bR (kvs.map (·.2))
 | .dct kvs=>T.KJ kvs
 | .pin _ t=>t.clean
 | .DI _ _ _=>false
def T.dH:B2->Bool
 | []=>true
 | t::ts=>t.clean&&T.dH ts
def T.f6:BS->Bool
 | []=>true
 | (_,t)::ts=>t.clean&&T.f6 ts
def T.KJ:Cf->Bool
 | []=>true
 | (_,t)::ts=>t.clean&&T.KJ ts
end
def cL(X:Cx)(CL:BC)(b:Bx)(e:Expr)(δ:BB)(t:T)(δ':BB):Prop:=
 ∀(H Z:Hp) (σ:L2.St) (ts:B2) (vs:BY) (Q:VK),bH X.K CL b H Z δ σ ts vs->(∀v H' Z',aB Z Z'->aB H H'->bH X.K CL b H' Z' δ' σ (t::ts) QaX->Q v H')->HL X e σ H Q
def dR(X:Cx)(CL:BC)(b:Bx)(e:Expr)(δ:BB)(d:D)(δ':BB):Prop:=
 ∀(H Z:Hp) (σ:L2.St) (ts:B2) (vs:BY) (Q:VK),bH X.K CL b H Z δ σ ts vs->(∀v H' Z',aB Z Z'->aB H H'->bH X.K CL b H' Z' δ' σ ts vs->bV X.K CL H' d v->Q v H')->HL X e σ H Q
def wX(X:Cx)(CL:BC)(b:Bx)(e:Expr)(δ:BB)(p:Bool)(δ':BB):Prop:=
 ∀(H Z:Hp) (σ:L2.St) (ts:B2) (vs:BY) (Q:Dx),bH X.K CL b H Z δ σ ts vs->(∀H' Z',aB Z Z'->aB H H'->bH X.K CL b H' Z' δ' σ ts vs->Q p H')->FF X e σ H Q
def KL(X:Cx)(CL:BC)(b:Bx)(es:CU)(δ:BB)(tl:B2)(δ':BB):Prop:=
 ∀(H Z:Hp) (σ:L2.St) (ts:B2) (vs:BY) (Q:EN),bH X.K CL b H Z δ σ ts vs →
  (∀us H' Z',us.length=tl.length->aB Z Z'->aB H H'->bH X.K CL b H' Z' δ' σ (tl.reverse++ts) QdJ->Q us H')->Rh X es σ H Q
def Xo(X:Cx)(CL:BC)(b:Bx)(es:CU)(δ:BB)(ds:BA)(δ':BB):Prop:=
 ∀(H Z:Hp) (σ:L2.St) (ts:B2) (vs:BY) (Q:EN),bH X.K CL b H Z δ σ ts vs →
  (∀us H' Z',aB Z Z'->aB H H'->bH X.K CL b H' Z' δ' σ ts vs->ay X.K CL H' ds us->Q us H')->Rh X es σ H Q
structure gA where
 nx:BB->Prop
 rt:T->BB->Prop
 bk:BB->Prop:=λ_=>False
 ct:BB->Prop:=λ_=>False
structure Meets(K:Frag)(CL:BC)(b:Bx)(Z:Hp)(ts:B2)(vs:BY)(D:gA)(E:Ends):Prop where
 nx:∀δ' σ' H' Z',aB Z Z'->bH K CL b H' Z' δ' σ' ts vs->D.nx δ'->E.nx σ' H'
 rt:∀t v H' Z' δ' σ',aB Z Z'->bH K CL b H' Z' δ' σ' (t::ts) QaX->D.rt t δ'->E.rt v H'
 bk:∀δ' σ' H' Z',aB Z Z'->bH K CL b H' Z' δ' σ' ts vs->D.bk δ'->E.bk σ' H'
 ct:∀δ' σ' H' Z',aB Z Z'->bH K CL b H' Z' δ' σ' ts vs->D.ct δ'->E.ct σ' H'
def Rl(X:Cx)(CL:BC)(b:Bx)(st:Stmt)(δ:BB)(D:gA):Prop:=
 ∀(H Z:Hp) (σ:L2.St) (ts:B2) (vs:BY) (E:Ends),bH X.K CL b H Z δ σ ts vs->Meets X.K CL b Z ts vs D E->MO X st E σ H
def fh(X:Cx)(CL:BC)(b:Bx)(st:Co)(δ:BB)(D:gA):Prop:=
 ∀(H Z:Hp) (σ:L2.St) (ts:B2) (vs:BY) (E:Ends),bH X.K CL b H Z δ σ ts vs->Meets X.K CL b Z ts vs D E->MM X st E σ H
theorem Meets.mono{D:gA}{E:Ends}(M:Meets K CL b Z ts vs D E)(e:Qbm):Meets K CL b Z' ts vs D E:=
 ⟨λ_ _ _ _ s=>M.nx _ _ _ _ (e.trans s),λ_ _ _ _ _ _ s=>M.rt _ _ _ _ _ _ (e.trans s),λ_ _ _ _ s=>M.bk _ _ _ _ (e.trans s),λ_ _ _ _ s=>M.ct _ _ _ _ (e.trans s)⟩
def Vo(zh:∀a o,H a=some o->kQ o=true->Z a=some o)(h:zY K H a xs):zY K Z a xs:=by
 rcases h with(h|⟨o,h⟩)|h
 .exact .inl (.inl (zh _ _ h rfl))
 .exact .inl (.inr ⟨o,zh _ _ h rfl⟩)
 .exact .inr h
theorem bV.tG(zh:∀a o,H a=some o->kQ o=true->Z a=some o){d:D}(k:d.tG=true)(h:bV K CL H d v):bV K CL Z d v:=
 bV.rec (motive_2:=λd v _=>D.bR d=true->ay K CL Z d v) (motive_3:=λd v _=>True) (motive_4:=λd v _=>True) (motive_5:=λd v _=>True)
  (λ_=>.non) (λb _=>.bl b) (λb _=>.int b) (λb _=>.str b) (λ_ k=>by cases k) (λb _=>.val b) (λh _ r k=>.tup (Vo zh h) (r (‹_›))) (λ_ _ _ k=>by cases k) (λ_ _ _ k=>by cases k) (λ_ _ _ k=>by cases k) (λ_ _ _ k=>by cases k) (λ_ _ _ _ _ k=>by rw[D.tG]at k;cases k) QaN (λ_ _ h r k=>by rw[D.bR,lh]at k;exact .cons (h k.1) (r k.2)) trivial Qas trivial Qas trivial Qas h k
theorem ay.tG(zh:∀a o,H a=some o->kQ o=true->Z a=some o){d:BA}{v:BY}(k:D.bR d=true)(h:ay K CL H d v):ay K CL Z d v:=
 ay.rec (motive_1:=λd v _=>d.tG=true->bV K CL Z d v) (motive_3:=λd v _=>True) (motive_4:=λd v _=>True) (motive_5:=λd v _=>True)
  (λ_=>.non) (λb _=>.bl b) (λb _=>.int b) (λb _=>.str b) (λ_ k=>by cases k) (λb _=>.val b) (λh _ r k=>.tup (Vo zh h) (r (‹_›))) (λ_ _ _ k=>by cases k) (λ_ _ _ k=>by cases k) (λ_ _ _ k=>by cases k) (λ_ _ _ k=>by cases k) (λ_ _ _ _ _ k=>by cases k) QaN (λ_ _ h r k=>by rw[D.bR,lh]at k;exact .cons (h k.1) (r k.2)) trivial Qas trivial Qas trivial Qas h k
variable{gs:Cc}
theorem cK.clean{Z1:Hp}(a:∀{d:D} {v:V},d.tG=true->bV K CL Z1 d v->bV K CL Z d v){kvs:CI}(k:D.bR (kvs.map (·.2))=true)(h:cK K CL Z1 kvs gs):cK K CL Z kvs gs:=
 cK.ind (P:=λkvs gs=>D.bR (kvs.map _)=true->cK K CL Z kvs gs) QaN (λh _ i k=>by rw[js,D.bR,lh]at k;exact .cons (a k.1 h) (i k.2)) h k
theorem bL.clean{Z1:Hp}(zh:∀a xs,Z1 a=some Qa1->Z a=some Qa1)(b:∀{d:D} {v:V},d.tG=true->bV K CL Z1 d v->bV K CL Z d v)(k:t.clean=true)(h:bL K CL H Z1 t v fp):bL K CL H Z t v fp:=
 bL.rec (motive_2:=λt v fp _=>T.dH t=true->aU K CL H Z t v fp) (motive_3:=λt v fp _=>T.f6 t=true->dz K CL H Z t v fp) (motive_4:=λt v fp _=>T.KJ t=true->fX K CL H Z t v fp)
  (λh k=>.sh (b (‹_›) h)) (λh _ r k=>.tup (zh _ _ h) (r (‹_›))) (λh _ r k=>.lst h (r (‹_›))) (λh _ r k=>.ins h (r (‹_›))) (λh f k=>.qw h (cK.clean b (‹_›) f)) (λh _ r k=>.dct h (r (‹_›))) (λ_ r k=>.pin (r (‹_›))) (λ_ _ _ k=>by rw[T.clean]at k;cases k) QaN (λ_ _ h r k=>by rw[T.dH,lh]at k;exact .cons (h k.1) (r k.2)) QaN (λ_ _ h r k=>by rw[T.f6,lh]at k;exact .cons (h k.1) (r k.2)) QaN (λ_ _ h r k=>by rw[T.KJ,lh]at k;exact .cons (h k.1) (r k.2)) h k
theorem bH.back{W W':Hp}(S:Qap)(p:aB H H')(s:aB Z W)(ww:aB W W')(m:aB W' H')(new:∀a o,W' a=some o->W a=none->H a=none)
  (tp:∀a o,H' a=some o->kQ o=true->W' a=some o) (r:bL K CL H' W' t v fp) (nd:fp.Nodup) (own:∀a∈fp,W' a=none/\H a=none) (c:W=Z\/t.clean=true) :
  ∃Z',aB Z Z'/\bH K CL b H' Z' δ σ (t::ts) QaX:=by
 classical
 let Z':Hp:=λa=>if (H a).isSome=true then Z a else W' a
 have zs:∀{a:Addr} {o:HO},H a=some o->Z' a=Z a:=λ{a o} e=>by
  show Qkp=Z a;rw[di (by rw[e];rfl)]
 have zn:∀{a:Addr},H a=none->Z' a=W' a:=λ{a} e=>by
  show Qkp=W' a;rw[cq (by rw[e];simp)]
 have sz:aB Z Z':=λa o q=>by rw[zs (S.zh a o q)];exact q
 have l:∀a o,Z' a=some o->W' a=some o:=λa o q=>by
  cases e:H a with
  | none=>rw[zn e]at q;exact q
  | some u=>rw[zs e]at q;exact ww a o (s a o q)
 have g:∀a o,H' a=some o->kQ o=true->Z' a=some o:=λa o q i=>by
  cases e:H a with
  | none=>rw[zn e];exact tp a o q i
  | some u=>
   rw[zs e];have:=p a u e;rw[q]at this;cases this;exact S.tp a o e i
 have x:bL K CL H' Z' t v fp:=by
  obtain c|c:=c
  .have:Z'=W':=by
    funext a;cases e:H a with
    | none=>exact zn e
    | some u=>
     rw[zs e];cases q:W' a with
     | none=>
      cases j:Z a with
      | none=>rfl
      | some o=>rw[ww a o (s a o j)]at q;cases q
     | some o=>
      cases j:W a with
      | none=>rw[new a o q j]at e;cases e
      | some y=>
       have:=ww a y j;rw[q]at this;cases this;rw[← c];exact j
   rw[this];exact r
  .refine bL.clean (λa xs h=>?_) (λ{d v} k h=>?_) c r
   .exact g a _ (m a _ h) rfl
   .exact bV.tG (H:=H') g k (h.mono m)
 obtain⟨f0,g0,e0,w,n,k0⟩:=S.rep;have old:∀a∈f0++g0,∃o,H a=some o:=λa f=>(gY.1 f).elim (e0.there a) (w.there a);have keep:∀a∈f0++g0,H' a=H a:=λa f=>by
  obtain⟨o,e⟩:=old a f;rw[e];exact p a o e
 refine⟨Z',sz,⟨⟨f0,fp++g0,e0.mono sz (λa f=>keep a (ka _ f)),.cons x (w.mono sz λa f=>keep a (i5 _ f)),?_,λa f=>?_⟩,S.bh.trans p,S.zz.trans sz,λa o q=>m a o (l a o q),λa o q z=>?_,g,S.tab⟩⟩
 .have A:(f0++(fp++g0)).Perm (fp++(f0++g0)):=by
   rw[← jc,← jc];exact nt.append_right g0
  refine A.nodup_iff.2 (lj.2 ⟨nd,n,λa f c B e=>?_⟩);subst e;obtain⟨o,q⟩:=old a B;rw[(own a f).2]at q;cases q
 .have:a∈f0++g0\/a∈fp:=by
   simp only[gY]at f ⊢;obtain h|h|h:=f
   .exact .inl (.inl h)
   .exact .inr h
   .exact .inl (.inr h)
  obtain h|h:=this
  .obtain⟨o,q⟩:=old a h;exact⟨by rw[zs q];exact(k0 a h).1,(k0 a h).2⟩
  .exact⟨by rw[zn (own a h).2];exact(own a h).1,S.bh.free (own a h).2⟩
 .cases e:H a with
  | none=>exact S.bh.free e
  | some u=>rw[zs e]at q;exact S.new a o q z
section
variable{δ1 δ2:BB}{e1 e2:Expr}{pos:Pos}{d d1 d2:D}
noncomputable def SF(h:QaL):dR X CL b e δ t.gT δ1:=λH Z σ ts vs Q S k=>h H Z σ ts vs Q S λv H' Z' z s a=>k v H' Z' z s a.pop a.view
def aH(h:Qg2):dR X CL b e δ d δ1:=by have:=SF h;rwa [T.gT]at this
noncomputable def cM(h:Qhs)(i:d.tG=true):cL X CL b e δ (.sh d) δ1:=λH Z σ ts vs Q S k=>h H Z σ ts vs Q S λv H' Z' z s a r=>k v H' Z' z s (a.push (bV.tG a.tp i r))
def Rm(h:QaL):cL X CL b e δ (.sh t.gT) δ1:=λH Z σ ts vs Q S k=>h H Z σ ts vs Q S λv H' Z' z s d=>by
 obtain⟨Z2,a,c⟩:=d.KH;exact k v H' Z2 (z.trans a) s c
def bF{i:Int}{j:Nat}:cL X CL b Qi3 δ (.sh QaQ) δ:=λH Z σ ts vs Q S k=>cI ZX (k _ _ Z Qr Qr (S.push QaQ))
def sd{i:Bool}{j:Nat}:cL X CL b (.Constant (.bool i) j pos) δ (.sh (.bl i)) δ:=λH Z σ ts vs Q S k=>cI Ta (k _ _ Z Qr Qr (S.push (.bl i)))
def fS{x:Str}{j:Nat}:cL X CL b QjE δ (.sh Qbc) δ:=λH Z σ ts vs Q S k=>cI aks (k _ _ Z Qr Qr (S.push Qbc))
section
variable{x:Str}(i:Nat)(hi:X.N[i]? = some x:=by rfl)(hv:uK X.env.scope x:=by first|exact Or.inl rfl|exact Or.inr (Or.inl rfl)|exact Or.inr (Or.inr rfl))(hd:AD x:=by decide)(kN:AE x:=by decide)
include hi hv hd kN
def ala(h:δ[i]? = some Qb0:=by rfl):cL X CL b Qav δ (.sh d) δ:=λH Z σ ts vs Q S k=>by
 obtain⟨v,e,r⟩:=S.Vm h;exact cI QhH ⟨v,e,k v H Z Qr Qr (S.push r)⟩
def afL(h:δ[i]? = some Qar:=by rfl):cL X CL b Qav δ t (δ.set i none):=λH Z σ ts vs Q S k=>by
 obtain⟨v,e,a⟩:=S.move h;exact cI QhH ⟨v,e,k v H Z Qr Qr a⟩
def alb(h:δ[i]? = some Qar:=by rfl):dR X CL b Qav δ t.gT δ:=λH Z σ ts vs Q S k=>by
 obtain⟨v,e,r⟩:=S.look h;exact cI QhH ⟨v,e,k v H Z Qr Qr S r⟩
end
noncomputable def pj:D->Option V
 | .non=>some .non
 | .bl b=>some (.bl b)
 | .int i=>some QaQ
 | .str x => some Qbc
 | _=>none
theorem bV.sc{d:D}{w:V}(r:Qde)(h:pj d=some w):v=w:=by
 cases r<;>first|(exact l7 h)|(cases h)
def Vp{d:D}{w:V}(h:pj d=some w):bV K CL Z d w:=by
 cases d<;>first|(cases h;constructor)|(cases h)
def vg{op:Operator}{r:R2}{c a w:V}(j:QjH)(h1:Qfr)(h2:Qfo)(s1:pj d1=some c)(s2:pj d2=some a)(s3:pj d=some w)
  (i:∀(H:Hp) (Q:VK),Q w H->r c a H Q):cL X CL b (.BinOp e1 op e2 pos) δ (.sh d) δ2:=λH Z σ ts vs Q S k=>by
 refine cI (NT j dQ dQ) (h1 H Z σ ts vs _ S λv1 H1 Z1 f k1 m h=>h2 H1 Z1 σ ts vs _ m λv2 H2 Z2 e k2 l g=>?_);rw[h.sc s1,g.sc s2];exact i H2 Q (k w H2 Z2 (f.trans e) Qaq (l.push (Vp s3)))
noncomputable def pL{i j:Int}(h1:Qa8)(h2:Qbe):cL X CL b Qev δ (.sh (.int (i+j))) δ2:=vg aaf h1 h2 rfl rfl rfl λ_ _ q=>⟨i,j,rfl,rfl,q⟩
noncomputable def KN{i j:Int}(h1:Qa8)(h2:Qbe):cL X CL b (.BinOp e1 .Sub e2 pos) δ (.sh (.int (i-j))) δ2:=vg aag h1 h2 rfl rfl rfl λ_ _ q=>⟨i,j,rfl,rfl,q⟩
noncomputable def alc{i j:Int}(h1:Qa8)(h2:Qbe)(c:JJ i j):cL X CL b (.BinOp e1 .Mult e2 pos) δ (.sh (.int (i*j))) δ2:=vg akK h1 h2 rfl rfl rfl λ_ _ q=>⟨i,j,rfl,rfl,c,q⟩
noncomputable def jK{i j:Int}(h1:Qa8)(h2:Qbe)(c:0<j):cL X CL b (.BinOp e1 .Mod e2 pos) δ (.sh (.int (i % j))) δ2:=vg akL h1 h2 rfl rfl rfl λ_ _ q=>⟨i,j,rfl,rfl,c,q⟩
noncomputable def D4{i j:Int}(h1:Qa8)(h2:Qbe)(c:RF i j):cL X CL b (.BinOp e1 .FloorDiv e2 pos) δ (.sh (.int (i / j))) δ2:=vg afC h1 h2 rfl rfl rfl λ_ _ q=>⟨i,j,rfl,rfl,c,q⟩
noncomputable def yL{i j:Int}(h1:Qa8)(h2:Qbe)(c:RE i j):cL X CL b (.BinOp e1 .Pow e2 pos) δ (.sh (.int (i ^ j.toNat))) δ2:=vg akM h1 h2 rfl rfl rfl λ_ _ q=>⟨i,j,rfl,rfl,c,q⟩
noncomputable def aaN{x y:Str}(h1:QiN)(h2:dR X CL b e2 δ1 (.str y) δ2)(c:x.length+y.length<=sizeLine):cL X CL b Qev δ (.sh (.str (x++y))) δ2:=vg EG h1 h2 rfl rfl rfl λ_ _ q=>⟨x,y,rfl,rfl,c,q⟩
def EL{op:CmpOp}{r:R2}{p:Bool}{i h:V}(l:z7 X QhQ r)(h1:Qfr)(h2:Qfo)(s1:pj d1=some i)(s2:pj d2=some h)
  (j:∀(H:Hp) (Q:VK),Q (.bl p) H->r i h H Q) (hm:behindInMarks op e2=false):wX X CL b QgX δ p δ2/\cL X CL b QgX δ (.sh (.bl p)) δ2:=by
 constructor
 .intro H Z σ ts vs Q S k;refine HN (tE l dQ dQ hm) (h1 H Z σ ts vs _ S λv1 H1 Z1 c k1 g e=>h2 H1 Z1 σ ts vs _ g λv2 H2 Z2 a k2 f d=>?_);rw[e.sc s1,d.sc s2];exact j H2 _ ⟨p,rfl,k H2 Z2 Qb4 Qaq f⟩
 .intro H Z σ ts vs Q S k;refine cI (wU l dQ dQ hm) (h1 H Z σ ts vs _ S λv1 H1 Z1 c k1 g e=>h2 H1 Z1 σ ts vs _ g λv2 H2 Z2 a k2 f d=>?_);rw[e.sc s1,d.sc s2];exact j H2 _ (k _ H2 Z2 Qb4 Qaq (f.push (.bl p)))
theorem gB{i j:Int}(h1:Qa8)(h2:Qbe):wX X CL b Qeq δ (decide (i=j)) δ2/\cL X CL b Qeq δ (.sh (.bl (decide (i=j)))) δ2:=
 EL S2 h1 h2 rfl rfl (λ_ _ q=>⟨rfl,by simp_all ⟩) (qU _)
theorem BU{i j:Int}(h1:Qa8)(h2:Qbe):wX X CL b Qen δ (!decide (i=j)) δ2/\cL X CL b Qen δ (.sh (.bl (!decide (i=j)))) δ2:=
 EL S1 h1 h2 rfl rfl (λ_ _ q=>⟨rfl,by simp_all ⟩) (qU _)
theorem cW{i j:Str}(h1:dR X CL b e1 δ (.str i) δ1)(h2:dR X CL b e2 δ1 (.str j) δ2):wX X CL b Qeq δ (decide (i=j)) δ2/\cL X CL b Qeq δ (.sh (.bl (decide (i=j)))) δ2:=
 EL S2 h1 h2 rfl rfl (λ_ _ q=>⟨rfl,by simp_all ⟩) (qU _)
theorem aaO{i j:Str}(h1:dR X CL b e1 δ (.str i) δ1)(h2:dR X CL b e2 δ1 (.str j) δ2):wX X CL b Qen δ (!decide (i=j)) δ2/\cL X CL b Qen δ (.sh (.bl (!decide (i=j)))) δ2:=
 EL S1 h1 h2 rfl rfl (λ_ _ q=>⟨rfl,by simp_all ⟩) (qU _)
def JG{i j:Int}(h1:Qa8)(h2:Qbe):wX X CL b (.Compare e1 [.Lt] [e2] pos) δ (decide (i<j)) δ2/\cL X CL b (.Compare e1 [.Lt] [e2] pos) δ (.sh (.bl (decide (i<j)))) δ2:=EL apo h1 h2 rfl rfl Qio (qU _)
def apG{i j:Int}(h1:Qa8)(h2:Qbe):wX X CL b (.Compare e1 [.LtE] [e2] pos) δ (decide (i<=j)) δ2/\cL X CL b (.Compare e1 [.LtE] [e2] pos) δ (.sh (.bl (decide (i<=j)))) δ2:=EL apq h1 h2 rfl rfl Qio (qU _)
def NN{i j:Int}(h1:Qa8)(h2:Qbe):wX X CL b QiO δ (decide (j<i)) δ2/\cL X CL b QiO δ (.sh (.bl (decide (j<i)))) δ2:=EL SU h1 h2 rfl rfl Qio (qU _)
end
theorem aU.split:∀{as bs:B2} {us ws:BY} {gp:BN},as.length=us.length->aU K CL H Z (as++bs) (us++ws) gp->∃g1 g2,gp=g1++g2/\aU K CL H Z as us g1/\aU K CL H Z bs ws g2
 | [],_,[],_,gp,_,r=>⟨[],gp,rfl,.nil,r⟩
 | [],_,_::_,_,_,h,_=>by simp at h
 | _::_,_,[],_,_,h,_=>by simp at h
 | a::as,bs,u::us,ws,gp,h,r=>by
  cases r with
  | @cons _ _ _ _ f1 f2 c b=>
   obtain⟨g1,g2,e,h1,h2⟩:=aU.split WE b;exact⟨ _,g2,WE,.cons c h1,h2⟩
variable{us:BY}
theorem aU.app{as bs:B2}{ws:BY}{g1 g2:BN}(h:aU K CL H Z as us g1)(q:aU K CL H Z bs ws g2):aU K CL H Z (as++bs) (us++ws) (g1++g2):=
 aU.ind (P:=λas us g1=>aU K CL H Z (as++bs) (us++ws) (g1++g2)) q (λr _ i=>by rw[jc];exact .cons r i) h
theorem aU.rev:∀{as:B2} {us:BY} {g:BN},aU K CL H Z as.reverse us.reverse g->∃g',aU K CL H Z as us g'/\g'.Perm g
 | [],[],g,r=>by grind
 | [],u::us,g,r=>by have:=r.length;simp at this
 | a::as,[],g,r=>by have:=r.length;simp at this
 | a::as,u::us,g,r=>by
  rw[nc,nc]at r;have i:=r.length;obtain⟨g1,g2,e,c,b⟩:=aU.split WE r;subst e;obtain⟨g',d,p⟩:=aU.rev c;cases b with
  | @cons _ _ _ _ f1 f2 h f=>
   cases f;refine⟨ _,.cons h d,?_⟩;rw[j2];exact(ub f1 p).trans nt
theorem aU.LL:∀{ds:BA} {us:BY},ay K CL Z ds us->aU K CL H Z Qa7 us []
 | _,_,.nil=>.nil
 | _,_,.cons r t=>.cons (.sh r) (aU.LL t)
theorem aU.toF:∀{ds:BA} {us:BY} {g:BN},aU K CL H Z Qa7 us g->ay K CL Z ds us/\g=[]
 | [],_,_,r=>by
  have a:=r;cases a;exact⟨.nil,rfl⟩
 | d::ds,_,_,r=>by
  have a:=r;cases a with
  | cons c b=>
   obtain⟨rfl,h⟩:=c.KD;obtain⟨q,e⟩:=aU.toF b;exact⟨.cons h q,‹_› ⟩
theorem mQ:∀(ds:BA),T.gU Qa7=ds
 | []=>rfl
 | d::ds=>by rw[js,T.gU,mQ ds,T.gT]
variable{tl:B2}
theorem bH.KP(S:QkM)(s:us.length=tl.length)(d:H p=none) :
  aB Z (upd Z p Qd8)/\aB H (upd H p Qd8)/\bH K CL b (upd H p Qd8) (upd Z p Qd8) δ σ (.tup tl::ts) (.ref p::vs):=by
 obtain⟨fp,gp,e,r,nd,k⟩:=S.rep;obtain⟨g1,g2,n,l,j⟩:=aU.split WF r;subst n;obtain⟨g',m,pm⟩:=l.rev;have g:=S.zh.free d;have sz:aB Z (upd Z p Qd8):=aB.upd g;have sh:aB H (upd H p Qd8):=aB.upd d;have keep:∀a∈fp++(g1++g2),a≠p:=λa c=>by
  have:∃o,H a=some o:=by
   obtain h|h:=gY.1 c
   .exact e.there a h
   .exact r.there a h
  obtain⟨o,q⟩:=this;exact aO q d
 have f:=(pm.append_right g2).append_left fp;have kk:=λa c=>keep a (f.mem_iff.1 c);refine⟨sz,sh,⟨⟨fp,_,e.mono sz Qix,.cons (.tup aW (m.mono sz λa c=>au (kk a (by simp[c])))) (j.mono sz λa c=>au (keep a (by simp[c]))),f.nodup_iff.2 nd,λa c=>?_⟩,S.bh.trans sh,S.zz.trans sz,λa o q=>?_,λa o q z=>?_,λa o q i=>?_,S.tab⟩⟩
 .exact⟨ au (kk a c)▸(k a (f.mem_iff.1 c)).1,(k a (f.mem_iff.1 c)).2⟩
 .by_cases c:a=p
  .subst c;rw[aW]at q ⊢;exact q
  .rw[au c]at q ⊢;exact S.zh a o q
 .by_cases c:a=p
  .subst c;exact S.bh.free d
  .rw[au c]at q;exact S.new a o q z
 .by_cases c:a=p
  .subst c;rw[aW]at q ⊢;exact q
  .rw[au c]at q ⊢;exact S.tp a o q i
theorem bH.j8{g0:BN}(S:QkM)(t:us.length=tl.length)(f:H p=none) :
  aB H (upd H p QcE)/\bH K CL b (upd H p QcE) Z δ σ (.lst tl::ts) (.ref p::vs):=by
 obtain⟨fp,gp,e,r,nd,k⟩:=S.rep;obtain⟨g1,g2,s,m,l⟩:=aU.split WF r;subst s;obtain⟨g',n,pm⟩:=m.rev;have j:=S.zh.free f;have sh:aB H (upd H p QcE):=aB.upd f;have keep:∀a∈fp++(g1++g2),a≠p:=λa c=>by
  have:∃o,H a=some o:=by
   obtain h|h:=gY.1 c
   .exact e.there a h
   .exact r.there a h
  obtain⟨o,q⟩:=this;exact aO q f
 have g:=(pm.append_right g2).append_left fp;have kk:=λa c=>keep a (g.mem_iff.1 c);have d:(fp++((p::g')++g2)).Perm (p::(fp++(g'++g2))):=by simp
 refine⟨sh,⟨⟨fp,_,e.mono Qr Qix,.cons (.lst aW (n.mono Qr λa c=>au (kk a (by simp[c])))) (l.mono Qr λa c=>au (keep a (by simp[c]))),?_,λa c=>?_⟩,S.bh.trans sh,S.zz,S.zh.trans sh,S.new,λa o q i=>?_,S.tab⟩⟩
 .refine d.nodup_iff.2 (nP.2 ⟨λh=>kk p h rfl,g.nodup_iff.2 nd⟩)
 .obtain h|h:=fV.1 (d.mem_iff.1 c)
  .subst h;exact⟨j,S.bh.free f⟩
  .exact k a (g.mem_iff.1 h)
 .by_cases c:a=p
  .subst c;rw[aW]at q;cases q;cases i
  .rw[au c]at q;exact S.tp a o q i
variable{δ1 δ2:BB}{e1 e2:Expr}{p q:Bool}{pos:Pos}{d:D}{ds:BA}
def bA:KL X CL b [] δ [] δ:=λH Z σ ts vs Q S k=>HP dW (k [] H Z rfl Qr Qr S)
theorem aY(h1:QaL)(h2:KL X CL b es δ1 tl δ2)(hs:Qaf:=by exact bq rfl):KL X CL b Qab δ (t::tl) δ2:=λH Z σ ts vs Q S k=>
 HP (bZ dQ HM hs) (h1 H Z σ ts vs _ S λv H1 Z1 c k1 f=>h2 H1 Z1 σ _ _ _ f λus H2 Z2 d a k2 g=>k _ H2 Z2 (by simp[d]) Qb4 Qaq WE)
def aG:Xo X CL b [] δ [] δ:=λH Z σ ts vs Q S k=>HP dW (k [] H Z Qr Qr S .nil)
def ai(h1:Qhs)(h2:Xo X CL b es δ1 ds δ2)(hs:Qaf:=by exact bq rfl):Xo X CL b Qab δ (d::ds) δ2:=λH Z σ ts vs Q S k=>
 HP (bZ dQ HM hs) (h1 H Z σ ts vs _ S λv H1 Z1 c k1 i g=>h2 H1 Z1 σ _ _ _ i λus H2 Z2 a k2 h f=>k _ H2 Z2 Qb4 Qaq h (.cons (g.mono k2) f))
variable{j:Nat}
def tH(h:Qji)(g:tl.length<=sizeLine):cL X CL b QhD δ (.tup tl) δ1:=λH Z σ ts vs Q S k=>
 cI (aal HM) (h H Z σ ts vs _ S λus H1 Z1 d e k1 l=>⟨ d▸g,λp f=>by
  obtain⟨a,c,i⟩:=l.KP d f;exact k _ _ _ (e.trans a) Qcu i⟩)
theorem je(h:KL X CL b es δ (ds.map T.sh) δ1)(a:QbG):cL X CL b QhD δ (.sh Qb6) δ1:=by
 have:=Rm (tH (pos:=pos) (j:=j) h WE)
 rwa [T.gT,mQ]at this
def cJ(h:Qji)(f:tl.length<=sizeLine):cL X CL b (.List es pos) δ (.lst tl) δ1:=λH Z σ ts vs Q S k=>
 cI (akQ HM) (h H Z σ ts vs _ S λus H1 Z1 a d k1 i=>⟨ a▸f,λp e=>by
  obtain⟨c,g⟩:=i.j8 (g0:=[]) a e;exact k _ _ _ d Qcu g⟩)
def uN(h:cL X CL b e δ (.sh (.bl p)) δ1)(he:∀whole,isTrue e X.env whole=(do let v ← whole;standAt e.pos;holding [v] (truthy v)):=by intro _;rfl):wX X CL b e δ p δ1:=λH Z σ ts vs Q S k=>
 HN (akt dQ he) (h H Z σ ts vs _ S λv H1 Z1 c k1 a=>⟨p,by have:=a.view;exact this.sc rfl,k H1 Z1 c k1 a.pop⟩)
def ald(h:QbW):wX X CL b (.UnaryOp .Not e pos) δ (!p) δ1:=λH Z σ ts vs Q S k=>HN (akv og) Qfp
noncomputable def JI(X:Cx)(e:Expr):TT:=λσ H Q=>∀(whole:Sem Value) (pins:BM) (s:Qb),Inv X pins σ H s->wpAny Qu X.A (isTrue e X.env whole) QeE X.xe s
noncomputable def LI:PW X e (JI X e):=λwhole pins s _ _ _ I h=>h _ pins s I
def wz(X:Cx)(CL:BC)(b:Bx)(e:Expr)(δ:BB)(p:Bool)(δ':BB):Prop:=
 ∀(H Z:Hp) (σ:L2.St) (ts:B2) (vs:BY) (Q:Dx),bH X.K CL b H Z δ σ ts vs->(∀H' Z',aB Z Z'->aB H H'->bH X.K CL b H' Z' δ' σ ts vs->Q p H')->JI X e σ H Q
noncomputable def Xp{t:TT}(h:PW X e t)(q:t σ H Q):JI X e σ H Q:=λwhole pins s I=>h _ pins s σ H Q I q
noncomputable def qW(h:wz X CL b e δ p δ1):wX X CL b e δ p δ1:=λH Z σ ts vs Q S k pins s I=>h H Z σ ts vs Q S k _ pins s I
def jf(h:QbW):wz X CL b (.BoolOp .And [e] pos) δ p δ1:=λH Z σ ts vs Q S k=>Xp (U6 og) Qfp
def Rn(h:QbW):wz X CL b (.BoolOp .Or [e] pos) δ p δ1:=λH Z σ ts vs Q S k=>Xp (aku og) Qfp
theorem iK(h:QbW)(h2:p=true->wz X CL b (.BoolOp .And (e2::es) pos) δ1 q δ1):wz X CL b (.BoolOp .And (e::e2::es) pos) δ (p&&q) δ1:=λH Z σ ts vs Q S k=>
 Xp (ZY og LI) (h H Z σ ts vs _ S λH1 Z1 a k1 c=>by
  cases p with
  | true=>exact N4 Qj1
  | false=>exact Rb (k H1 Z1 a k1 c))
theorem Vr(h:QbW)(h2:p=false->wz X CL b (.BoolOp .Or (e2::es) pos) δ1 q δ1):wz X CL b (.BoolOp .Or (e::e2::es) pos) δ (p || q) δ1:=λH Z σ ts vs Q S k=>
 Xp (U7 og LI) (h H Z σ ts vs _ S λH1 Z1 a k1 c=>by
  cases p with
  | true=>exact N4 (k H1 Z1 a k1 c)
  | false=>exact Rb Qj1)
def aaQ{op:BoolOp}(h:QaL):cL X CL b (.BoolOp op [e] pos) δ t δ1:=λH Z σ ts vs Q S k=>cI (akw dQ) Qfp
def SE(h:cL X CL b e δ (.sh (.bl p)) δ1)(h2:p=false->cL X CL b (.BoolOp .Or (e2::es) pos) δ1 (.sh (.bl q)) δ1):cL X CL b (.BoolOp .Or (e::e2::es) pos) δ (.sh (.bl (p || q))) δ1:=λH Z σ ts vs Q S k=>
 cI (ao4 dQ dQ) (h H Z σ ts vs _ S λv H1 Z1 c k1 a=>by
  have hv:=by have:=a.view;exact this.sc rfl
  refine⟨p,hv,?_⟩;cases p with
  | true=>exact N4 (k _ H1 Z1 c k1 (a.pop.push Qdl))
  | false=>exact Rb (h2 rfl H1 Z1 σ ts vs _ a.pop λv H2 Z2 d k2 f=>k v H2 Z2 (c.trans d) Qaq f))
theorem alf(h:QbW)(h1:p=true->cL X CL b e1 δ1 t δ2)(h2:p=false->cL X CL b e2 δ1 t δ2):cL X CL b (.IfExp e e1 e2 pos) δ t δ2:=λH Z σ ts vs Q S k=>
 cI (ZZ og dQ dQ) (h H Z σ ts vs _ S λH1 Z1 d k1 f=>by
  cases p with
  | true=>exact N4 (h1 rfl H1 Z1 σ ts vs _ f λv H2 Z2 a k2 c=>k v H2 Z2 (d.trans a) Qaq c)
  | false=>exact Rb (h2 rfl H1 Z1 σ ts vs _ f λv H2 Z2 a k2 c=>k v H2 Z2 (d.trans a) Qaq c))
variable{k:Int}
theorem Ad(r:QeG)(h:QeT):∃v,wV vs k=some v/\bV K CL Z d v:=by
 unfold wV at h ⊢;rw[← r.length];cases e:HB _ k with
 | none=>rw[e]at h;cases h
 | some j=>
  rw[e]at h;exact r.get h
def aX(h1:dR X CL b e1 δ (.tup ds) δ1)(h2:Qfh)(l:QeT)(hs:qx e2:=by exactλ_ _=>rfl):dR X CL b Qfq δ d δ2:=λH Z σ ts vs Q S kk=>
 cI (EJ Q9 dQ dQ hs) (h1 H Z σ ts vs _ S λv1 H1 Z1 e k1 n i=>h2 H1 Z1 σ ts vs _ n λv2 H2 Z2 c k2 m h=>by
  have a:=i.mono k2;obtain⟨_,_,rfl,j,g⟩:=a.Rf;obtain⟨v,hv,f⟩:=Ad g l;exact⟨_,_,k,v,rfl,h.sc rfl,j,hv,kk v H2 Z2 Qf5 Qaq m f⟩)
def bJ(h1:QiI)(h2:Qfh)(l:QeT)(hs:qx e2:=by exactλ_ _=>rfl):dR X CL b Qfq δ d δ2:=λH Z σ ts vs Q S kk=>
 cI (EJ D3 dQ dQ hs) (h1 H Z σ ts vs _ S λv1 H1 Z1 e k1 n i=>h2 H1 Z1 σ ts vs _ n λv2 H2 Z2 c k2 m h=>by
  have a:=i.mono k2;obtain⟨_,_,rfl,j,g⟩:=a.gV;obtain⟨v,hv,f⟩:=Ad g l;exact⟨_,_,k,v,rfl,h.sc rfl,j,hv,kk v H2 Z2 Qf5 Qaq m f⟩)
def j9(h1:cL X CL b e1 δ (.sh Qb6) δ1)(h2:Qfh)(j:QeT)(hs:qx e2:=by exactλ_ _=>rfl):cL X CL b Qfq δ (.sh d) δ2:=λH Z σ ts vs Q S kk=>
 cI (EJ Q9 dQ dQ hs) (h1 H Z σ ts vs _ S λv1 H1 Z1 e k1 l=>h2 H1 Z1 σ _ _ _ l λv2 H2 Z2 c k2 a h=>by
  obtain⟨fp,gp,_,r,_,_⟩:=a.rep;cases r with
  | cons r _=>
   replace r:=r.KD;obtain⟨rfl,r⟩:=r;obtain⟨_,_,rfl,i,g⟩:=r.Rf;obtain⟨v,hv,f⟩:=Ad g j;exact⟨_,_,k,v,rfl,h.sc rfl,aB.pf a.zh i,hv,kk v H2 Z2 Qf5 Qaq (a.pop.push f)⟩)
def Ro(h1:cL X CL b e1 δ (.sh Qdq) δ1)(h2:Qfh)(j:QeT)(hs:qx e2:=by exactλ_ _=>rfl):cL X CL b Qfq δ (.sh d) δ2:=λH Z σ ts vs Q S kk=>
 cI (EJ D3 dQ dQ hs) (h1 H Z σ ts vs _ S λv1 H1 Z1 e k1 l=>h2 H1 Z1 σ _ _ _ l λv2 H2 Z2 c k2 a h=>by
  obtain⟨fp,gp,_,r,_,_⟩:=a.rep;cases r with
  | cons r _=>
   replace r:=r.KD;obtain⟨rfl,r⟩:=r;obtain⟨_,_,rfl,i,g⟩:=r.gV;obtain⟨v,hv,f⟩:=Ad g j;exact⟨_,_,k,v,rfl,h.sc rfl,a.zh.seq i,hv,kk v H2 Z2 Qf5 Qaq (a.pop.push f)⟩)
theorem bH.oA:∀{ds:BA} {us:BY} {ts:B2} {vs:BY},ay K CL Z ds us->bH K CL b H Z δ σ ts vs->bH K CL b H Z δ σ ((ds.map T.sh).reverse++ts) QdJ
 | _,_,_,_,.nil,S=>S
 | _,_,ts,vs,.cons r t,S=>by
  rw[js,nc,nc,jc,jc];exact bH.oA t (S.push r)
theorem bH.drops(S:bH K CL b H Z δ σ (tl++ts) (us++vs))(a:us.length=tl.length):bH K CL b H Z δ σ ts vs:=by
 induction tl generalizing us with
 | nil=>
  cases us with
  | nil=>exact S
  | cons _ _=>simp at a
 | cons t tl c=>
  cases us with
  | nil=>simp at a
  | cons u us=>exact c S.pop WE
theorem bH.Vs{ds:BA}(S:bH K CL b H Z δ σ ((ds.map T.sh).reverse++ts) QdJ)(d:us.length=ds.length):ay K CL Z ds us:=by
 obtain⟨fp,gp,e,r,nd,k⟩:=S.rep;obtain⟨g1,g2,g,a,f⟩:=aU.split (by simp[d]) r;obtain⟨g',c,pm⟩:=a.rev;exact c.toF.1
section
variable{pp:Pos}{ds:BA}
def KQ(hm:X.mg "len" = none)(h:Qck)(f:Gl X "len":=by rfl)(hs:Qad:=by exact bq rfl)(hpl:(backTo pos (starEach ([]:CU) X.env)).any (·.1)=false:=by rfl):cL X CL b Qk9 δ (.sh (.int ds.length)) δ1:=λH Z σ ts vs Q S k=>
 cI (rZ KC f hm PySem.boot_len QaF (he:=hs)) (h H Z σ ts vs _ S λv H1 Z1 a k1 g r=>by
  obtain⟨_,_,rfl,d,c⟩:=r.gV;exact⟨_,_,rfl,.inl d,c.length▸k _ H1 Z1 a k1 (g.push Qbx) ⟩)
def vh(hm:QfL)(h:QgD)(j:Qge:=by rfl)(hv:bootBuiltins "list" = some QeH:=by rfl)(hs:Qad:=by exact bq rfl):cL X CL b Qip δ (.lst Qa7) δ1:=λH Z σ ts vs Q S k=>
 cI (kC Ab j hm hv QaF (he:=hs)) (h H Z σ ts vs _ S λv H1 Z1 f k1 a=>by
  obtain⟨fp,gp,_,r,_,_⟩:=a.rep;cases r with
  | cons r _=>
   replace r:=r.KD;obtain⟨rfl,r⟩:=r;obtain⟨_,_,rfl,g,d⟩:=r.gV;refine⟨_,_,rfl,.inl (a.zh.seq g),λl i=>?_⟩;obtain⟨c,m⟩:=(bH.oA d a.pop).j8 (g0:=[]) (by simp[d.length]) i;exact k _ _ _ f Qcu m)
def jo(hm:QfL)(h:Qck)(hi:QbR)(j:Qge:=by rfl)(hv:bootBuiltins "list" = some QeH:=by rfl)(hs:Qad:=by exact bq rfl):cL X CL b Qip δ (.lst Qa7) δ1:=λH Z σ ts vs Q S k=>
 cI (kC Ab j hm hv QaF (he:=hs)) (h H Z σ ts vs _ S λv H1 Z1 f k1 d r=>by
  obtain⟨_,_,rfl,g,a⟩:=r.gV;refine⟨_,_,rfl,.inl g,λl i=>?_⟩;obtain⟨c,m⟩:=(bH.oA (ay.tG d.tp hi a) d).j8 (g0:=[]) (by simp[a.length]) i;exact k _ _ _ f Qcu m)
def N7(K:Frag)(CL:BC){A:Type}(n:Nat)(arg:Qak)(Pre:Q1)(res:Qaa):Sp:=λvs H Q _=>
 ∃(W:Hp) (a:A),aB W H/\(∀c o,H c=some o->kQ o=true->W c=some o)/\ay K CL W QbM vs/\(arg a).length=n/\Pre a/\qV CL W ∧
  ∀v H' W' fp,aB H H'->aB W W'->aB W' H'->(∀c o,W' c=some o->W c=none->H c=none)->(∀c o,H' c=some o->kQ o=true->W' c=some o) →
   bL K CL H' W' Qce v fp->fp.Nodup->(∀c∈fp,W' c=none/\H c=none)->Q v H'
variable{A:Type}{k n:Nat}{f:Addr}{fd:QaG}{ps:At}{x:Str}{arg:Qak}{Pre:Q1}{res:Qaa}
def afN(a:A)(F:Qgh)(m:QbA)(hm:QfJ)(s:Qfw)(y:Qc3)
  (h:QgO) (p:QbS) (o:Pre a) (u:QdO) (t:Qao)
  (l:AD x:=by decide) (he:Qaf:=by exact bq rfl) (hpl:Qaw:=by rfl) :
  cL X CL b Qbs δ (res a) δ1:=λH Z σ ts vs Q S kk=>
 cI (Kx F m t hm s y .nil u9 HM l he hpl) (h H Z σ ts vs _ S λus H1 Z1 g k1 c r=>by
  rw[j2];refine⟨H1,a,.refl _,λ_ _ q _=>q,r,p,o,c.N6,λv H' W' fp d ww j nw tp rt nd own=>?_⟩;obtain⟨Z',i,z⟩:=c.back d c.zh ww j nw tp rt nd own (.inr u);exact kk v H' Z' (g.trans i) (k1.trans d) z)
theorem aaR(a:A)(F:Qgh)(o:QbA)(hm:QfJ)(r:Qfw)(t:Qc3)
  (h:Qgw) (q:QbS) (p:Pre a) (s:Qao)
  (m:AD x:=by decide) (he:Qaf:=by exact bq rfl) (hpl:Qaw:=by rfl) :
  cL X CL b Qbs δ (res a) δ1:=λH Z σ ts vs Q S kk=>
 cI (Kx F o s hm r t .nil u9 HM m he hpl) (h H Z σ ts vs _ S λus H1 Z1 z i k1 d=>by
  rw[j2];have c:us.length=(arg a).length:=by simp_all
  have u:=d.drops (by simp[c]);refine⟨Z1,a,d.zh,d.tp,d.Vs c,q,p,d.Ri,λv H' W' fp g ww l nw tp rt nd own=>?_⟩;obtain⟨Z',j,y⟩:=u.back g Qr ww l nw tp rt nd own Q4;exact kk v H' Z' (i.trans j) (k1.trans g) y)
variable{D D':gA}{st:Stmt}{gP apH:Co}
theorem Meets.to{E:Ends}(M:Meets K CL b Z ts vs D E)(h1:∀δ,D'.nx δ->D.nx δ)(h2:∀t δ,D'.rt t δ->D.rt t δ)(c:∀δ,D'.bk δ->D.bk δ)(a:∀δ,D'.ct δ->D.ct δ):Meets K CL b Z ts vs D' E:=
 ⟨λ_ _ _ _ s S k=>M.nx _ _ _ _ s S (h1 _ k),λ_ _ _ _ _ _ s S k=>M.rt _ _ _ _ _ _ s S (h2 _ _ k),λ_ _ _ _ s S k=>M.bk _ _ _ _ s S (c _ k),λ_ _ _ _ s S k=>M.ct _ _ _ _ s S (a _ k)⟩
def aj(h:D.nx δ):fh X CL b [] δ D:=λH Z σ ts vs E S M=>RS afz (M.nx δ σ H Z Qr S h)
def cN(h:Rl X CL b st δ {D with nx:=λδ1=>fh X CL b gP δ1 D}):fh X CL b (st::gP) δ D:=λH Z σ ts vs E S M=>
 RS (Z6 psS ZG) (h H Z σ ts vs _ S ⟨λδ' σ' H' Z' s a k=>k H' Z' σ' ts vs E a (M.mono s),M.rt,M.bk,M.ct⟩)
def aaS(h:D.bk δ):Rl X CL b (.Break pos) δ D:=λH Z σ ts vs E S M=>r9 Z7 (M.bk δ σ H Z Qr S h)
def afO(h:D.ct δ):Rl X CL b (.Continue pos) δ D:=λH Z σ ts vs E S M=>r9 NP (M.ct δ σ H Z Qr S h)
def alh(h:QaL)(k:D.rt t δ1):Rl X CL b Qjd δ D:=λH Z σ ts vs E S M=>r9 (Z8 dQ) (h H Z σ ts vs _ S λv H1 Z1 a k1 c=>M.rt t v H1 Z1 δ1 σ a c k)
theorem apI(h:QbW)(h1:p=true->fh X CL b gP δ1 D)(h2:p=false->fh X CL b apH δ1 D):Rl X CL b (.If e gP apH pos) δ D:=λH Z σ ts vs E S M=>
 r9 (S3 og ZG ZG) (h H Z σ ts vs _ S λH1 Z1 a k1 c=>by
  cases p with
  | true=>exact N4 (h1 rfl H1 Z1 σ ts vs E c (M.mono a))
  | false=>exact Rb (h2 rfl H1 Z1 σ ts vs E c (M.mono a)))
def aaT(i:Nat){pos':Pos}(h:QaL)(k:D.nx (δ1.set i Qar))(d:QbB:=by decide)(f:QbP:=by assumption)(hi:X.N[i]? = some x:=by rfl)(c:Qc7:=by first|exact .inl rfl|exact .inr rfl)
  (hs:Qfb:=by rfl) (hf:AM X x:=by first|exact .inl rfl|exact .inr rfl|assumption):Rl X CL b QiH δ D:=λH Z σ ts vs E S M=>
 r9 (aac f hi c dQ hs hf) (h H Z σ ts vs _ S λv H1 Z1 a k1 g=>M.nx _ _ H1 Z1 a (g.set d) k)
end
noncomputable def entry(N:At)(ds:BA):BB:=ds.map Qha++List.replicate (N.length-ds.length) none
theorem lS{K:Frag}{CL:BC}{H Z:Hp}:∀{ds:BA} {vs:BY} (n:Nat),ay K CL Z ds vs->fZ K CL H Z (ds.map Qha++List.replicate n none) (vs.map some++List.replicate n none) []
 | _,_,0,.nil=>.nil
 | _,_,n+1,.nil=>.skip (lS n .nil)
 | _,_,n,.cons r t=>.cons (.sh r) (lS n t)
variable{P:Qat}{w:World}{mg:Bi}{base:Heap}{x qual:Str}{st:Stmt}{f:Addr}{fd:QaG}{N ps:At}{A:Type}
theorem D5{k:Nat}{arg:Qak}{Pre:Q1}{res:Qaa}(F:QdG)(S:Qb2)
  (u:∀(gR:Value) (g:Qau) (outer:D1) (s:Qb) (H:Hp) (E:XK) (b:Bx) (a:A),eG k (g.deeper QcQ)->Pre a →
   fh (rY lR P w K mg base N qual QaJ f gR g outer s H E).Kv CL b Qbk Qf6 {nx:=λ_=>res a=.sh .non,rt:=λt _=>t=res a}) :
  fj P w K mg base lR Qaj f fd ps QgJ:=by
 refine F.ok S (λvs H Q E h=>?_) (λgR g outer s H vs Q E n h=>?_)
 .obtain⟨W,a,_,_,r,i,_⟩:=h;rw[← r.length];exact i
 .obtain⟨W,a,j,tp,r,i,p,tb,kk⟩:=h;refine⟨_,ZG,u gR g _ s H E ⟨H,W⟩ a n p H W _ [] [] _ ⟨⟨[],[],?_,.nil,uj,λa d=>by cases d⟩,.refl _,.refl _,j,λa o q z=>?_,tp,tb⟩ ⟨λδ' σ' H' Z' s' c e=>?_,λt v H' Z' δ' σ' s' c e=>?_,λ_ _ _ _ _ _ e=>e.elim,λ_ _ _ _ _ _ e=>e.elim⟩⟩
  .unfold entry L2.start;rw[← r.length];exact lS _ r
  .grind
  .exact kk .non H' Z' [] c.bh c.zz c.zh c.new c.tp (by rw[e];exact .sh .non) uj λa d=>by cases d
  .have y:=e;subst y;obtain⟨fp,gp,_,m,nd,own⟩:=c.rep;cases m with
   | @cons _ _ _ _ f1 f2 l B=>
    have h1:=(lj.1 nd).2.1;exact kk v H' Z' f1 c.bh c.zz c.zh c.new c.tp l (lj.1 h1).1 λa d=>own a (i5 _ (ka _ d))
variable{prog:Qat}{A:Qau}{R:Result->Shared->Prop}{s:Qb}{elt iter:Expr}{ifs:CU}{scope:Scope}
theorem KR{target:Expr}{it acc:Value}(I:Nat->Shared->Prop)
  (turn:∀n s,I n s->wpAny Qal A (pyNext it) (λr d=>match r with
   | none=>R (.ok .next) d
   | some v=>wpAny Qal A (letOwnedTupleGo target it v) (λ_ b=>wpAny Qal A (assign target env v) (λ_ g=>
     wpAny Qal A (forIn ifs true λc r=>if r=true then do let ok ← isTrue c env (eval c env);pure (ForInStep.yield ok) else pure Qjw) (λok a=>
      if ok=true then wpAny Qal A (eval elt env) (λx f=>
       wpAny Qal A (call (.builtin "list.append") [acc,x]) (λ_ e=>∃m,m<n/\I m e) QbH f) QbH a
      else ∃m,m<n/\I m a) QbH g) QbH b) QbH d) QbH s)
  (n:Nat) (h:I n s) :
  codeAny Qal A (.compLoop (.ListComp elt [⟨target,iter,ifs,0⟩] scope pos) 0 it acc env) R s:=by
 refine codeAny_loop rfl I (λn s q=>?_) n h;refine wpAny_noted ?_;rw[compTurn_list];refine i8 (FV (i8 (nq (turn n s q) (λr d j=>?_) λ_ _ h'=>h'.elim)));cases r with
 | none=>exact kX j
 | some v=>
  refine i8 (nq j (λ_ b k=>?_) λ_ _ h'=>h'.elim);refine i8 (nq k (λ_ g p=>i8 (nq p (λok a i=>?_) λ_ _ h'=>h'.elim)) λ_ _ h'=>h'.elim);cases ok with
  | false=>exact kX ⟨rfl,i⟩
  | true=>
   exact i8 (i8 (nq i (λx f o=>i8 (nq o (λ_ e l=>kX (kX ⟨rfl,l⟩)) λ_ _ h'=>h'.elim)) λ_ _ h'=>h'.elim))
abbrev _root_.DA:=List (Str×NameKind)
noncomputable def eY(env:Env):DA->List QeN->List QeN
 | [],cs=>cs
 | (n,k)::r,cs=>eY env r (if k == .free then(n,(env.cells.lookup n).getD 0)::cs else cs)
theorem mR(h:∀x∈scope.names,x.2=.free->∃c,env.cells.lookup x.1=some c):closureFor scope env=pure (eY env scope.names []):=by
 have go:∀(l:List _) (cs:List _),(∀x∈l,x.2=.free->∃c,env.cells.lookup x.1=some c) →
   (forIn l cs λx r=>match x with|(name,kind)=>if (kind==NameKind.free)=true then do let a ← cellOf env name;pure (ForInStep.yield ((name,a)::r)) else pure Qjw:Sem _)=pure (eY env l cs):=by
  intro l
  induction l with
  | nil=>intro cs _;rfl
  | cons x r f=>
   intro cs d;obtain⟨n,k⟩:=x;rw[List.forIn_cons];by_cases j:k=.free
   .subst j;obtain⟨c,g⟩:=d _ gj rfl;have e:cellOf env n=pure c:=by unfold cellOf;rw[g]
    simp only[yl,oy,e,pure_bind];rw[f _ λy b=>d y (i4 _ b)];simp[eY,oy];rw[g];rfl
   .have i:(k==NameKind.free)=false:=by grind
    simp only[i,n6,n4,pure_bind];rw[f _ λy b=>d y (i4 _ b)];simp[eY,i,n6,n4]
 unfold closureFor;have:=go _ [] h;simp only[bind_pure]at this ⊢;exact this
theorem tK{env:Env}:∀{l:DA} {cs:List QeN} {y:Str} {c:Addr},(∀x∈l,x.2=.free->∃c,env.cells.lookup x.1=some c)->(∀y c,cs.lookup y=some c->env.cells.lookup y=some c) →
  (eY env l cs).lookup y=some c->env.cells.lookup y=some c
 | [],cs,y,c,_,h,e=>h y c e
 | (n,k)::r,cs,y,c,a,h,e=>by
  refine tK (λz hz=>a z QcH) (λz d hz=>?_) e;by_cases b:k=.free
  .subst b;obtain⟨g,f⟩:=a _ gj rfl;grind
  simp_all
theorem C9{env:Env}{y:Str}:∀{l:DA} {cs:List QeN},(∃c,cs.lookup y=some c)->∃c,(eY env l cs).lookup y=some c
 | [],cs,h=>h
 | (n,k)::r,cs,h=>by
  refine C9 (l:=r) ?_;by_cases a:(k==NameKind.free)=true
  .rw[di a,mf];by_cases b:(y==n)=true
   .rw[b];simp_all
   .have:(y==n)=false:=by simp_all
    rw[this];exact h
  .rw[cq a];exact h
theorem pM{env:Env}{y:Str}:∀{l:DA} {cs:List QeN},l.lookup y=some .free->∃c,(eY env l cs).lookup y=some c
 | [],_,h=>by simp at h
 | (n,k)::r,cs,h=>by
  rw[mf]at h;by_cases a:(y==n)=true
  .refine C9 (l:=r) ?_;simp_all
  .have:(y==n)=false:=by simp_all
   rw[this]at h;exact pM (l:=r) h
def cO(X:Cx)(scope:Scope)(Nc:At)(C:Addr)(s:Qb)(H:Hp)(fp:BN):Cx where
 prog:=X.prog
 w:=X.w
 K:=X.K
 mg:=X.mg
 base:=X.base
 A:=X.A
 N:=Nc
 j1:=s
 nk:=H
 env:=compEnvC scope QbD C X.env
 outer:=X.stack
 stack:=X.stack
 ex:=fp
 fn:=λ_=>false
 calm:=X.calm
 pn:=[]
 xe:=λ_ _=>False
abbrev _root_.CO:=List Nat
structure fN(X:Cx)(scope:Scope)(x:Str)(Nc:At)(ix:CO):Prop where
 kind:scope.kind=.function
 BV:∀y∈scope.names,y.2 ≠ .cell
 nd:Nc.Nodup
 names:∀y∈scope.names,y.2=.local->scope.names.lookup y.1=some .local
 own:scope.names.lookup x=some .local
 frees:∀y∈scope.names,y.2=.free->scope.names.lookup y.1=some .free/\Qkx
 hd:Nc=x::ix.filterMap (X.N[·]?)
 sr:∀i∈ix,∃y,X.N[i]? = some y/\scope.names.lookup y=some .free
theorem jq{env:Env}:∀{names:DA} {x:Str} {k:NameKind},names.lookup x=some k ->
  (names.map λ(n,k)=>if (k==NameKind.free&&env.scope.kind == .function&&env.kindOf n==some .cell) then(n,NameKind.cell) else(n,k)).lookup x=some (if (k==NameKind.free&&env.scope.kind == .function&&env.kindOf x==some .cell) then .cell else k)
 | [],_,_,h=>by simp at h
 | (n,b)::r,x,k,h=>by
  have c:=@jq env r x k;show List.lookup x (QjU::_)=_;cases a:x==n with
  | true=>
   simp[mf,a]at h;cases h;have e:x=n:=by grind
   subst e;split<;>simp
  | false=>
   simp[mf,a]at h;split
   .simp only[mf,a];exact c h
   .simp only[mf,a];exact c h
theorem oB{env:Env}:∀{names:DA} {x:Str},names.lookup x=none ->
  (names.map λ(n,k)=>if (k==NameKind.free&&env.scope.kind == .function&&env.kindOf n==some .cell) then(n,NameKind.cell) else(n,k)).lookup x=none
 | [],_,_=>rfl
 | (n,b)::r,x,h=>by
  have c:=@oB env r x;show List.lookup x (QjU::_)=_;cases a:x==n with
  | true=>simp only[mf,a]at h;cases h
  | false=>
   simp only[mf,a]at h;split
   .simp only[mf,a];exact c h
   .simp only[mf,a];exact c h
variable{Nc:At}{ix:CO}{pins:BM}
noncomputable def yM(σ:L2.St)(ix:CO)(o:Qcv):L2.St:=o::ix.map λi=>(σ[i]?).getD none
theorem Xq{l:BM}{σ':L2.St}{s':Qb}{f:Heap}(I:QE)(i:∀b∈fp,oE X pins H b)
  (J:Inv QkP l σ' H' s') (hs:Heap.SameBut s.heap.objs.size s'.heap f):Inv X pins σ H' {s' with heap:=f}:=by
 have un:Un (U5 X.stack) fp H H' s.heap _:=J.base;have j:Un (U5 X.stack) fp H H' s.heap f:=by
  have ne:∀b o,s.heap.get? b=some o->b≠s.heap.objs.size:=λb o e=>ll (km e);refine⟨λb o e n a h=>(hs.2 b (ne b o e)).trans (un.keep b o e n a h),λb o e n a h=>?_,un.free,λb o e h=>?_,un.BK,un.gU,un.BL⟩
  .obtain⟨sl,q⟩:=un.slot b o e n a h;exact⟨sl,(hs.2 b (ne b o e)).trans q⟩
  .obtain⟨o',q⟩:=un.there b o e h;exact⟨o',(hs.2 b (ne b o e)).trans q⟩
 have m:H' s.heap.objs.size=none:=J.free;have fQ:=λb u e=>by
  refine(J.fQ b u e).DF (λc v r q=>(hs.2 c ?_).trans q) Qdc λ_ _ q=>q;rintro rfl;grind
 obtain⟨p,g,d,t,k⟩:=s';obtain rfl:k=s.os:=J.os;exact I.call j fQ J.bare λb a=>⟨(i b a).2.2.2.1,(i b a).2.1,(i b a).2.2.2.2.1,(i b a).2.2.2.2.2⟩
def JE(X:Cx):CU->TT
 | []=>λ_ H Q=>Q true H
 | [c]=>FF X c
 | _=>λ_ _ _=>False
def aaU(I:QE)(h:JE X ifs σ H Q)(a:X.xe=λ_ _=>False) :
  wpAny Qu X.A (forIn ifs true λc r=>if r=true then do let ok ← isTrue c X.env (eval c X.env);pure (ForInStep.yield ok) else pure Qjw) QeE QbH s:=by
 match ifs,h with
 | [],h=>exact wpAny_tests_nil ⟨H,I,h⟩
 | [c],h=>
  have:=h pins s I;rw[a]at this;exact wpAny_tests_one this
def Lm(X:Cx)(CL:BC)(b:Bx)(ifs:CU)(δ:BB)(p:Bool):Prop:=
 match ifs with
 | []=>p=true
 | [c]=>wX X CL b c δ p δ
 | _=>False
theorem Lm.sem(h:Lm X CL b ifs δ p)(S:bH X.K CL b H Z δ σ [] [])
  (k:∀H' Z',aB Z Z'->aB H H'->bH X.K CL b H' Z' δ σ [] []->Q p H'):JE X ifs σ H Q:=by
 match ifs,h with
 | [],h=>
  have e:=h;subst e;exact k H Z Qr Qr S
 | [c],h=>exact(h) H Z σ [] [] Q S k
def wY:(T.lst ts).clean=T.dH ts:=rfl
theorem ER{g:D->T}:∀{ds:BA},(∀d∈ds,(g d).clean=true)->T.dH (ds.map g)=true
 | [],_=>rfl
 | d::ds,h=>by
  rw[js,T.dH,h d gj,ER λe he=>h e Qec];rfl
theorem aU.at:∀{tl:B2} {us:BY} {fp:BN} {j:Nat} {t:T},aU K CL H Z tl us fp->tl[j]? = some t->∃v f1 f2 b,us[j]? = some v/\fp=f1++(f2++b)/\bL K CL H Z t v f2 ∧
  ∀{H':Hp} {t':T} {v':V} {g:BN},(∀a∈f1++b,H' a=H a)->bL K CL H' Z t' v' g->aU K CL H' Z (tl.set j t') (us.set j v') (f1++(g++b))
 | _,_,_,_,_,.nil,e=>by simp at e
 | _,_,_,0,_,.cons (fp:=fp) (gp:=gp) r q,e=>by
  simp at e;subst e;exact⟨_,[],fp,gp,rfl,rfl,r,λ{H' t' v' g} k c=>aU.cons (fp:=g) c (aU.mono Qr (λa d=>k a (‹_›)) q)⟩
 | _,_,_,j+1,t,.cons (fp:=fp) r q,e=>by
  obtain⟨v,f1,f2,b,h1,h2,h,f⟩:=aU.at q (‹_›);refine⟨v,fp++f1,f2,b,‹_›,WE,h,λk c=>?_⟩;rw[jc];exact .cons (r.mono Qr λa d=>k a (by simp[d])) (f (λa d=>k a WE) c)
variable{α:Type}
theorem ig{l:QR}{x:α}(h:l[i]? = some x):l.set i x=l:=by
 apply we;intro j;rw[List.getElem?_set];split
 .rename_i e;subst e;split
  .exact h.symm
  grind
 .rfl
variable{gp:BN}
theorem bH.write{f1 f2 d g f:BN}(S:Qap)(nd:(QeS++gp).Nodup)(own:∀c∈QeS++gp,Z c=none/\b.B c=none)(k:a∈f2)
  (m:∃o,H a=some o) (l:fZ K CL (upd H a Qa2) Z δ2 σ (f1++(g++d))) (j:aU K CL (upd H a Qa2) Z tl us f) (pm:((f1++(g++d))++f).Nodup) (sub:∀c∈(f1++(g++d))++f,c∈QeS++gp) :
  bH K CL b (upd H a Qa2) Z δ2 σ tl us:=by
 have h:=own a (by simp[k]);refine⟨⟨_,_,l,j,pm,λc e=>own c (sub c e)⟩,λc o q=>?_,S.zz,λc o q=>?_,S.new,λc o q i=>?_,S.tab⟩
 .rw[au (aO q h.2)];exact S.bh c o q
 .rw[au (aO q h.1)];exact S.zh c o q
 .by_cases e:c=a
  .subst e;rw[aW]at q;cases q;cases i
  .rw[au e]at q;exact S.tp c o q i
theorem bH.append(S:Qci)(hi:δ[i]? = some QhX) :
  ∃a us,σ[i]? = some (some Qan)/\H a=some QcE/\us.length=tl.length/\bH K CL b (upd H a (.lst (us++[v]))) Z (δ.set i (some QfI)) σ ts vs:=by
 obtain⟨fp,gp,e,r,nd,k⟩:=S.rep;obtain⟨v0,f1,f2,l,hv,o,rt,put,_⟩:=e.get hi;subst o;obtain⟨a,us,g,rfl,rfl,n,rs⟩:=rt.gV;cases r with
 | @cons _ _ _ _ j f s q=>
  have ne:∀c∈(f1++(g++l))++(j++f),c≠a:=λc d e=>by
   subst e;have m:((f1++((c::g)++l))++(j++f)).Perm (c::((f1++(g++l))++(j++f))):=by simp
   exact(nP.1 (m.nodup_iff.1 nd)).1 d
  refine⟨a,us,hv,n,rs.length.symm,?_⟩;have p:bL K CL _ Z _ Qan _:=
   .lst aW (aU.app (rs.mono Qr λc d=>au (ne c (by simp[d]))) (.cons (s.mono Qr λc d=>au (ne c (by simp[d]))) .nil))
  have e2:=put Qr (λc d=>au (ne c (by
   obtain h|h:=gY.1 d
   .simp[h]
   .simp[h]))) p
  rw[ig hv]at e2;have m:((f1++((a::(g++(j++[])))++l))++f).Perm ((f1++((a::g)++l))++(j++f)):=by
   simp only[j2,mT,jc];refine ub f1 (List.Perm.cons a (ub g ?_));rw[← jc,← jc];exact nt.append_right f
  exact S.write nd k (gj) ⟨_,n⟩ e2 (q.mono Qr λc d=>au (ne c (by simp[d]))) (m.nodup_iff.2 nd) λc d=>m.mem_iff.1 d
section
variable{tl0:B2}{D:gA}{pp pa pb:Pos}
def alj(i:Nat)(h0:δ[i]? = some (some (.lst tl0)))(h:QaL)(h1:δ1[i]? = some QhX)(o:tl.length<sizeLine)(k:D.nx (δ1.set i (some QfI)))
  (hi:X.N[i]? = some x:=by rfl) (hv:uK X.env.scope x:=by first|exact Or.inl rfl|exact Or.inr (Or.inl rfl)|exact Or.inr (Or.inr rfl)) (hd:AD x:=by decide) (kN:AE x:=by decide)
  (l:Qj6:=by rfl)
  (g:AB X pb e:=by rfl)
  (c:Qfl:=by rfl) (hs:Qad:=by exact bq rfl) (s:QkN:=by rfl) :
  Rl X CL b (.Expr Qh5 pos) δ D:=λH Z σ ts vs E S M=>
 r9 (zZ (JB He PySem.F.slot_list_append PySem.F.type_list_append BR QhH QaF l g c hs rfl) s) (by
  obtain⟨v0,e0,j⟩:=S.look h0;refine⟨v0,e0,?_,?_⟩
  .obtain⟨_,_,rfl,n,_⟩:=j.gV;exact .inl ⟨rfl,_,n⟩
  .refine h H Z σ ts vs _ S λv H1 Z1 f k1 r=>?_;obtain⟨a,us,d,p,m,q⟩:=r.append h1;rw[e0]at d;cases d;exact⟨a,us,v,rfl,rfl,p,m▸o,M.nx _ σ _ Z1 f q k⟩)
end
def RP:Option ES->ES
 | some (some t)=>some (.sh t.gT)
 | _=>none
noncomputable def vb:Option ES->ES
 | some (some (T.sh d))=>some (.sh d)
 | _=>none
def EV(δ:BB)(ix:CO):BB:=ix.map λi=>RP δ[i]?
def BX(δ:BB)(ix:CO):BB:=ix.map λi=>vb δ[i]?
theorem Ae(S:Qap):∀(ix:CO) (H':Hp),fZ K CL H' H (EV δ ix) (ix.map λi=>(σ[i]?).getD none) []
 | [],_=>.nil
 | i::r,H'=>by
  have a:=Ae S r H';show fZ K CL H' H (RP _::EV δ r) (((σ[i]?).getD none)::r.map _) [];cases e:δ[i]? with
  | none=>exact .skip a
  | some o=>
   cases o with
   | none=>exact .skip a
   | some t=>
    obtain⟨v,hv,c⟩:=S.look e;rw[hv];exact .cons (.sh c) a
theorem EW(S:Qap):∀(ix:CO) (H':Hp),fZ K CL H' Z (BX δ ix) (ix.map λi=>(σ[i]?).getD none) []
 | [],_=>.nil
 | i::r,H'=>by
  have a:=EW S r H';show fZ K CL H' Z (vb _::BX δ r) (((σ[i]?).getD none)::r.map _) [];cases e:δ[i]? with
  | none=>exact .skip a
  | some o=>
   cases o with
   | none=>exact .skip a
   | some t=>
    cases t with
    | sh d=>
     obtain⟨v,hv,c⟩:=S.Vm e;rw[hv];exact .cons (.sh c) a
    | tup _=>exact .skip a
    | lst _=>exact .skip a
    | ins _ _=>exact .skip a
    | qw _=>exact .skip a
    | dct _=>exact .skip a
    | pin _ _=>exact .skip a
    | DI _ _ _=>exact .skip a
section
variable{ds:BA}
structure Comes(X:Cx)(CL:BC)(b:Bx)(δ1:BB)(σ:L2.St)(ts:B2)(vs:BY)(Z H:Hp)(ds:BA)(J:It)(H1:Hp):Prop where
 ex:∃Z1 us,aB Z Z1/\aB H H1/\bH X.K CL b H1 Z1 δ1 σ ts vs/\ay X.K CL Z1 ds us/\(∀i H2,aB Z1 H2->i<ds.length->J.go i H2) ∧
  (∀i H2 x H',aB Z1 H2->i<ds.length->J.o6 i H2 x H'->H'=H2/\us[i]? = some x)/\(∀H2,aB Z1 H2->J.stop ds.length H2)
def Xr(X:Cx)(CL:BC)(b:Bx)(tg e:Expr)(δ:BB)(ds:BA)(δ1:BB):Prop:=
 ∃a,PI X tg e a/\∀(H Z:Hp) (σ:L2.St) (ts:B2) (vs:BY) (R:QfQ),bH X.K CL b H Z δ σ ts vs->(∀J H1,Comes X CL b δ1 σ ts vs Z H ds J H1->R J H1)->a σ H R
theorem dm{tg:Expr}(h:cL X CL b iter δ (.sh Qdq) δ1):Xr X CL b tg iter δ ds δ1:=by
 refine⟨_,U9 dQ,λH Z σ ts vs R S k=>h H Z σ ts vs _ S λv H1 Z1 g k1 e=>?_⟩;obtain⟨fp,gp,_,r,_,_⟩:=e.rep;cases r with
 | cons r _=>
  replace r:=r.KD;obtain⟨rfl,r⟩:=r;obtain⟨a,us,rfl,c,d⟩:=r.gV;refine⟨a,rfl,⟨us,e.zh.seq c⟩,k _ _ ⟨Z1,us,g,k1,e.pop,d,λi H2 s hi=>?_,λi H2 y H' s hi f=>⟨f.1,f.2 us (s.seq c)⟩,λH2 s=>⟨us,s.seq c,by rw[d.length];grind⟩⟩⟩;have j:=d.length▸hi;exact⟨us,us[i],s.seq c,WA⟩
theorem EX{tg:Expr}(h:cL X CL b iter δ (.sh Qb6) δ1):Xr X CL b tg iter δ ds δ1:=by
 refine⟨_,akG dQ,λH Z σ ts vs R S k=>h H Z σ ts vs _ S λv H1 Z1 g k1 e=>?_⟩;obtain⟨fp,gp,_,r,_,_⟩:=e.rep;cases r with
 | cons r _=>
  replace r:=r.KD;obtain⟨rfl,r⟩:=r;obtain⟨a,us,rfl,c,d⟩:=r.Rf;refine⟨a,rfl,⟨us,aB.pf e.zh c⟩,k _ _ ⟨Z1,us,g,k1,e.pop,d,λi H2 s hi=>?_,λi H2 y H' s hi f=>⟨f.1,f.2 us (aB.pf s c)⟩,λH2 s=>⟨us,aB.pf s c,by rw[d.length];grind⟩⟩⟩;have j:=d.length▸hi;exact⟨us,us[i],aB.pf s c,WA⟩
noncomputable def d9(lo:Int)(n:Nat):BA:=(List.range n).map λ(i:Nat)=>D.int (lo+i)
def N8(lo:Int)(n:Nat):ay K CL Z (d9 lo n) ((List.range n).map λ(i:Nat)=>V.int (lo+i)):=by
 unfold d9;generalize List.range n=l
 induction l with
 | nil=>exact .nil
 | cons i r a=>exact .cons Qbx a
theorem pN{tg:Expr}{pr pc:Pos}{n:Int}(hm:Qc8)(h:dR X CL b iter δ (.int n) δ1)(c:-(2 ^ 62)<=n/\n<2 ^ 62)(f:Qdi)(e:starEach [iter] X.env=[(false,eval iter X.env)]:=by rfl)(l:AC X iter []:=by exact bq rfl) :
  Xr X CL b tg (.Call Qgg [iter] [] pc) δ (d9 0 n.toNat) δ1:=by
 refine⟨_,Jw f hm (bZ dQ dW l) e,λH Z σ ts vs R S k=>h H Z σ ts vs _ S λv H1 Z1 d k1 j r=>⟨n,by rw[r.sc rfl],c.1,c.2,k _ _ ⟨Z1,_,d,k1,j,N8 0 _,λi H2 s hi=>?_,λi H2 y H' s hi a=>?_,λH2 s=>?_⟩⟩⟩
 .show i<n.toNat;have:(d9 0 n.toNat).length=n.toNat:=by simp[d9]
  lia
 .have g:i<n.toNat:=by simpa [d9] using hi
  refine⟨a.1,?_⟩;rw[k4,oT g,a.2];rfl
 .show n.toNat<=(d9 0 _).length;simp[d9]
theorem Xs{tg:Expr}{pr pc:Pos}{m n:Int}(hm:Qc8)(h1:dR X CL b e1 δ (.int m) δ1)(h2:dR X CL b e2 δ1 Qex δ2)(j:-(2 ^ 62)<=m/\m<2 ^ 62 /\ -(2 ^ 62)<=n/\n<2 ^ 62)(l:Qdi)
  (h:AR X e1 e2:=by rfl) (t:starEach [e2] X.env=[(false,eval e2 X.env)]:=by rfl) (c:Qh7:=by rfl) (a:AC X e2 []:=by rfl) :
  Xr X CL b tg (.Call Qgg [e1,e2] [] pc) δ (d9 m (n-m).toNat) δ2:=by
 refine⟨_,W9 l hm (bZ dQ (bZ dQ dW a) c) h t,λH Z σ ts vs R S k=>h1 H Z σ ts vs _ S λv H1 Z1 f k1 q r=>h2 H1 Z1 σ ts vs _ q λv2 H2 Z2 e k2 p g=>⟨m,n,by rw[r.sc rfl,g.sc rfl],j,k _ _ ⟨Z2,_,f.trans e,k1.trans k2,p,N8 m _,λi H2 s hi=>?_,λi H2 y H' s hi d=>?_,λH2 s=>?_⟩⟩⟩
 .show i<(n-m).toNat;have:(d9 m (n-m).toNat).length=(n-m).toNat:=by simp[d9]
  lia
 .have o:i<(n-m).toNat:=by simpa [d9] using hi
  refine⟨d.1,?_⟩;rw[k4,oT o,d.2];rfl
 .show(n-m).toNat<=(d9 m _).length;simp[d9]
theorem alm{D:gA}{gP:Co}(i:Nat){pos':Pos}(P:QfM)(h:Xr X CL b QdB iter δ ds δ1)(h0:P 0 δ1)(B:∀j δ,P j δ->i<δ.length)
  (hs:∀j d δ,ds[j]? = some d->P j δ->fh X CL b gP (δ.set i Qb0) {nx:=P QA,rt:=D.rt,bk:=D.nx,ct:=P QA}) (hd:∀δ,P ds.length δ->D.nx δ)
  (z:QgR) (C:QaK) (F:QbP) (hi:X.N[i]? = some x) (q:Qc7) (hf:AM X x) (u:Qca:=by intro _;rfl) :
  Rl X CL b (.For QdB iter gP [] pos) δ D:=λH Z σ ts vs E S M=>by
 obtain⟨L,pi,hw⟩:=h;refine r9 (aae z C pi (tD F hi q hf) ZG u) (hw H Z σ ts vs _ S λJ H1 zz=>?_);obtain⟨Z1,us,f,k1,I,o,go,n,st⟩:=zz;refine⟨λj m σ H2=>m=ds.length-j/\j<=ds.length/\∃Z2 δ2,aB Z1 Z2/\bH X.K CL b H2 Z2 δ2 σ ts vs/\P j δ2,⟨_,rfl,kn _,Z1,δ1,.refl _,I,h0⟩,?_⟩;rintro j m σ H2 ⟨rfl,O,Z2,δ2,s,c,p2⟩;by_cases g:j<ds.length
 .refine .inr ⟨go j H2 QfR g,_,λσ' H' h=>⟨ _,We,rfl,g,h⟩,λy H' p=>?_⟩;obtain⟨e,r⟩:=n j H2 y H' QfR g p;subst e;obtain⟨d,l,rd⟩:=o.Xn r;have G:=(c.push (rd.mono s)).set (B j δ2 p2);exact hs j d δ2 l p2 _ Z2 _ ts vs _ G ⟨λδ' σ' H' Z' s' a k=>⟨Z',δ',s.trans s',a,k⟩,λt v H' Z' δ' σ' s' a k=>M.rt t v H' Z' δ' σ' (f.trans (s.trans s')) a k,λδ' σ' H' Z' s' a k=>M.nx δ' σ' H' Z' (f.trans (s.trans s')) a k,λδ' σ' H' Z' s' a k=>⟨Z',δ',s.trans s',a,k⟩⟩
 .have e:j=ds.length:=by lia
  subst e;exact .inl ⟨st H2 QfR,M.nx δ2 σ H2 Z2 (f.trans s) c (hd δ2 p2)⟩
def Block(X:Cx)(CL:BC)(scope:Scope)(Nc:At)(ifs:CU)(elt:Expr)(δc:BB)(ds:BA)(p:D->Bool)(g:D->T):Prop:=
 ∀C s0 b f0 a d,d∈ds->Lm (cO X scope Nc C s0 b f0) CL a ifs QfA (p d)/\(p d=true->cL (cO X scope Nc C s0 b f0) CL a elt QfA (g d) QfA)
variable{δc:BB}{p:D->Bool}{g:D->T}
end
def EY(sc:QeC)(I:Qbb):closureFor scope X.env=pure QbD:=
 mR λy a e=>I.ok.has y.1 (sc.frees y a e).2
variable{n:Nat}
def JH(h:Nat.ble n 1000=true):n<=sizeLine:=ml (cV (jj h))
structure Vn(X:Cx)(i:Nat)(x:Str):Prop where
 hi:X.N[i]? = some x
 hv:uK X.env.scope x
 hd:(x==("__debug__":Str))=false
 kN:(x==("__classdict__":Str))=false
structure Ln(X:Cx)(i:Nat)(x:Str):Prop extends Vn X i x where
 loc:Loc X.env.scope x
 hf:X.fn x=true\/X.env.scope.names.lookup x=some .local
structure Gx(X:Cx):Prop where
 nd:X.N.Nodup
 calm:X.calm=true
 xe:PassesOwn Qu X.A X.env X.xe
structure Fc(X:Cx)(CL:BC)(x:Str)(k n:Nat){A:Type}(arg:Qak)(Pre:Q1)(res:Qaa):Prop where
 ex:∃f fd ps,fj X.prog X.w X.K X.mg X.base lR k f fd ps QiY/\X.mg x=some Q3/\keepIn X.K Q3=true/\Binds X.K fd ps []
 room:eG k X.A
section
variable{d:L3.D}{pp:Pos}{D:gA}{gP:Co}{ds:BA}
def v_(n:QaY)(h:δ[i]? = some Qb0:=by rfl):cL X CL b Qav δ (.sh d) δ:=ala i n.hi n.hv n.hd n.kN h
def vM(n:QaY)(h:δ[i]? = some Qar:=by rfl):cL X CL b Qav δ t (δ.set i none):=afL i n.hi n.hv n.hd n.kN h
def vB(n:QaY)(h:δ[i]? = some Qar:=by rfl):dR X CL b Qav δ t.gT δ:=alb i n.hi n.hv n.hd n.kN h
def gW(h:dR X CL b e δ (.int k) δ1):cL X CL b (.UnaryOp .USub e pos) δ (.sh (.int (-k))) δ1:=λH Z σ ts vs Q S kk=>
 cI (aph akN dQ) (h H Z σ ts vs _ S λv H1 Z1 a k1 c r=>⟨k,r.sc rfl,kk _ H1 Z1 a k1 (c.push Qbx)⟩)
def vL(n:QaY)(h:δ[i]? = some (some (.lst Qa7)):=by rfl):dR X CL b Qav δ (.lst ds) δ:=by
 have:=vB (CL:=CL) (b:=b) (pos:=pos) n h
 rwa [T.gT,mQ]at this
def c_{k:Nat}{A:Type}{arg:Qak}{Pre:Q1}{res:Qaa}(a:A)(F:Qfm)(i:Qao)(h:QgO)(d:Pre a)(j:QdO)(g:QbS:=by rfl)
  (c:AD x:=by decide) (he:Qaf:=by exact bq rfl) (hpl:Qaw:=by rfl) :
  cL X CL b Qbs δ (res a) δ1:=by
 obtain⟨f,fd,ps,l,m,k,b⟩:=F.ex;exact afN a l F.room m k b h g d j i c he hpl
def cF{k:Nat}{A:Type}{arg:Qak}{Pre:Q1}{res:Qaa}(a:A)(F:Qfm)(i:Qao)(h:Qgw)(d:Pre a)(g:QbS:=by rfl)
  (c:AD x:=by decide) (he:Qaf:=by exact bq rfl) (hpl:Qaw:=by rfl) :
  cL X CL b Qbs δ (res a) δ1:=by
 obtain⟨f,fd,ps,j,m,k,b⟩:=F.ex;exact aaR a j F.room m k b h g d i c he hpl
def aM{pos':Pos}(g:Gx X)(n:QbT)(h:QaL)(k:fh X CL b gP (δ1.set i Qar) D)(a:QbB:=by exact jj rfl)(hs:Qfb:=by rfl) :
  fh X CL b (.Assign [.Name x pos'] e pos::gP) δ D:=cN (aaT i h k a g.nd n.hi n.loc hs n.hf)
def bB(h:QaL)(k:D.rt t δ1):fh X CL b (.Return (some e) pos::gP) δ D:=cN (alh h k)
def fq{a c:Co}(h:QbW)(h1:p=true->fh X CL b a δ1 {D with nx:=λδ2=>fh X CL b gP δ2 D})(h2:p=false->fh X CL b c δ1 {D with nx:=λδ2=>fh X CL b gP δ2 D}):fh X CL b (.If e a c pos::gP) δ D:=cN (apI h h1 h2)
theorem fh.to{D':gA}(h:fh X CL b gP δ D')(h1:∀δ,D'.nx δ->D.nx δ)(h2:∀t δ,D'.rt t δ->D.rt t δ)(c:∀δ,D'.bk δ->D.bk δ)(a:∀δ,D'.ct δ->D.ct δ):fh X CL b gP δ D:=λH Z σ ts vs E S M=>h H Z σ ts vs E S (M.to h1 h2 c a)
def yi{a c:Co}(J:BB->Prop)(h:QbW)(h1:p=true->fh X CL b a δ1 {D with nx:=J})(h2:p=false->fh X CL b c δ1 {D with nx:=J})(k:∀δ2,J δ2->fh X CL b gP δ2 D):fh X CL b (.If e a c pos::gP) δ D:=
 fq h (λd=>fh.to (h1 d) k (λ_ _ q=>q) Qdc Qdc) (λd=>fh.to (h2 d) k (λ_ _ q=>q) Qdc Qdc)
def gK{body:Co}{pos':Pos}(g:Gx X)(n:QbT)(P:QfM)(h:Xr X CL b QdB e δ ds δ1)(h0:P 0 δ1)(c:∀j δ,P j δ->i<δ.length)
  (hs:∀j d δ,ds[j]? = some d->P j δ->fh X CL b body (δ.set i Qb0) {nx:=P QA,rt:=D.rt,bk:=λδ2=>fh X CL b gP δ2 D,ct:=P QA}) (hd:∀δ,P ds.length δ->fh X CL b gP δ D) (a:AN X e:=by intro _;rfl) :
  fh X CL b (.For QdB e body [] pos::gP) δ D:=
 cN (alm i P h h0 c hs hd g.xe g.calm g.nd n.hi n.loc n.hf a)
def vj{o:Qd2}{l:Nat}(h:∃c,swapsWith e o l env=pure c):swapsWith e o l env=pure true\/swapsWith e o l env=pure false:=by
 obtain⟨c,h⟩:=h;cases c
 .exact .inr h
 .exact .inl h
def aaV{C:Addr}(h1:Nc[i]? = some x)(h2:QgL)(hd:AD x:=by decide)(kN:AE x:=by decide):Vn Qa9 i x:=
 ⟨h1,.inl (G1 h2),hd,kN⟩
def aln{C:Addr}(h1:Nc[i]? = some x)(h2:QiJ)(hd:AD x:=by decide)(kN:AE x:=by decide):Vn Qa9 i x:=by
 refine⟨h1,?_,hd,kN⟩;have q:=jq (env:=X.env) h2;show(relabel _ _).names.lookup x=some _\/(relabel _ _).names.lookup x=some _\/(relabel _ _).names.lookup x=some _;rw[show(relabel _ _).names.lookup x=_ from q];split
 .exact .inr Q4
 .exact .inr QaH
def afQ{C:Addr}(h2:Qij):Gl Qa9 x:=by
 have q:=jq (env:=X.env) h2;show(relabel _ _).names.lookup x=some _;rw[show(relabel _ _).names.lookup x=_ from q];rfl
def afR{C:Addr}(g:Gx X)(h:Nc.Nodup):Gx Qa9:=⟨h,g.calm,.never⟩
def jV{C:Addr}{k:Nat}{A:Type}{arg:Qak}{Pre:Q1}{res:Qaa}(F:Qfm):Fc Qa9 CL x k n arg Pre res:=⟨F.ex,F.room⟩
end
def Xu:bootBuiltins "int" = some (.type "int"):=by decide +kernel
def cH:bootBuiltins "list" = some QeH:=by decide +kernel
def Dc:bootBuiltins "tuple" = some (.type "tuple"):=by decide +kernel
noncomputable def N9(sc:Scope)(l:DA):Bool:=l.all λp=>sc.names.lookup p.1==some p.2
def b8{sc:Scope}{l:DA}(h:N9 sc l=true)(i:Nat){k:NameKind}(hi:l[i]? = some (x,k)):sc.names.lookup x=some k:=by
 unfold N9 at h;rw[wd]at h;exact tF.1 (h _ (l6 hi))
inductive FC(X:Cx):CO->At->Prop where
 | nil:FC X [] []
 | cons {i:Nat} {y:Str} {ix:CO} {ys:At} (n:Vn X i y) (k:X.env.kindOf y=some .cell\/X.env.kindOf y=some .free) (r:FC X ix ys):FC X (i::ix) (y::ys)
noncomputable def aaX(scope:Scope)(x:Str)(a:At):Bool:=
 scope.kind == .function&&scope.names.lookup x==some .local&&a.all QkH&&decide ((x::a).Nodup) &&
  scope.names.all λy=>y.2 != .cell&&(y.2 != .local || scope.names.lookup y.1==some .local)&&(y.2 != .free || Qky)
theorem bM{d:At}(c:FC X ix d)(ok:aaX scope x d=true):fN X scope x (x::d) ix:=by
 unfold aaX at ok;simp only[lh,wd,tI,tF]at ok;obtain⟨⟨⟨⟨h1,h2⟩,h⟩,g⟩,b⟩:=ok;have j:∀y∈d,X.env.kindOf y=some .cell\/X.env.kindOf y=some .free:=by
  clear h g b
  induction c with
  | nil=>intro y a;cases a
  | cons n k r f=>
   intro y a;obtain e|a:=fV.1 a
   .subst e;exact k
   simp_all
 refine⟨h1,λy a e=>?_,g,λy a e=>?_,h2,λy a e=>?_,?_,λi hi=>?_⟩
 .have:=(b y a).1.1;rw[e]at this;simp at this
 .have:=(b y a).1.2;rw[e]at this;simpa using this
 .have:=(b y a).2;simp_all
 .congr 1;clear h g b j
  induction c with
  | nil=>rfl
  | cons n k r f=>rw[nH,n.hi,← f]
 .clear g b j
  induction c with
  | nil=>cases hi
  | @cons l y ix ys n k r f=>
   obtain e|hi:=fV.1 hi
   .subst e;exact⟨y,n.hi,h y gj⟩
   .exact f (λz hz=>h z QcH) hi
noncomputable def D.yb:D->Int
 | .int i=>i
 | _=>0
noncomputable def D.toS:D->Str
 | .str x => x
 | _=>Str.empty
theorem f7{bs:AT}(h0:0<=k)(h1:k<bs.length):wV (bs.map D.int) k=some (.int (bs.getD k.toNat 0)):=by
 obtain⟨j,rfl⟩:∃j:Nat,k=j:=⟨k.toNat,We⟩;refine dg ?_;simp_all
theorem b9:∀(bs:AT),D.bR (bs.map D.int)=true
 | []=>rfl
 | i::r=>by rw[js,D.bR,b9 r];rfl
theorem Oa{lo:Int}{d:D}(h:(d9 lo n)[j]? = some d):d=.int (lo+j)/\j<n:=by
 have a:=by
  have:=(kO.1 h).1;simpa [d9] using this
 refine⟨?_,a⟩;unfold d9 at h;rw[k4,oT a]at h;simp_all
def qy(l:QR):l.filter (λ_=>true)=l:=by simp
theorem Ob{K:Frag}{CL:BC}{Z:Hp}:∀(ns:AT),ay K CL Z (ns.map D.int) QbZ
 | []=>.nil
 | n::r=>.cons Qex (Ob r)
mutual
def D.toPy:D->PyData
 | .non=>.none
 | .bl b=>.bool b
 | .int i=>.int i
 | .str x => .str x
 | .tup ds=>.tuple (D.vn ds)
 | .lst ds=>.list (D.vn ds)
 | .ins _ _=>.none
 | .qw _=>.none
 | .dct _=>.none
 | .any=>.none
 | .val _=>.none
 | .DI _ _ _=>.none
def D.vn:BA->List PyData
 | []=>[]
 | d::ds=>d.toPy::D.vn ds
end
inductive yc:Nat->D->Prop where
 | non (n:Nat):yc n .non
 | bl (n:Nat) (b:Bool):yc n (.bl b)
 | int (n:Nat) (i:Int):yc n QaQ
 | str (n:Nat) (x:Str) (h:PyData.strOk x=true):yc n Qbc
 | tup {n:Nat} {ds:BA} (h:∀d∈ds,yc n d):yc (n+1) Qb6
 | lst {n:Nat} {ds:BA} (h:∀d∈ds,yc n d):yc (n+1) Qdq
noncomputable def Rp(a b:D):Bool:=PyData.eqv a.toPy b.toPy
theorem yc.L9{n:Nat}:∀{ds:BA},(∀d∈ds,d.toPy.canLay0=true/\d.toPy.depth<=n)->PyData.canLayAll0 (D.vn ds)=true/\PyData.depthAll (D.vn ds)<=n
 | [],_=>⟨ rfl,kn _ ⟩
 | d::ds,h=>by
  have h1:=h d gj;have h2:=yc.L9 λe he=>h e Qec;rw[D.vn,PyData.canLayAll0,h1.1,h2.1];exact⟨rfl,Nat.max_le.2 ⟨h1.2,h2.2⟩⟩
theorem yc.lay{d:D}(h:yc n d):d.toPy.canLay0=true/\d.toPy.depth<=n:=by
 induction h with
 | non n=>exact⟨ rfl,kn _ ⟩
 | bl n b=>exact⟨ rfl,kn _ ⟩
 | int n i=>exact⟨ rfl,kn _ ⟩
 | str n x c=>exact⟨ ‹_›,kn _ ⟩
 | @tup n ds _ a=>
  have:=yc.L9 a;rw[D.toPy,PyData.canLay0,PyData.depth];simp_all
 | @lst n ds _ a=>
  have:=yc.L9 a;rw[D.toPy,PyData.canLay0,PyData.depth];simp_all
def Oc{d:D}(h:yc n d):Rp d d=true:=SeqAt.eqv_refl _ h.lay.1
def KS(I:Qbb){d:D}{u:Value}(hd:yc n d)(q:bV X.K CL H d v)(r:RelV v u):∃as,Reads s.heap u d.toPy as:=by
 refine bV.rec
  (motive_2:=λds vs _=>∀(n:Nat) (us:List _),(∀d∈ds,yc n d)->Vals vs us->∃as,ReadsAll s.heap us (D.vn ds) as) (motive_3:=λ_ _ _=>True) (motive_4:=λ_ _ _=>True) (motive_5:=λ_ _ _=>True)
  (λ_ _ _ r=>?non) (λb _ _ _ r=>?bl) (λi _ _ _ r=>?int) (λx _ _ _ r=>?str) (λ_ _ _ hd _=>by cases hd) (λ_ _ _ hd _=>by cases hd) (λl _ a n u hd r=>?tup) (λl _ a n u hd r=>?lst) (λ_ _ _ _ _ hd _=>by cases hd) (λ_ _ _ _ _ hd _=>by cases hd) (λ_ _ _ _ _ hd _=>by cases hd) (λ_ _ _ _ _ _ _ hd _=>by cases hd)
  (λ_ _ _ r=>?nil) (λ_ _ a j n us h r=>?cons) trivial Qas trivial Qas trivial Qas q n u hd r
 case non=>cases r;exact⟨[],.none⟩
 case bl=>cases r;exact⟨[],.bool b⟩
 case int=>obtain⟨t,rfl⟩:=r;exact⟨[],.int i t⟩
 case str=>obtain⟨t,rfl⟩:=r;exact⟨[],.str x t⟩
 case tup=>
  cases hd with
  | tup hd=>
   cases r;obtain⟨its,f,⟨o,e,c,k,m⟩,_⟩:=I.tuple l;obtain⟨as,g⟩:=a _ _ hd f;exact⟨as,.tuple e c m (‹_›)⟩
 case lst=>
  cases hd with
  | lst hd=>
   cases r;obtain⟨its,f,⟨o,k,e,c,_,m⟩,_⟩:=I.list l;obtain⟨as,g⟩:=a _ _ hd f;exact⟨_,.list e c m (‹_›)⟩
 case nil=>cases r;exact⟨[],.nil⟩
 case cons=>
  cases r with
  | cons r rs=>
   obtain⟨as,g⟩:=a n _ (h _ gj) r;obtain⟨bs,p⟩:=j n _ (λe he=>h e Qec) rs;exact⟨ _,.cons g p⟩
variable{δ3:BB}{p2 pp:Pos}{gP:Co}{DD:gA}{d1 d2:D}{ds:BA}
theorem alp(k:QeD):z7 X (compareOp .Eq) (λx y H Q=>∃a c,bV X.K CL H a x/\bV X.K CL H c y/\yc 60 a/\yc 60 c/\Q (.bl (Rp a c)) H):=by
 intro pins s σ H x y v u Q I f e h;obtain⟨a,c,g,rc,b,d,q⟩:=h;obtain⟨as,j⟩:=KS I b g f;obtain⟨bs,i⟩:=KS I d rc e;exact SeqAt.rcAt_reads j i b.lay.1 d.lay.1 (by have:=b.lay.2;lia) _ X.w X.xe _ ⟨.bl _,H,I,rfl,q⟩
theorem alq(k:QeD):z7 X (compareOp .NotEq) (λx y H Q=>∃a c,bV X.K CL H a x/\bV X.K CL H c y/\yc 60 a/\yc 60 c/\Q (.bl (!Rp a c)) H):=by
 intro pins s σ H x y v u Q I f e h;obtain⟨a,c,g,rc,b,d,q⟩:=h;obtain⟨as,j⟩:=KS I b g f;obtain⟨bs,i⟩:=KS I d rc e;exact SeqAt.rcNeAt_reads j i b.lay.1 d.lay.1 (by have:=b.lay.2;lia) _ X.w X.xe _ ⟨.bl _,H,I,rfl,q⟩
def RO{op:CmpOp}{f:Bool->Bool}(n:z7 X QhQ (λx y H Q=>∃a c,bV X.K CL H a x/\bV X.K CL H c y/\yc 60 a/\yc 60 c/\Q (.bl (f (Rp a c))) H))(h1:Qfr)(h2:Qfo)(k1:yc 60 d1)(k2:yc 60 d2)
  (hm:behindInMarks op e2=false):wX X CL b QgX δ (f (Rp d1 d2)) δ2/\cL X CL b QgX δ (.sh (.bl (f (Rp d1 d2)))) δ2:=by
 constructor
 .intro H Z σ ts vs Q S k;refine HN (tE n dQ dQ hm) (h1 H Z σ ts vs _ S λv1 H1 Z1 h e m j=>h2 H1 Z1 σ ts vs _ m λv2 H2 Z2 g d l i=>?_);exact⟨d1,d2,j.mono d,i,k1,k2,_,rfl,k H2 Z2 (h.trans g) (e.trans d) l⟩
 .intro H Z σ ts vs Q S k;refine cI (wU n dQ dQ hm) (h1 H Z σ ts vs _ S λv1 H1 Z1 h e m j=>h2 H1 Z1 σ ts vs _ m λv2 H2 Z2 g d l i=>?_);exact⟨d1,d2,j.mono d,i,k1,k2,k _ H2 Z2 (h.trans g) (e.trans d) (l.push (.bl _))⟩
def alr(a:QeD)(h1:Qfr)(h2:Qfo)(k1:yc 60 d1)(k2:yc 60 d2):wX X CL b Qeq δ (Rp d1 d2) δ2/\cL X CL b Qeq δ (.sh (.bl (Rp d1 d2))) δ2:=
 RO (f:=λb=>b) (alp a) h1 h2 k1 k2 (qU _)
def Rq(a:QeD)(h1:Qfr)(h2:Qfo)(k1:yc 60 d1)(k2:yc 60 d2):wX X CL b Qen δ (!Rp d1 d2) δ2/\cL X CL b Qen δ (.sh (.bl (!Rp d1 d2))) δ2:=
 RO (alq a) h1 h2 k1 k2 (qU _)
def cutD(xs:QR)(lo hi:Ch):List α:=(xs.drop (HT.DG xs.length 0 lo)).take Qkl
theorem ay.drop{K:Frag}{Z:Hp}:∀{ds:BA} {vs:BY} (n:Nat),ay K CL Z ds vs->ay K CL Z (ds.drop n) (vs.drop n)
 | _,_,0,r=>r
 | _,_,_+1,.nil=>.nil
 | _,_,n+1,.cons _ t=>ay.drop n t
theorem ay.take{K:Frag}{Z:Hp}:∀{ds:BA} {vs:BY} (n:Nat),ay K CL Z ds vs->ay K CL Z (ds.take n) (vs.take n)
 | _,_,0,_=>.nil
 | _,_,_+1,.nil=>.nil
 | _,_,n+1,.cons r t=>.cons r (ay.take n t)
theorem ay.cut{ds:BA}(r:QeG)(lo hi:Ch):ay K CL Z (cutD ds lo hi) (FA vs lo hi):=by
 unfold cutD FA;rw[r.length];exact(r.drop _).take _
theorem jr:∀{ds:BA},D.bR ds=true->∀d∈ds,d.tG=true
 | [],_,_,h=>by cases h
 | d::ds,k,e,h=>by
  rw[D.bR,lh]at k;obtain h|h:=fV.1 h
  .subst h;exact k.1
  .exact jr k.2 e h
theorem g7:∀{ds:BA},(∀d∈ds,d.tG=true)->D.bR ds=true
 | [],_=>rfl
 | d::ds,h=>by rw[D.bR,h d gj,g7 λe he=>h e Qec];rfl
def Vu{xs:QR}{lo hi:Ch}{x:α}(h:x∈cutD xs lo hi):x∈xs:=List.mem_of_mem_drop (t5 h)
def wM(X:Cx)(CL:BC)(b:Bx)(e:Qd2)(δ:BB)(k:Ch)(δ':BB):Prop:=
 ∃t,PO X e t/\∀(H Z:Hp) (σ:L2.St) (ts:B2) (vs:BY) (Q:Ch->Hp->Prop),bH X.K CL b H Z δ σ ts vs->(∀H' Z',aB Z Z'->aB H H'->bH X.K CL b H' Z' δ' σ ts vs->Q k H')->t σ H Q
def wZ:wM X CL b none δ none δ:=⟨_,Vh,λH Z σ ts vs Q S k=>k H Z Qr Qr S⟩
def tL(h:dR X CL b e δ (.int k) δ1):wM X CL b (some e) δ (some k) δ1:=⟨_,Vi dQ,λH Z σ ts vs Q S kk=>h H Z σ ts vs _ S λv H1 Z1 a k1 c r=>⟨k,r.sc rfl,kk H1 Z1 a k1 c⟩⟩
def vo{lo hi:Qd2}{l h:Ch}(h1:Qck)(g:QbR)(h2:wM X CL b lo δ1 l δ2)(y:wM X CL b hi δ2 h δ3):cL X CL b QkL δ (.lst ((cutD ds l h).map T.sh)) δ3:=λH Z σ ts vs Q S k=>by
 obtain⟨t2,f,s⟩:=h2;obtain⟨t3,a,q⟩:=y;refine cI (NZ Vk dQ f a) (h1 H Z σ ts vs _ S λv H1 Z1 o k1 B r=>s H1 Z1 σ ts vs _ B λH2 Z2 n k2 A=>q H2 Z2 σ ts vs _ A λC Z3 m i j=>?_);have u:=r.mono (k2.trans i);obtain⟨_,_,rfl,w,t⟩:=u.gV;refine⟨_,_,rfl,w,λp x=>?_⟩;have rc:=ay.tG j.tp (g7 λd hd=>jr g d (Vu hd)) (t.cut l h);obtain⟨c,z⟩:=(bH.oA rc j).j8 (g0:=[]) (by simp[rc.length]) x;exact k _ _ _ (o.trans (n.trans m)) (k1.trans (k2.trans (i.trans c))) z
def BZ(hm:X.mg "tuple" = none)(h:Qck)(hi:QbR)(o:Gl X "tuple")(hs:Qad:=by exact bq rfl):cL X CL b QkW δ (.sh Qb6) δ1:=λH Z σ ts vs Q S k=>
 cI (kC yh o hm Dc QaF (he:=hs)) (h H Z σ ts vs _ S λv H1 Z1 j k1 g r=>by
  obtain⟨_,_,rfl,m,d⟩:=r.gV;refine⟨_,_,rfl,.inl ⟨m,λl n=>?_⟩⟩;obtain⟨a,c,p⟩:=(bH.oA (ay.tG g.tp hi d) g).KP (by simp[d.length]) n;obtain⟨Z3,i,f⟩:=p.KH;rw[T.gT,mQ]at f;exact k _ _ Z3 (j.trans (a.trans i)) Qcu f)
def jt{tl0:B2}{pa pb:Pos}(n:QaY)(h0:δ[i]? = some (some (.lst tl0)))(h:QaL)(h1:δ1[i]? = some QhX)(f:tl.length<=1000000)(k:fh X CL b gP (δ1.set i (some QfI)) DD)
  (d:Qj6:=by rfl)
  (c:AB X pb e:=by rfl)
  (a:Qfl:=by rfl) (hs:Qad:=by exact bq rfl) (g:QkN:=by rfl) :
  fh X CL b (.Expr Qh5 pos::gP) δ DD:=
 cN (alj i h0 h h1 (ri f Wp) k n.hi n.hv n.hd n.kN d c a hs g)
def jB(a:ds.length=n)(hm:X.mg "len" = none)(h:Qck)(c:Gl X "len")(hs:Qad:=by exact bq rfl):cL X CL b Qk9 δ (.sh Qex) δ1:=by
 subst a;exact KQ hm h c hs
def bS(h:QiA):dR X CL b e δ (.lst ds) δ1:=by
 have:=SF h
 rwa [T.gT,mQ]at this
def afS{a:BA}(h:QiA)(c:ds=a):dR X CL b e δ (.lst a) δ1:=c▸bS h
theorem fH{f:α->D}{l:QR}(z:α)(h0:0<=k)(h1:k<l.length):wV Qdr k=some (f (l.getD k.toNat z)):=by
 obtain⟨j,rfl⟩:∃j:Nat,k=j:=⟨k.toNat,We⟩;refine dg ?_;simp_all
variable{β:Type}
theorem Af{f:α->β}{l:QR}{lo hi:Ch}:cutD Qdr lo hi=(cutD l lo hi).map f:=by
 unfold cutD;simp_all
noncomputable def KW(l:Bool)(ds:BA):D:=match l with
 | true=>.lst ds
 | false=>.tup ds
theorem dX{α:Type}{f:α->D}(h:∀a,(f a).tG=true):∀(l:QR),D.bR Qdr=true
 | []=>rfl
 | a::l=>by rw[js,D.bR,h a,dX h l];rfl
variable{d:D}
def afT{u:Tok}(hm:X.mg x=some (.int k u))(a:Qao)(hd:AD x:=by decide):cL X CL b Qav δ (.sh (.int k)) δ:=λH Z σ ts vs Q S kk=>
 cI (Ku (v:=.int k) a hm ⟨u,rfl⟩ hd) (kk _ H Z Qr Qr (S.push (.int k)))
def eO(hm:∃u,X.mg x=some (.int k u))(a:Qao)(hd:AD x:=by decide):cL X CL b Qav δ (.sh (.int k)) δ:=by
 obtain⟨u,hm⟩:=hm;exact afT hm a hd
def vE(n:QaY)(h:δ[i]? = some Qar)(e:t.gT=d):dR X CL b Qav δ d δ:=e▸vB n h
theorem Ag(x:Str):∀l:At,vi Qbc QfV=decide Qe4
 | []=>by simp[vi]
 | y::l=>by
  have b:=Ag x l;unfold vi at b ⊢;have e:∀a c,ov (.str a) (.str c)=(a==c):=λ_ _=>rfl;grind
theorem ay.strs{K:Frag}{Z:Hp}:∀{l:At} {vs:BY},ay K CL Z (l.map D.str) vs->vs=l.map V.str
 | [],_,r=>by
  have a:=r;cases a;rfl
 | y::l,_,r=>by
  have a:=r;cases a with
  | cons c b=>rw[c.sc rfl,ay.strs b];rfl
theorem kR:∀l:At,(l.map V.str).all yg=true
 | []=>rfl
 | y::l=>by rw[js,wt,kR l];rfl
def afU(hm:X.mg "int" = none)(h:dR X CL b e δ (.bl p) δ1)(c:Gl X "int")(hs:Qad:=by exact bq rfl):cL X CL b (.Call (.Name "int" pp) [e] [] pos) δ (.sh (.int (if p then 1 else 0))) δ1:=λH Z σ ts vs Q S k=>
 cI (kC Xd c hm Xu QaF (he:=hs)) (h H Z σ ts vs _ S λv H1 Z1 a k1 d r=>.inr ⟨p,by rw[r.sc rfl],k _ H1 Z1 a k1 (d.push Qbx)⟩)
noncomputable def EZ:Expr->Option Str
 | .Constant (.str x) _ _=>some x
 | _=>none
def B3:CU->Option At
 | []=>some []
 | e::es=>(EZ e).bind λx=>(B3 es).map (x::·)
theorem Od(h:EZ e=some x):∃j p,e=.Constant Qbc j p:=by
 unfold EZ at h;split at h
 .cases h;grind
 .cases h
theorem qz:∀{es:CU} {l:At},B3 es=some l->KL X CL b es δ ((l.map D.str).map T.sh) δ
 | [],l,h=>by
  have e:=(l7 h).symm;subst e;exact bA
 | e::es,l,h=>by
  rw[B3]at h;obtain⟨x,a,h⟩:=Option.bind_eq_some_iff.1 h;obtain⟨d,c,rfl⟩:=r0.1 h;obtain⟨j,p,rfl⟩:=Od a;exact aY fS (qz c)
def L1{a:Stmt}(J:BB->Prop)(k:∀δ2,J δ2->fh X CL b gP δ2 DD)(h:(∀δ2,J δ2->fh X CL b gP δ2 DD)->fh X CL b (a::gP) δ DD):fh X CL b (a::gP) δ DD:=h k
theorem aaY(h0:0<=k)(h1:k<n):HB n k=some k.toNat:=by
 unfold HB;simp_all
def qA(l:AT):T.dH ((l.map D.int).map T.sh)=true:=by
 rw[kq]
 induction l with
 | nil=>rfl
 | cons i r a=>rw[js,T.dH,a];rfl
noncomputable def Itv(K:Frag)(a:Addr)(n:Nat):It:=
 ⟨λi H=>i<n/\∃xs,nS K H a xs/\xs.length=n,λi H x H'=>H'=H/\∀xs,nS K H a xs->xs[n-1-i]? = some x,λi _=>i=n⟩
variable{tg:Expr}
theorem aaZ(a it:Addr)(n:Nat):Turn P w K tg (Itv K a n) [it] it (λi h=>PySem.Heap.IsRevIter h it a ((n:Int)-1-(i:Int))) where
 mem:=by simp
 obj:=λi h st b g=>by
  have e:b=it:=by simpa using g
  subst e;obtain⟨o,e,c,d⟩:=st;exact⟨o,e,λv z=>by rw[d]at z;cases z⟩
 keep:=λi h h' st k=>st.at λo e=>k it WA o e
 item:=by
  intro X m hw q B i pins s σ H E I hf st l;subst m hw q;obtain⟨hi,xs,A,O⟩:=l;obtain⟨its,F,p,hz⟩:=I.list A;have y:n-1-i<xs.length:=by lia
  obtain⟨u,L,G⟩:=F.get (ma y);obtain⟨f0,f1,f2,t,f4,r⟩:=hf it WA;have e1:(n:Int)-1-(i:Int)=((n-1-i:Nat):Int):=by lia
  have f:PySem.Heap.IsRevIter s.heap it a ((n-1-i:Nat):Int):=e1▸st;refine PySem.wpAny_pyNext_rev_item f p.isList (x:=u) (by simpa using L) λh' C D=>?_;have N:L2.Inv X pins σ H {s with heap:=h'}:=I.turned (t':=s.toks) (λb o g e=>(D.2 b g).trans e) f0 f1 t f4 r;have e2:((n-1-i:Nat):Int)-1=(n:Int)-1-((i+1:Nat):Int):=by lia
  have j:PySem.Heap.IsRevIter h' it a ((n:Int)-1-((i+1:Nat):Int)):=e2▸C;obtain⟨o,e,c,d⟩:=id C;exact⟨u,rfl,U8 (s:={s with heap:=h'}) e c d Wp ⟨_,H,N,G,⟨rfl,λys J=>by rw[I.EC J A];exact ma y⟩,j,λb g=>(hf b g).1⟩⟩
 done:=by
  intro X m hw q B i pins s σ H E I hf st l;subst m hw q;obtain⟨f0,f1,f2,t,f4,r⟩:=hf it WA;have e1:(n:Int)-1-(i:Int)=-1:=by have:i=n:=l;lia
  have f:PySem.Heap.IsRevIter s.heap it a (-1):=e1▸st;exact PySem.wpAny_pyNext_rev_end (I.ok.hd B) f λh' M=>⟨rfl,I.turned (t':=s.toks) (λb o g e=>M b o g e) f0 f1 t f4 r⟩
 self:=λ_ _ _ _ _ st h=>PySem.wpAny_pyIter_revIter st h
def atV(K:Frag)(ta:TA):TI:=λσ H R=>ta σ H λvs H1=>∃a xs,vs=[.ref a]/\nS K H1 a xs/\R (Itv K a xs.length) H1
theorem alv{a:Expr}{ta:TA}{p:Pos}(k:QhO)(hm:Qht)(n:PA X [a] ta)(hs:AC X a []):PI X tg (.Call (.Name "reversed" p) [a] [] pos) (atV X.K ta):=by
 intro pins s σ H R I h;refine Call_ (qT I k hm boot_reversed (wy (fY QiZ λus s1 zz=>?_) hs rfl));obtain⟨vs,H1,c,g,i⟩:=zz;obtain⟨l,xs,e,j,q⟩:=i;subst e;cases g with
 | cons r f=>
  cases f;cases r;obtain⟨its,d,p,hz⟩:=c.list j;refine PySem.call_reversed_list p.isList ?_;have u:=d.length;have e0:Qi6=xs.length-1-(0:Int):=by grind
  have t:L2.Inv X pins σ H1 {s1 with heap:=s1.heap.push (PySem.revObj l Qi6)}:=c.kept λb o e=>kx _ e;have st:PySem.Heap.IsRevIter (s1.heap.push (PySem.revObj l Qi6)) s1.heap.objs.size l (xs.length-1-(0:Int)):=e0▸⟨_,mv _ rfl,rfl,rfl⟩;refine PySem.wpAny_pyIter_revIter st ?_;refine⟨ _,_,_,_,H1,rfl,t,aaZ l _ _,st,λb m=>?_,q⟩;have e:=by simpa using m
  subst e;exact c.HG (gZ _) Qhq
variable{pr pc:Pos}{ds:BA}
theorem alw(hm:Qht)(h:QgD)(t:QhO)(hs:Qad:=by exact bq rfl):Xr X CL b tg (.Call (.Name "reversed" pr) [e] [] pc) δ ds.reverse δ1:=by
 refine⟨_,alv t hm QaF hs,λH Z σ ts vs R S k=>h H Z σ ts vs _ S λv H1 Z1 m k1 g=>?_⟩;obtain⟨fp,gp,_,r,_,_⟩:=g.rep;cases r with
 | cons r _=>
  replace r:=r.KD;obtain⟨rfl,r⟩:=r;obtain⟨a,us,rfl,c,j⟩:=r.gV;have hlen:=j.length;have f:=by
   have go:∀{ds:BA} {us:BY} {es:BA} {ws:BY},ay X.K CL Z1 ds us->ay X.K CL Z1 es ws->ay X.K CL Z1 (ds.reverse++es) (us.reverse++ws):=by
    intro ds us es ws r
    induction ds generalizing us es ws with
    | nil=>cases r;simp_all
    | cons d ds p=>
     cases r with
     | cons o n=>
      intro q;rw[nc,nc,jc,jc];exact p n (.cons o q)
   simpa using go j .nil
  refine⟨a,us,rfl,g.zh.seq c,k _ _ ⟨Z1,_,m,k1,g.pop,f,λi H2 s hi=>?_,λi H2 y H' s hi l=>?_,λH2 s=>?_⟩⟩
  .rw[t4]at hi;exact⟨We,us,s.seq c,rfl⟩
  .rw[t4]at hi;refine⟨l.1,?_⟩;rw[List.getElem?_reverse We];exact l.2 us (s.seq c)
  .rw[t4];exact hlen
theorem nh.get:∀{fs:Db} {gs:CA} {f:Str} {d:D},nh K CL Z fs gs->fs.lookup f=some d->∃v,gs.lookup f=some v/\bV K CL Z d v
 | _,_,_,_,.nil,e=>by simp at e
 | _,_,f,d,.cons (x:=x) r t,e=>by
  rw[mf]at e ⊢;cases h:f==x with
  | true=>rw[h]at e;grind
  | false=>rw[h]at e;exact nh.get t e
noncomputable def yN(f:Str)(t:T):BS->BS
 | []=>[(f,t)]
 | (g,x)::r=>if g=f then(g,t)::r else(g,x)::yN f t r
theorem dz.length{fs:BS}{gs:CA}(h:dz K CL H Z fs gs fp):fs.length=gs.length:=
 dz.ind (P:=λd v _=>d.length=v.length) rfl Qg1 h
theorem dz.put{f:Str}{g:BN}(q:bL K CL H Z t v g):∀{fs:BS} {gs:CA} {fp:BN},dz K CL H Z fs gs fp →
  ∃b a,dz K CL H Z (yN f t fs) (rX f v gs) b/\a.Sublist fp/\b.Perm (g++a)
 | _,_,_,.nil=>⟨ _,[],.cons q .nil,n7 _,List.Perm.refl _⟩
 | _,_,_,.cons (x:=x) (fp:=fp) (gp:=gp) r rs=>by
  rw[yN,rX];by_cases h:x=f
  .rw[di h,di h];exact⟨ _,gp,.cons q rs,uu _ _,List.Perm.refl _⟩
  .rw[cq h,cq h];obtain⟨p,c,h1,h2,d⟩:=dz.put q rs;refine⟨ _,_,.cons r h1,pE (n7 _) h2,(ub fp d).trans ?_⟩;rw[← jc,← jc];exact nt.append_right c
theorem bH.Rr{e f:BN}(hm:kQ o=false)(S:Qap)(own:∀c∈fp++gp,Z c=none/\b.B c=none)(j:a∈fp++gp)
  (k:fZ K CL QbJ Z δ2 σ e) (h:aU K CL QbJ Z tl us f) (pm:(e++f).Nodup) (sub:∀c∈e++f,c∈fp++gp) :
  bH K CL b QbJ Z δ2 σ tl us:=by
 have g:=own a j;refine⟨⟨_,_,k,h,pm,λc d=>own c (sub c d)⟩,λc u q=>?_,S.zz,λc u q=>?_,S.new,λc u q i=>?_,S.tab⟩
 .rw[au (aO q g.2)];exact S.bh c u q
 .rw[au (aO q g.1)];exact S.zh c u q
 .by_cases d:c=a
  .subst d;rw[aW]at q;grind
  .rw[au d]at q;exact S.tp c u q i
variable{f:Str}{d:D}{fs:Db}
def bN(l:QdV)(n:QhR)(h:dR X CL b e δ (.ins c fs) δ1)(j:fs.lookup f=some d)(m:AS X e f:=by rfl) :
  dR X CL b Qfv δ d δ1:=λH Z σ ts vs Q S k=>
 cI (Q0 dQ m) (h H Z σ ts vs _ S λv H' Z' z s p r=>by
  obtain⟨a,dx,gs,rfl,o,i⟩:=r.HK;obtain⟨w,hw,g⟩:=i.get j;exact⟨a,CL c,dx,gs,w,rfl,o,l,n,hw,k w H' Z' z s p g⟩)
def kT(m:QdV)(n:QhR)(h:cL X CL b e δ (.sh Qbu) δ1)(l:fs.lookup f=some d)(o:AS X e f:=by rfl) :
  cL X CL b Qfv δ (.sh d) δ1:=λH Z σ ts vs Q S k=>
 cI (Q0 dQ o) (h H Z σ ts vs _ S λv H' Z' z s i=>by
  obtain⟨fp,gp,_,r,_,_⟩:=i.rep;cases r with
  | cons r _=>
   replace r:=r.KD;obtain⟨rfl,r⟩:=r;obtain⟨a,dx,gs,rfl,p,j⟩:=r.HK;obtain⟨w,hw,g⟩:=j.get l;exact⟨a,CL c,dx,gs,w,rfl,i.zh _ _ p,m,n,hw,k w H' Z' z s (i.pop.push g)⟩)
def va(K:Frag)(CL:BC){A:Type}(c:Str)(n:Nat)(arg:Qak)(Pre:Q1)(res:A->BS):Sp:=λvs H Q _=>
 ∃(W b:Hp) (a:A) (x dx:Addr) (us:BY),vs=.ref x::us/\b x=none/\b dx=none/\dx≠x/\H=upd (upd b dx Qee) x (.ins (CL c) dx []) ∧
  aB W b/\(∀c o,b c=some o->kQ o=true->W c=some o)/\ay K CL W QbM us/\(arg a).length+1=n/\Pre a/\qV CL W ∧
  ∀H' W' fp,aB b H'->aB W W'->aB W' H'->(∀c o,W' c=some o->W c=none->b c=none)->(∀c o,H' c=some o->kQ o=true->W' c=some o) →
   bL K CL H' W' (.ins c Qce) QcK fp->fp.Nodup->(∀c∈fp,W' c=none/\b c=none)->Q .non H'
section
variable{o:Expr}{apos:Pos}{A:Type}{k:Nat}{f:Addr}{m:Str}{arg:Qak}{Pre:Q1}
def afV{res:A->BS}(a:A)(M:Mk X.K (CL c) f)(F:Qj2)(s:Qf7)(hm:X.mg x=some (.ref (CL c)))(y:Qc3)
  (h:QgO) (u:QhI) (t:Pre a) (B:T.f6 Qce=true) (v:Qao)
  (o:AD x:=by decide) (he:Qaf:=by exact bq rfl) (hpl:Qaw:=by rfl) :
  cL X CL b Qbs δ (.ins c Qce) δ1:=λH Z σ ts vs Q S kk=>
 cI (Ky M F s v hm y .nil u9 HM o he hpl) (h H Z σ ts vs _ S λus H1 Z1 j k1 g r x dx p d ne=>by
  rw[j2];refine⟨H1,H1,a,x,dx,us,rfl,p,d,ne,rfl,.refl _,λ_ _ q _=>q,r,u,t,g.N6,λH' W' fp i ww m nw tp rt nd own=>⟨rfl,?_⟩⟩;obtain⟨Z',l,z⟩:=g.back i g.zh ww m nw tp rt nd own (.inr (‹_›));exact kk _ H' Z' (j.trans l) (k1.trans i) z)
theorem aa0{res:A->BS}(a:A)(M:Mk X.K (CL c) f)(F:Qj2)(r:Qf7)(hm:X.mg x=some (.ref (CL c)))(v:Qc3)
  (h:Qgw) (t:QhI) (s:Pre a) (u:Qao)
  (p:AD x:=by decide) (he:Qaf:=by exact bq rfl) (hpl:Qaw:=by rfl) :
  cL X CL b Qbs δ (.ins c Qce) δ1:=λH Z σ ts vs Q S kk=>
 cI (Ky M F r u hm v .nil u9 HM p he hpl) (h H Z σ ts vs _ S λus H1 Z1 B l k1 g x dx q i ne=>by
  rw[j2];have d:us.length=(arg a).length:=by grind
  have y:=g.drops (by simp[d]);refine⟨Z1,H1,a,x,dx,us,rfl,q,i,ne,rfl,g.zh,g.tp,g.Vs d,t,s,g.Ri,λH' W' fp j ww o nw tp rt nd own=>⟨rfl,?_⟩⟩;obtain⟨Z',m,z⟩:=y.back j Qr ww o nw tp rt nd own Q4;exact kk _ H' Z' (l.trans m) (k1.trans j) z)
def afW{res:Qaa}{fs:Db}{ds:BA}{pl:QcL}(a:A)(N:QdV)(hm:Meth X.K (CL c) m f)(F:Qgh)(D:QbA)(M:Qc3)
  (G:QgP) (hf:QeF) (h:Xo X CL b Qab δ1 ds δ2) (U:arg a=.ins c fs::ds) (J:QbS) (E:Pre a) (L:QdO)
  (he:Qaf:=by exact bq rfl) (hpl:Qaw:=by rfl)
  (C:eval Qer X.env=(do
   let I ← eval o X.env
   standAt apos.atName
   let (f,first) ← holding [I] QdM
   callWith pos f first (backTo pos QcX) Qbp):=by rfl) :
  cL X CL b Qer δ (res a) δ2:=λH Z σ ts vs Q S kk=>
 cI (Vf dQ N hm F D M .nil u9 HM he hpl C) (G H Z σ ts vs _ S λv H1 Z1 t k1 P z=>by
  obtain⟨O,dx,gs,rfl,l,i⟩:=z.HK;have d:=by
   have:∀{fs:List _} {gs:List _},nh X.K CL H1 fs gs->fs.lookup m=none->gs.lookup m=none:=by
    intro fs gs r
    induction fs generalizing gs with
    | nil=>intro _;cases r;rfl
    | cons p fs B=>
     cases r with
     | cons q r=>
      intro h;rw[mf]at h ⊢;split at h
      .cases h
      .exact B r h
   exact this i hf
  refine⟨O,dx,gs,rfl,l,d,h H1 Z1 σ ts vs _ P λus H2 Z2 s k2 g y=>?_⟩;rw[j2];refine⟨H2,a,.refl _,λ_ _ q _=>q,U ▸ .cons (.ins (k2 _ _ l) (i.mono k2)) y,J,E,g.N6,λv H' W' fp j ww x nw tp rt nd own=>?_⟩;obtain⟨Z',u,R⟩:=g.back j g.zh ww x nw tp rt nd own (.inr L);exact kk v H' Z' (t.trans (s.trans u)) (k1.trans (k2.trans j)) R)
def aa1{res:Qaa}{fs:Db}{pl:QcL}(a:A)(B:QdV)(hm:Meth X.K (CL c) m f)(F:Qgh)(s:QbA)(z:Qc3)
  (u:QgP) (hf:∀{H:Hp} {gs:CA},nh X.K CL H fs gs->gs.lookup m=none) (E:arg a=[.ins c fs]) (x:QbS) (t:Pre a) (y:QdO)
  (r:eval Qeu X.env=(do
   let I ← eval o X.env
   standAt apos.atName
   let (f,first) ← holding [I] QdM
   callWith pos f first (backTo pos Qfx) Qbp):=by rfl) :
  cL X CL b Qeu δ (res a) δ1:=λH Z σ ts vs Q S kk=>
 cI (aao dQ B hm F s z .nil u9 r) (u H Z σ ts vs _ S λv H1 Z1 i k1 d p=>by
  obtain⟨C,dx,gs,rfl,h,e⟩:=p.HK;refine⟨C,dx,gs,rfl,h,hf e,?_⟩;refine⟨H1,a,.refl _,λ_ _ q _=>q,E ▸ .cons (.ins h e) .nil,x,t,d.N6,λv H' W' fp g ww l nw tp rt nd own=>?_⟩;obtain⟨Z',j,D⟩:=d.back g d.zh ww l nw tp rt nd own (.inr y);exact kk v H' Z' (i.trans j) (k1.trans g) D)
end
def KY{f:Addr}{k:Nat}{A:Type}{arg:Qak}{Pre:Q1}{res:A->BS}(F:QdG)(S:Qb2)
  (J:∀(gR:Value) (l:Qau) (outer:D1) (s:Qb) (H:Hp) (E:XK) (b:Bx) (a:A) (y:Addr),eG k (l.deeper QcQ)->Pre a →
   fh (rY lR P w K mg base N qual QaJ f gR l outer s H E).Kv CL b Qbk (some (.pin y (.ins c []))::((arg a).map Qha++List.replicate (N.length-((arg a).length+1)) none))
    {nx:=λδ=>δ[0]? = some (some (.pin y (.ins c Qce))),rt:=λ_ _=>False}) :
  fj P w K mg base lR Qaj f fd ps (va K CL c ps.length arg Pre res):=by
 refine F.ok S (λvs H Q E h=>?_) (λgR l outer s H vs Q E G h=>?_)
 .obtain⟨W,j,a,y,dx,us,rfl,_,_,_,_,_,_,r,B,_⟩:=h;rw[lr,← r.length];exact B
 .obtain⟨W,j,a,y,dx,us,rfl,m,n,ne,rfl,u,tp,r,B,I,tb,kk⟩:=h;have old:∀{d:Addr} {o:HO},j d=some o->upd (upd j dx (.own y)) y (.ins (CL c) dx []) d=some o:=λ{d o} q=>by
   rw[au (aO q m),au (aO q n)];exact q
  refine⟨_,ZG,J gR l outer s _ E ⟨j,W⟩ a y G I _ W _ [] [] _ ⟨⟨[y]++[],[],?_,.nil,WA,λd hd=>?_⟩,λd o q=>old q,.refl _,λd o q=>old (u d o q),λd o q z=>?_,λd o q i=>?_,tb⟩ ⟨λδ' σ' H' Z' s' g e=>?_,λt v H' Z' δ' σ' s' g e=>e.elim,λ_ _ _ _ _ _ e=>e.elim,λ_ _ _ _ _ _ e=>e.elim⟩⟩
  .unfold L2.start;rw[js,lr,mT,← r.length];exact .cons (.pin (.ins aW .nil)) (lS _ r)
  .have:d=y:=by simpa using hd
   subst this;exact⟨Rj u m,m⟩
  .have D:W d=some o:=q;have p:W d=none:=z;rw[D]at p;cases p
  .by_cases h1:d=y
   .subst h1;rw[aW]at q;cases q;cases i
   .rw[au h1]at q;by_cases h2:d=dx
    .subst h2;rw[aW]at q;cases q;cases i
    .rw[au h2]at q;exact tp d o q i
  .obtain⟨fp,gp,L,_,nd,own⟩:=g.rep;obtain⟨v,f1,f2,M,hv,C,rt,_,_⟩:=L.get e;subst C;replace rt:=rt.Rg;obtain⟨rfl,rt⟩:=rt;refine kk H' Z' f2 g.bh g.zz g.zh g.new g.tp rt ?_ λd hd=>own d (by simp[hd]);have h1:=(lj.1 nd).1;exact(lj.1 (lj.1 h1).2.1).1
variable{body:Co}{ds Xv:BA}
theorem KZ(g:Gx X)(P:QfM)(m:Nat)(h0:P m δ)
  (hs:∀m δ,P m δ->∃p δ1,wX X CL b e δ p δ1 ∧
   (p=true->fh X CL b body δ1 {nx:=λδ2=>∃a,a<m/\P a δ2,rt:=DD.rt,bk:=λδ2=>fh X CL b gP δ2 DD,ct:=λδ2=>∃a,a<m/\P a δ2})/\(p=false->fh X CL b gP δ1 DD)) :
  fh X CL b (.While e body [] pos::gP) δ DD:=cN λH Z σ ts vs E S M=>
 r9 (aad g.xe og ZG) (by
  refine⟨λm σ H=>∃Z2 δ2,aB Z Z2/\bH X.K CL b H Z2 δ2 σ ts vs/\P m δ2,⟨m,Z,δ,.refl _,S,h0⟩,?_⟩;rintro m σ H ⟨Z2,δ2,f,k,p2⟩;obtain⟨p,δ3,j,h1,h2⟩:=hs m δ2 p2;refine j H Z2 σ ts vs _ k λi Z3 d n h=>?_;cases p with
  | true=>
   refine⟨ _,λσ' H' q=>q,?_⟩;refine h1 rfl i Z3 σ ts vs _ h ⟨λδ' σ' H' Z' s' c ⟨a,l,q⟩=>⟨a,l,Z',δ',f.trans (d.trans s'),c,q⟩,λt v H' Z' δ' σ' s' c q=>M.rt t v H' Z' δ' σ' (f.trans (d.trans s')) c q,
    λδ' σ' H' Z' s' c q=>M.nx δ' σ' H' Z' (f.trans (d.trans s')) c q,λδ' σ' H' Z' s' c ⟨a,l,q⟩=>⟨a,l,Z',δ',f.trans (d.trans s'),c,q⟩⟩
  | false=>
   exact M.nx δ3 σ i Z3 (f.trans d) h (h2 rfl))
def apN(K:Frag):R2:=λx y H Q=>∃l b xs zs,x=.ref l/\y=.ref b/\nS K H l xs/\nS K H b zs/\xs.length+zs.length<=sizeLine/\∀p,H p=none->Q Qdv (upd H p (.lst (xs++zs)))
theorem Vv:z7 X (binaryOp .Add) (apN X.K):=by
 intro pins s σ H x y v u Q I k j h;obtain⟨l,b,xs,zs,rfl,rfl,p,t,hz,q⟩:=h;cases k;cases j;obtain⟨its,r,pl,_⟩:=I.list p;obtain⟨i,f,d,_⟩:=I.list t;have e1:=r.length;have e2:=f.length;obtain⟨⟨D,dd,A,sl⟩,g,o,n,hd⟩:=pl.isList;obtain⟨⟨C,e,z,c⟩,a,B,m,hd2⟩:=d.isList;cases o;cases B;cases hd;cases hd2;refine concat_meets ⟨_,g,rfl⟩ ⟨_,a,rfl⟩ noFill_list_add seq_list_add PySem.F.slot_list_add PySem.F.entry_list_add (PySem.F.args_list_add_2 _ _)
  (list_addW l b _ _ n m dd e sl c WF) ⟨g,a,?_⟩
 have w:its.toArray++i.toArray=(its++i).toArray:=by simp
 rw[w];exact⟨.ref _,_,I.PH (r.append f) WE,rfl,q _ I.fresh⟩
theorem ay.app{ds Xv:BA}{a:BY}(h:QeG)(b:ay K CL Z Xv a):ay K CL Z (ds++Xv) (vs++a):=
 ay.ind (P:=λds vs=>ay K CL Z (ds++Xv) (vs++a)) b (λr _ i=>.cons r i) h
def Ah(h1:QiI)(h2:dR X CL b e2 δ1 (.lst Xv) δ2)(i1:QbR)(i2:D.bR Xv=true)(hz:ds.length+Xv.length<=sizeLine) :
  cL X CL b Qev δ (.lst ((ds++Xv).map T.sh)) δ2:=λH Z σ ts vs Q S k=>
 cI (NT Vv dQ dQ) (h1 H Z σ ts vs _ S λv1 H1 Z1 j k1 q m=>h2 H1 Z1 σ ts vs _ q λv2 H2 Z2 i k2 h l=>by
  have e:=m.mono k2;obtain⟨_,_,rfl,g,d⟩:=e.gV;obtain⟨_,_,rfl,f,a⟩:=l.gV;refine⟨_,_,_,_,rfl,rfl,g,f,by rw[← d.length,← a.length];exact hz,λp n=>?_⟩;have rc:=ay.app (ay.tG h.tp i1 d) (ay.tG h.tp i2 a);obtain⟨c,o⟩:=(bH.oA rc h).j8 (g0:=[]) (by simp[d.length,a.length]) n;exact k _ _ _ (j.trans i) (k1.trans (k2.trans c)) o)
def boot_min:bootBuiltins "min" = some (.builtin "min"):=by decide +kernel
def boot_max:bootBuiltins "max" = some (.builtin "max"):=by decide +kernel
def boot_str:bootBuiltins "str" = some (.type "str"):=by decide +kernel
def afX{i j:Int}(g:Gx X)(hm:X.mg "min" = none)(e:Gl X "min")(h:Xo X CL b [e1,e2] δ [.int i,.int j] δ1)(hs:Qh7:=by exact bq rfl)(hpl:(backTo pos (starEach [e2] X.env)).any (·.1)=false:=by rfl) :
  cL X CL b (.Call (.Name "min" pp) [e1,e2] [] pos) δ (.sh QkJ) δ1:=λH Z σ ts vs Q S k=>
 cI (rZ (Xc g.calm) e hm boot_min HM (he:=hs) (hpl:=hpl)) (h H Z σ ts vs _ S λus H1 Z1 a k1 f r=>by
  cases r with
  | cons d r=>
   cases r with
   | cons c r=>
    cases r;rw[d.sc rfl,c.sc rfl];exact⟨i,j,rfl,k _ H1 Z1 a k1 (f.push Qbx)⟩)
def afY{i j:Int}(g:Gx X)(hm:X.mg "max" = none)(e:Gl X "max")(h:Xo X CL b [e1,e2] δ [.int i,.int j] δ1)(hs:Qh7:=by exact bq rfl)(hpl:(backTo pos (starEach [e2] X.env)).any (·.1)=false:=by rfl) :
  cL X CL b (.Call (.Name "max" pp) [e1,e2] [] pos) δ (.sh QkI) δ1:=λH Z σ ts vs Q S k=>
 cI (rZ (Xb g.calm) e hm boot_max HM (he:=hs) (hpl:=hpl)) (h H Z σ ts vs _ S λus H1 Z1 a k1 f r=>by
  cases r with
  | cons d r=>
   cases r with
   | cons c r=>
    cases r;rw[d.sc rfl,c.sc rfl];exact⟨i,j,rfl,k _ H1 Z1 a k1 (f.push Qbx)⟩)
def Vw{i:Int}(hm:X.mg "str" = none)(c:Gl X "str")(h:dR X CL b e δ (.int i) δ1)(hi:i.natAbs.log2<1920)(hs:Qad:=by exact bq rfl) :
  cL X CL b Qla δ (.sh Qjs) δ1:=λH Z σ ts vs Q S k=>
 cI (kC z8 c hm boot_str QaF (he:=hs)) (h H Z σ ts vs _ S λv H1 Z1 a k1 d r=>r.sc rfl▸⟨i,rfl,hi,k _ H1 Z1 a k1 (d.push (.str _))⟩)
structure Fm(X:Cx)(CL:BC)(x:Str)(k n:Nat){A:Type}(arg:Qak)(Pre:Q1)(res:A->BS):Prop where
 ex:∃f fd ps,Mk X.K (CL x) f/\fj X.prog X.w X.K X.mg X.base lR k f fd ps (va X.K CL x n arg Pre res)/\X.mg x=some (.ref (CL x))/\Binds X.K fd ps []
 room:eG Qaj X.A
structure Fq(X:Cx)(CL:BC)(c m:Str)(k n:Nat){A:Type}(arg:Qak)(Pre:Q1)(res:Qaa):Prop where
 ex:∃f fd ps,Meth X.K (CL c) m f/\fj X.prog X.w X.K X.mg X.base lR k f fd ps QiY/\Binds X.K fd ps []
 room:eG k X.A
 cls:jJ X.K (CL c)
noncomputable def Rt(N:At)(y:Addr)(c:Str)(ds:BA):BB:=some (.pin y (.ins c []))::(ds.map Qha++List.replicate (N.length-(ds.length+1)) none)
section
variable{m:Str}{D:gA}
def mk_{k:Nat}{A:Type}{arg:Qak}{Pre:Q1}{res:A->BS}(a:A)(F:Qi4)(i:Qao)(h:QgO)(d:Pre a)(j:T.f6 Qce=true)(g:QhI:=by rfl)
  (c:AD x:=by decide) (he:Qaf:=by exact bq rfl) (hpl:Qaw:=by rfl) :
  cL X CL b Qbs δ (.ins x Qce) δ1:=by
 obtain⟨f,fd,ps,M,l,m,b⟩:=F.ex;exact afV a M l F.room m b h g d j i c he hpl
def mkF{k:Nat}{A:Type}{arg:Qak}{Pre:Q1}{res:A->BS}(a:A)(F:Qi4)(i:Qao)(h:Qgw)(d:Pre a)(g:QhI:=by rfl)
  (c:AD x:=by decide) (he:Qaf:=by exact bq rfl) (hpl:Qaw:=by rfl) :
  cL X CL b Qbs δ (.ins x Qce) δ1:=by
 obtain⟨f,fd,ps,M,j,m,b⟩:=F.ex;exact aa0 a M j F.room m b h g d i c he hpl
end
def K0{d:α}{fs:List (Str×α)}:((f,d)::fs).lookup f=some d:=by simp
def iL{g:Str}{d:α}{fs:List (Str×α)}(h:(f==g)=false):((g,d)::fs).lookup f=fs.lookup f:=by
 rw[mf,h]
variable{d:L3.D}
theorem Ai(x:Int):∀l:AT,vi Qdx (l.map V.int)=decide Qe4
 | []=>rfl
 | y::l=>by
  have a:=Ai x l;unfold vi at a ⊢;rw[js,nZ,a];by_cases h:y=x
  .subst h;simp[ov]
  .have h':¬ x=y:=λe=>h e.symm;simp[ov,h,h']
theorem ay.ints{K:Frag}{Z:Hp}:∀{l:AT} {vs:BY},ay K CL Z QfW vs->vs=l.map V.int
 | [],_,r=>by
  have a:=r;cases a;rfl
 | y::l,_,r=>by
  have a:=r;cases a with
  | cons c b=>rw[c.sc rfl,ay.ints b];rfl
theorem kU:∀l:AT,(l.map V.int).all yg=true
 | []=>rfl
 | y::l=>by rw[js,wt,kU l];rfl
abbrev _root_.EQ:=Option BA
noncomputable def Aj(d:L3.D):EQ:=match d with
 | .lst ds=>some ds
 | .tup ds=>some ds
 | _=>none
theorem bV.Aj{ds:BA}(r:Qde)(h:L3.Aj d=some ds):∃p us,v=.ref p/\(nS K Z p us\/zY K Z p us)/\ay K CL Z ds us:=by
 cases r with
 | tup b a=>cases h;exact⟨_,_,rfl,.inr b,a⟩
 | lst b a=>cases h;exact⟨_,_,rfl,.inl b,a⟩
 | non=>cases h
 | bl=>cases h
 | int=>cases h
 | str=>cases h
 | any=>cases h
 | val=>cases h
 | qw=>cases h
 | dct=>cases h
 | ins=>cases h
 | DI=>cases h
variable{l:AT}
def w9{i:Int}(h1:Qa8)(h2:Qhf)(hd:L3.Aj d=some Qc1)(hm:behindInMarks .In e2=false) :
  wX X CL b QgU δ (decide (i∈l)) δ2/\cL X CL b QgU δ (.sh (.bl (decide (i∈l)))) δ2:=by
 constructor
 .intro H Z σ ts vs Q S k;refine HN (tE wW dQ dQ hm) (h1 H Z σ ts vs _ S λv1 H1 Z1 f k1 n a=>h2 H1 Z1 σ ts vs _ n λv2 H2 Z2 c k2 m h=>?_);obtain⟨p,us,rfl,j,g⟩:=bV.Aj h hd;have e:=g.ints;subst e;refine⟨_,_,rfl,j,by rw[a.sc rfl];rfl,kU l,_,rfl,?_⟩;rw[a.sc rfl,Ai];exact k H2 Z2 Qcy Qaq m
 .intro H Z σ ts vs Q S k;refine cI (wU wW dQ dQ hm) (h1 H Z σ ts vs _ S λv1 H1 Z1 f k1 n a=>h2 H1 Z1 σ ts vs _ n λv2 H2 Z2 c k2 m h=>?_);obtain⟨p,us,rfl,j,g⟩:=bV.Aj h hd;have e:=g.ints;subst e;refine⟨_,_,rfl,j,by rw[a.sc rfl];rfl,kU l,?_⟩;rw[a.sc rfl,Ai];exact k _ H2 Z2 Qcy Qaq (m.push (.bl _))
def D6{i:Int}(h1:Qa8)(h2:Qhf)(hd:L3.Aj d=some Qc1)(hm:behindInMarks .NotIn e2=false) :
  wX X CL b QgK δ (!decide (i∈l)) δ2/\cL X CL b QgK δ (.sh (.bl (!decide (i∈l)))) δ2:=by
 constructor
 .intro H Z σ ts vs Q S k;refine HN (tE oF dQ dQ hm) (h1 H Z σ ts vs _ S λv1 H1 Z1 f k1 n a=>h2 H1 Z1 σ ts vs _ n λv2 H2 Z2 c k2 m h=>?_);obtain⟨p,us,rfl,j,g⟩:=bV.Aj h hd;have e:=g.ints;subst e;refine⟨_,_,rfl,j,by rw[a.sc rfl];rfl,kU l,_,rfl,?_⟩;rw[a.sc rfl,Ai];exact k H2 Z2 Qcy Qaq m
 .intro H Z σ ts vs Q S k;refine cI (wU oF dQ dQ hm) (h1 H Z σ ts vs _ S λv1 H1 Z1 f k1 n a=>h2 H1 Z1 σ ts vs _ n λv2 H2 Z2 c k2 m h=>?_);obtain⟨p,us,rfl,j,g⟩:=bV.Aj h hd;have e:=g.ints;subst e;refine⟨_,_,rfl,j,by rw[a.sc rfl];rfl,kU l,?_⟩;rw[a.sc rfl,Ai];exact k _ H2 Z2 Qcy Qaq (m.push (.bl _))
def Vx{l:At}(h1:QiN)(h2:Qhf)(hd:L3.Aj d=some (l.map .str))(hm:behindInMarks .In e2=false) :
  wX X CL b QgU δ (decide Qe4) δ2/\cL X CL b QgU δ (.sh (.bl (decide Qe4))) δ2:=by
 constructor
 .intro H Z σ ts vs Q S k;refine HN (tE wW dQ dQ hm) (h1 H Z σ ts vs _ S λv1 H1 Z1 f k1 m a=>h2 H1 Z1 σ ts vs _ m λv2 H2 Z2 c k2 j h=>?_);obtain⟨p,us,rfl,i,g⟩:=bV.Aj h hd;have e:=g.strs;subst e;refine⟨_,_,rfl,i,by rw[a.sc rfl];rfl,kR l,_,rfl,?_⟩;rw[a.sc rfl,Ag];exact k H2 Z2 Qcy Qaq j
 .intro H Z σ ts vs Q S k;refine cI (wU wW dQ dQ hm) (h1 H Z σ ts vs _ S λv1 H1 Z1 f k1 m a=>h2 H1 Z1 σ ts vs _ m λv2 H2 Z2 c k2 j h=>?_);obtain⟨p,us,rfl,i,g⟩:=bV.Aj h hd;have e:=g.strs;subst e;refine⟨_,_,rfl,i,by rw[a.sc rfl];rfl,kR l,?_⟩;rw[a.sc rfl,Ag];exact k _ H2 Z2 Qcy Qaq (j.push (.bl _))
def afZ{l:At}(h1:QiN)(h2:Qhf)(hd:L3.Aj d=some (l.map .str))(hm:behindInMarks .NotIn e2=false) :
  wX X CL b QgK δ (!decide Qe4) δ2/\cL X CL b QgK δ (.sh (.bl (!decide Qe4))) δ2:=by
 constructor
 .intro H Z σ ts vs Q S k;refine HN (tE oF dQ dQ hm) (h1 H Z σ ts vs _ S λv1 H1 Z1 f k1 m a=>h2 H1 Z1 σ ts vs _ m λv2 H2 Z2 c k2 j h=>?_);obtain⟨p,us,rfl,i,g⟩:=bV.Aj h hd;have e:=g.strs;subst e;refine⟨_,_,rfl,i,by rw[a.sc rfl];rfl,kR l,_,rfl,?_⟩;rw[a.sc rfl,Ag];exact k H2 Z2 Qcy Qaq j
 .intro H Z σ ts vs Q S k;refine cI (wU oF dQ dQ hm) (h1 H Z σ ts vs _ S λv1 H1 Z1 f k1 m a=>h2 H1 Z1 σ ts vs _ m λv2 H2 Z2 c k2 j h=>?_);obtain⟨p,us,rfl,i,g⟩:=bV.Aj h hd;have e:=g.strs;subst e;refine⟨_,_,rfl,i,by rw[a.sc rfl];rfl,kR l,?_⟩;rw[a.sc rfl,Ag];exact k _ H2 Z2 Qcy Qaq (j.push (.bl _))
variable{ds:BA}
def f9:KL X CL b [] δ (([]:BA).map T.sh) δ:=bA
def aE(h1:Qg2)(h2:KL X CL b es δ1 Qa7 δ2)(hs:Qaf:=by exact bq rfl):KL X CL b Qab δ ((d::ds).map T.sh) δ2:=aY h1 h2 hs
theorem fO(h:KL X CL b es δ (ds.map T.sh) δ1)(a:QbG):cL X CL b (.List es pos) δ (.lst Qa7) δ1:=cJ h WE
def se(l:At):D.bR (l.map L3.D.str)=true:=dX Qa0 _
def dD(h:QiA):cL X CL b e δ (.sh Qdq) δ1:=by
 have:=Rm h
 rwa [T.gT,mQ]at this
def xg(h:QaL)(q:t.gT=d):cL X CL b e δ (.sh d) δ1:=q▸Rm h
def Vy(h:DD.bk δ):fh X CL b (.Break pos::gP) δ DD:=cN (aaS h)
def alz(h:DD.ct δ):fh X CL b (.Continue pos::gP) δ DD:=cN (afO h)
def Dd{d2:L3.D}(h:Qhs)(q:d=d2):dR X CL b e δ d2 δ1:=q▸h
def aR{t2:T}(h:QaL)(q:t=t2):cL X CL b e δ t2 δ1:=q▸h
structure K1(Z H Z' H':Hp):Prop where
 z:aB Z Z'
 h:aB H H'
 zh:aB Z' H'
 new:∀a o,Z' a=some o->Z a=none->H a=none
 tp:∀a o,H' a=some o->kQ o=true->Z' a=some o
theorem K1.refl(zh:aB Z H)(tp:∀a o,H a=some o->kQ o=true->Z a=some o):K1 Z H Z H:=⟨.refl _,.refl _,zh,λa o q z=>WF,tp⟩
theorem K1.tup{p:Addr}(zh:aB Z H)(tp:∀a o,H a=some o->kQ o=true->Z a=some o)(b:H p=none):K1 Z H (upd Z p Qa1) (upd H p Qa1):=by
 have c:=zh.free b;refine⟨aB.upd c,aB.upd b,λa o q=>?_,λa o q z=>?_,λa o q i=>?_⟩
 .by_cases e:a=p
  .subst e;rw[aW]at q ⊢;exact q
  .rw[au e]at q ⊢;exact zh a o q
 .by_cases e:a=p
  .subst e;exact b
  .rw[au e,z]at q;cases q
 .by_cases e:a=p
  .subst e;rw[aW]at q ⊢;exact q
  .rw[au e]at q ⊢;exact tp a o q i
theorem bH.grow(S:Qap)(g:K1 Z H Z' H'):bH K CL b H' Z' δ σ ts vs:=by
 obtain⟨fp,gp,e,r,nd,k⟩:=S.rep;have old:=λa c=>(gY.1 c).elim (e.there a) (r.there a);have keep:∀a∈fp++gp,H' a=H a:=λa c=>by
  obtain⟨o,q⟩:=old a c;rw[q];exact g.h a o q
 refine⟨⟨fp,gp,e.mono g.z (λa c=>keep a (ka _ c)),r.mono g.z (λa c=>keep a (i5 _ c)),nd,λa c=>⟨?_,(k a c).2⟩⟩,S.bh.trans g.h,S.zz.trans g.z,g.zh,λa o q z=>?_,g.tp,S.tab⟩
 .cases q:Z' a with
  | none=>rfl
  | some o=>
   obtain⟨u,d⟩:=old a c;rw[g.new a o q (k a c).1]at d;cases d
 .cases e2:Z a with
  | none=>exact S.bh.free (g.new a o q e2)
  | some u=>
   have:=g.z a u e2;rw[q]at this;cases this;exact S.new a o e2 z
noncomputable def Vz(δ:BB):CO->BA->BB
 | i::is,d::ds=>Vz (δ.set i Qb0) is ds
 | _,_=>δ
noncomputable def E1(σ:L2.St):CO->BY->L2.St
 | i::is,v::vs=>E1 (σ.set i Qay) is vs
 | _,_=>σ
theorem bH.sets{ps:BA}{ys:BY}:∀{is:CO} {δ:BB} {σ:L2.St},bH K CL b H Z δ σ ts vs->ay K CL Z ps ys->(∀i∈is,i<δ.length)->bH K CL b H Z (Vz δ is ps) (E1 σ is ys) ts vs:=by
 intro is
 induction is generalizing ps ys with
 | nil=>
  intro δ σ S r _;cases ps<;>cases ys<;>exact S
 | cons i is d=>
  intro δ σ S r a;cases r with
  | nil=>exact S
  | cons r c=>exact d ((S.push r).set (a i gj)) c (λj e=>by rw[oz];exact a j (i4 _ e))
section
variable{ds:BA}
structure Ru(X:Cx)(CL:BC)(b:Bx)(δ1:BB)(σ:L2.St)(ts:B2)(vs:BY)(Z H:Hp)(ds:BA)(J:It)(H1:Hp):Prop where
 ex:∃Z1,aB Z Z1/\aB H H1/\bH X.K CL b H1 Z1 δ1 σ ts vs/\(∀i H2,aB Z1 H2->i<ds.length->J.go i H2) ∧
  (∀i Z2 H2 x H',aB Z1 Z2->aB Z2 H2->(∀a o,H2 a=some o->kQ o=true->Z2 a=some o)->i<ds.length->J.o6 i H2 x H'->∃Z3 d,ds[i]? = some d/\K1 Z2 H2 Z3 H'/\bV X.K CL Z3 d x)/\(∀H2,aB Z1 H2->J.stop ds.length H2)
def uX(X:Cx)(CL:BC)(b:Bx)(tg e:Expr)(δ:BB)(ds:BA)(δ1:BB):Prop:=
 ∃a,PI X tg e a/\∀(H Z:Hp) (σ:L2.St) (ts:B2) (vs:BY) (R:QfQ),bH X.K CL b H Z δ σ ts vs->(∀J H1,Ru X CL b δ1 σ ts vs Z H ds J H1->R J H1)->a σ H R
def SA(h:Xr X CL b tg iter δ ds δ1):uX X CL b tg iter δ ds δ1:=by
 obtain⟨f,pi,hw⟩:=h;refine⟨f,pi,λH Z σ ts vs R S k=>hw H Z σ ts vs R S λJ H1 zz=>?_⟩;obtain⟨Z1,us,a,k1,m,g,go,c,st⟩:=zz;refine k J H1 ⟨Z1,a,k1,m,go,λi Z2 H2 x H' s1 s2 tp hi j=>?_,st⟩;obtain⟨e,l⟩:=c i H2 x H' QhY hi j;subst e;obtain⟨d,hd,rd⟩:=g.Xn l;exact⟨Z2,d,hd,.refl s2 tp,rd.mono s1⟩
def HA(X:Cx)(CL:BC)(tg:Expr)(is:CO)(parts:D->EQ):Prop:=
 ∃t:TG,PG X tg t/\∀(Z H:Hp) (d:D) (ps:BA) (x:V) (σ:L2.St) (Q:L2.St->Hp->Prop),aB Z H->bV X.K CL Z d x->parts d=some ps->(∀ys,ay X.K CL Z ps ys->Q (E1 σ is ys) H)->t x σ H Q
def part1(d:D):EQ:=some [d]
noncomputable def part2:D->EQ
 | .tup [a,c]=>some [a,c]
 | _=>none
theorem Xw{d:D}{ps:BA}(h:part2 d=some ps):∃d1 d2,d=.tup [d1,d2]/\ps=[d1,d2]:=by
 unfold part2 at h;split at h
 .grind
 .cases h
theorem Rw{d:D}{ps:BA}{x:V}{Q:L2.St->Hp->Prop}(zh:aB Z H)(r:bV K CL Z d x)(e:part2 d=some ps)(k:∀ys,ay K CL Z ps ys->Q (E1 σ [i,j] ys) H):RN K 2 (Z9 (Jv i) (Z9 (Jv j) R9)) x σ H Q:=by
 obtain⟨d1,d2,rfl,rfl⟩:=Xw e;obtain⟨_,_,rfl,f,a⟩:=r.Rf;cases a with
 | cons c a=>
  cases a with
  | cons b a=>
   cases a;exact⟨_,_,rfl,aB.pf zh f,rfl,_,_,rfl,_,_,rfl,rfl,k _ (.cons c (.cons b .nil))⟩
def aa2{px:Pos}(a:QbP)(n:QbT):HA X CL (.Name x px) [i] part1:=
 ⟨ _,tD a n.hi n.loc n.hf,λZ H d ps x σ Q zh r e k=>by
  cases e;exact k [x] (.cons r .nil)⟩
def VA{k:Nat}{y:Str}{px py pt:Pos}(a:QbP)(f:QaK)(n:QbT)(m:Ln X j y)(hs:(assignEach [.Name x px,.Name y py] X.env).map (·.2)=assign (.Name x px) X.env::(assignEach [.Name y py] X.env).map (·.2):=by rfl)(g:(assignEach [.Name y py] X.env).map (·.2)=assign QfG X.env::(assignEach [] X.env).map (·.2):=by rfl)
  (c:(assignEach [.Name x px,.Name y py] X.env).length=2:=by rfl) (b:(assignEach [.Name x px,.Name y py] X.env).findIdx? (·.1)=none:=by rfl):HA X CL (.Tuple [.Name x px,.Name y py] k pt) [i,j] part2:=
 ⟨ _,akA f (NQ (tD a n.hi n.loc n.hf) (NQ (tD a m.hi m.loc m.hf) afA g) hs) c b,λZ H d ps x σ Q zh r e k=>Rw zh r e k⟩
theorem af0{D:gA}(is:CO)(parts:L3.D->EQ)(P:QfM)(h:Qfk)(n:HA X CL tg is parts)(h0:P 0 δ1)(F:∀j δ,P j δ->∀i∈is,i<δ.length)
  (hs:∀j d δ,ds[j]? = some d->P j δ->∃ps,parts d=some ps/\fh X CL b gP (Vz δ is ps) {nx:=P QA,rt:=D.rt,bk:=D.nx,ct:=P QA}) (hd:∀δ,P ds.length δ->D.nx δ)
  (C:QgR) (G:QaK) (B:Qca:=by intro _;rfl) :
  Rl X CL b (.For tg iter gP [] pos) δ D:=λH Z σ ts vs E S M=>by
 obtain⟨O,pi,hw⟩:=h;obtain⟨t,pg,n⟩:=n;refine r9 (aae C G pi pg ZG B) (hw H Z σ ts vs _ S λJ H1 zz=>?_);obtain⟨Z1,f,k1,N,go,u,st⟩:=zz;refine⟨λj m σ H2=>m=ds.length-j/\j<=ds.length/\∃Z2 δ2,aB Z1 Z2/\bH X.K CL b H2 Z2 δ2 σ ts vs/\P j δ2,⟨_,rfl,kn _,Z1,δ1,.refl _,N,h0⟩,?_⟩;rintro j m σ H2 ⟨rfl,R,Z2,δ2,s,c,p2⟩;by_cases l:j<ds.length
 .refine .inr ⟨go j H2 QfR l,_,λσ' H' h=>⟨ _,We,rfl,l,h⟩,λy H' x=>?_⟩;obtain⟨Z3,d,p,q,rd⟩:=u j Z2 H2 y H' s c.zh c.tp l x;obtain⟨ps,o,I⟩:=hs j d δ2 p p2;have r:=c.grow q;refine n Z3 H' d ps y σ _ r.zh rd o λys g=>?_;have L:=r.sets g (F j δ2 p2);have s3:=s.trans q.z;exact I _ Z3 _ ts vs _ L ⟨λδ' σ' H' Z' s' a k=>⟨Z',δ',s3.trans s',a,k⟩,λt v H' Z' δ' σ' s' a k=>M.rt t v H' Z' δ' σ' (f.trans (s3.trans s')) a k,λδ' σ' H' Z' s' a k=>M.nx δ' σ' H' Z' (f.trans (s3.trans s')) a k,λδ' σ' H' Z' s' a k=>⟨Z',δ',s3.trans s',a,k⟩⟩
 .have e:j=ds.length:=by lia
  subst e;exact .inl ⟨st H2 QfR,M.nx δ2 σ H2 Z2 (f.trans s) c (hd δ2 p2)⟩
def alA{D:gA}{is:CO}{parts:L3.D->EQ}(g:Gx X)(a:HA X CL tg is parts)(P:QfM)(h:Qfk)(h0:P 0 δ1)(e:∀j δ,P j δ->∀i∈is,i<δ.length)
  (hs:∀j d δ,ds[j]? = some d->P j δ->∃ps,parts d=some ps/\fh X CL b body (Vz δ is ps) {nx:=P QA,rt:=D.rt,bk:=λδ2=>fh X CL b gP δ2 D,ct:=P QA}) (hd:∀δ,P ds.length δ->fh X CL b gP δ D) (c:Qca:=by intro _;rfl) :
  fh X CL b (.For tg iter body [] pos::gP) δ D:=
 cN (af0 is _ P h a h0 e hs hd g.xe g.calm c)
end
structure tM(X:Cx)(scope:Scope)(xs:At)(Nc:At)(ix:CO):Prop where
 kind:scope.kind=.function
 BV:∀y∈scope.names,y.2 ≠ .cell
 nd:Nc.Nodup
 names:∀y∈scope.names,y.2=.local->scope.names.lookup y.1=some .local
 own:∀x∈xs,scope.names.lookup x=some .local
 frees:∀y∈scope.names,y.2=.free->scope.names.lookup y.1=some .free/\Qkx
 hd:Nc=xs++ix.filterMap (X.N[·]?)
 sr:∀i∈ix,∃y,X.N[i]? = some y/\scope.names.lookup y=some .free
noncomputable def Xx(σ:L2.St)(ix:CO)(os:Qgd):L2.St:=os++ix.map λi=>(σ[i]?).getD none
variable{xs:At}
theorem Oi(sc:QdH)(I:QE)(x:∀b∈fp,oE X pins H b/\b<s.heap.objs.size){h':Heap}{m:Bi}{tk:Nat}
  (Z:h'.Ns s.heap.objs.size m) (d:∀b o,s.heap.get? b=some o->h'.get? b=some o) :
  Inv QkP [] (Xx σ ix (List.replicate xs.length none)) H {s with heap:=h',toks:=tk}:=by
 have frees:∀y∈scope.names,y.2=.free->∃c,X.env.cells.lookup y.1=some c:=λy G e=>I.ok.has y.1 (sc.frees y G e).2;have sub:∀{y:Str} {c:Addr},(eY X.env scope.names []).lookup y=some c->X.env.cells.lookup y=some c:=λ{y c} e=>tK frees (λ_ _ z=>by cases z) e;have hlen:(Xx σ ix (List.replicate xs.length none)).length=Nc.length:=by
  have all:∀l:CO,(∀i∈l,∃y,X.N[i]? = some y/\scope.names.lookup y=some .free)->(l.filterMap (X.N[·]?)).length=l.length:=by
   intro l
   induction l with
   | nil=>intro _;rfl
   | cons i r F=>
    intro h;obtain⟨y,e,_⟩:=h i gj;rw[nH,e];show _+1=_+1;rw[F λj C=>h j (i4 _ C)]
  unfold Xx;rw[sc.hd,kr,kr,d8,vT,all ix sc.sr]
 have C0:s.heap.get? s.heap.objs.size=none:=Heap.get?_none_of_le (gZ _);refine⟨⟨I.ok.mod,sc.kind,I.ok.glob,I.ok.blt,gZ _,λy z c h1 h2=>I.ok.inj y z c (sub h1) (sub h2),λy G=>?_,λy c hf _=>(by cases (show false=true from hf)),I.ok.hd,I.ok.frames,.inl rfl,λb g=>⟨ll (x b g).2,λy c e=>(x b g).1.2.2.2.2.1 y c (sub e)⟩,I.bs,kv I.ok.ZU I.sz,λb o e g=>?_,λb g hf=>?_,I.stack,I.Ks⟩,
  rfl,I.bare,Un.kept d,⟨m,Z,λi y v h1 h2 h3=>?_⟩,λy c e=>?_,I.fQ.fresh (gZ _),λy c e=>I.rV y c (sub e),λp W=>absurd (show p∈([]:BM) from W) WA,I.fQ.kept d,hlen⟩
 .
  have B:(relabel scope X.env).names.lookup y=some .cell\/(relabel scope X.env).names.lookup y=some .free:=G;cases e:scope.names.lookup y with
  | none=>
   have:=oB (env:=X.env) e;obtain q|q:=B<;>(rw[show(relabel scope X.env).names.lookup y=none from this]at q;cases q)
  | some k=>
   have q:=jq (env:=X.env) e;have d:k=.free:=by
    by_cases d:k=.free
    .exact d
    .have g:(k==NameKind.free)=false:=by simpa using d
     rw[cq (by rw[g];simp)]at q;have V:k ≠ .cell:=λz=>by
      subst z;exact sc.BV _ (rl e) rfl
     obtain z|z:=B
     .rw[show(relabel scope X.env).names.lookup y=some k from q]at z;exact absurd (l7 z) V
     .rw[show(relabel scope X.env).names.lookup y=some k from q]at z;exact absurd (l7 z) d
   subst d;exact pM e
 .
  rcases(x b g).1.2.2.2.1 with z|z
  .exact I.ok.W5 b o e z
  .exact absurd (my (km e) (kv I.ok.ZU z)) (wx _)
 .obtain z|z:=fV.1 (I.Kr b hf)
  .exact(x b g).1.2.1 z
  .exact(x b g).1.2.2.1 z
 .
  unfold Xx at h2;by_cases hi:i<xs.length
  .rw[N0 (by rw[vT];exact hi),KU,di hi]at h2;cases h2
  .obtain⟨n,rfl⟩:∃n,i=xs.length+n:=⟨i-xs.length,We⟩;rw[Hk (by rw[vT];lia),vT,Nat.add_sub_cancel_left,k4]at h2;cases E:ix[n]? with
   | none=>rw[E]at h2;cases h2
   | some j=>
    rw[E]at h2;have t:(σ[j]?).getD none=some v:=l7 h2;have C:σ[j]? = some Qay:=by
     cases q:σ[j]? with
     | none=>rw[q]at t;cases t
     | some o=>rw[q]at t;exact congrArg some t
    obtain⟨f,A,w⟩:=sc.sr j (l6 E);have L:Nc[xs.length+n]? = some f:=by
     have all:∀(l:CO) (i:Nat),(∀j∈l,∃y,X.N[j]? = some y/\scope.names.lookup y=some .free)->l[i]? = some j->(l.filterMap (X.N[·]?))[i]? = some f:=by
      intro l
      induction l with
      | nil=>intro i _ h;simp at h
      | cons a r F=>
       intro i h hi;obtain⟨ya,M,_⟩:=h a gj;rw[nH,M];cases i with
       | zero=>
        simp at hi;subst hi;rw[A]at M;cases M;rfl
       | succ i=>exact F i (λj C=>h j (List.mem_cons_of_mem _ C)) (by simpa using hi)
     rw[sc.hd,Hk We,Nat.add_sub_cancel_left];exact all ix n sc.sr E
    have ey:f=y:=by
     have D:Nc[xs.length+n]? = some y:=h1;rw[L]at D;exact l7 D
    subst ey;have S:=(sc.frees (f,.free) (rl w) rfl).2;have O:uK X.env.scope f:=S.elim (λz=>.inr QbN) (λz=>.inr (.inr z));obtain⟨m0,Y,K⟩:=I.loc;obtain⟨u,U,lk⟩:=K j f v A C O;refine⟨u,U,?_⟩;obtain⟨kk,_⟩|⟨_,c,hc,T⟩:=lk
    .obtain z|z:=S
     .rw[kk]at z;cases z
     .rw[kk]at z;cases z
    .obtain⟨P,R⟩:=pM (env:=X.env) (cs:=[]) w;have:P=c:=by
      have:=sub R;rw[hc]at this;exact(l7 this).symm
     subst this;obtain⟨o,J,hd⟩:=T;refine .inr ⟨?_,P,R,o,d _ _ J,hd⟩;have q:=jq (env:=X.env) w;show(relabel scope X.env).names.lookup f=some .cell\/(relabel scope X.env).names.lookup f=some .free;rw[show(relabel scope X.env).names.lookup f=_ from q];split
     .exact .inl rfl
     .exact .inr rfl
 .obtain⟨v,o,J,hd⟩:=I.cell y c (sub e);exact⟨v,o,d _ _ J,hd⟩
def NX(X:Cx)(tg elt:Expr)(ifs:CU)(n:Nat)(σ:L2.St)(ix:CO)(D:Addr)(N:Hp->Prop)(e:V)(os:Qgd)(g:Hp):Prop:=
 ∃t:TG,PG X tg t/\t e (Xx σ ix os) g λa f=>∃b,b.length=n/\a=Xx σ ix b/\JE X ifs a f λok d=>
  if ok=true then HL X elt a d λy c=>∃acc,c D=some (.lst acc)/\acc.length<sizeLine/\N (upd c D (.lst (acc++[y]))) else N d
variable{it:Addr}{E:B0}
def yO{J:It}{tn:QhA}{G:Addr->Hp->Prop}{RR:Qil}
  (sc:QdH) (hc:QaK) (I:QE) (l:Turn X.prog X.w X.K tg J fp it tn) (st:tn 0 s.heap) (hf:∀b∈fp,oE X pins H b)
  (loop:∀D,H D=none->∃W:Nat->Nat->Hp->Prop,(∃m,W 0 m (upd H D Qe6))/\∀i m H2,W i m H2->(J.stop i H2/\G D H2) ∨
   (J.go i H2/\∃N:Hp->Prop,(∀H',N H'->∃m',m'<m/\W QaR m' H')/\∀L H3,J.o6 i H2 L H3->∀C s0 H0 f0 os,os.length=xs.length->NX QgY tg elt ifs xs.length σ ix D N L os H3))
  (ax:∀D C s' H',(∃m,s'.heap.Ns C m)->(∃o,s'.heap.get? C=some o/\∀v,o.data ≠ .cell v)->H' C=none->(C≠X.env.locals/\C∉X.fs/\X.j1.heap.objs.size<=C/\(∀y c,X.env.cells.lookup y=some c->c≠C)/\∀q∈X.pn++pins,q.1≠C)->(∀h',Heap.SameBut C s'.heap h'->Inv X pins σ H' {s' with heap:=h'})->G D H'->RR Qeg C (.ok .next) s') :
  wpAny Qu X.A Qf0 (λacc O=>wpAny Qu X.A Qh4 (λOj M=>
   codeAny Qu X.A (.compStart QdA 0 Qbw acc {Oj with scope:=relabel scope X.env}) (RR acc Oj.locals) M) E O) E s:=by
 refine wpAny_newObj_type ?_;have F:Inv X pins σ (upd H s.heap.objs.size Qe6) {s with heap:=s.heap.push {cls:=.type "list",dict:=none,data:=.seq ([]:B1).toArray}}:=
  I.laid (t':=s.toks) Qjl (gZ _) ⟨by show 0<=sizeLine;exact kn _,[],0,.nil,mv _ rfl⟩
 have hD:H s.heap.objs.size=none:=I.fQ.fresh (gZ _);obtain⟨W,⟨m0,w0⟩,turn⟩:=loop _ hD;have j:∀b∈fp,oE X pins Qh2 b/\b<(s.heap.push {cls:=.type "list",dict:=none,data:=.seq ([]:B1).toArray}).objs.size:=λb a=>by
  obtain⟨f0,f1⟩:=hf b a;obtain⟨o,ho,_⟩:=l.obj 0 _ st b a;have lP:=km ho;refine⟨⟨by rw[au (ll lP)];exact f0,f1⟩,?_⟩;rw[Heap.size_push];exact Nat.lt_succ_of_lt lP
 have R:tn 0 (s.heap.push {cls:=.type "list",dict:=none,data:=.seq ([]:B1).toArray}):=l.keep 0 _ _ st λb _ o e=>kx _ e;generalize ae:({s with heap:=s.heap.push {cls:=.type "list",dict:=none,data:=.seq ([]:B1).toArray}}:Shared)=s3 at F ⊢;have ar:s3.heap=s.heap.push {cls:=.type "list",dict:=none,data:=.seq ([]:B1).toArray}:=by rw[← ae]
 rw[← ar]at j R;refine wpAny_newFunctionEnv sc.BV (by intro y hy;simp at hy) (λh a0 aT=>?_) sc.kind;have old:∀b o,s3.heap.get? b=some o->h.get? b=some o:=λb o e=>(aT.2 b Qf4).trans (kx _ e);have J0:=Oi (tk:=s3.toks+([]:DO).length) sc F j a0 old;have P:tn 0 h:=l.keep 0 _ _ R λb _ o e=>old b o e;have V:∀s4:Shared,s4={s3 with heap:=h,toks:=s3.toks+([]:DO).length}->codeAny Qu X.A (.compLoop QdA 0 Qbw Qet (compEnvC scope QbD s3.heap.objs.size X.env)) (RR Qet s3.heap.objs.size) s4:=by
  rintro s4 rfl;have f:∀{H':Hp},(∀b∈fp,H' b=none)->∀b∈fp,oE Qej [] H' b:=λ{H'} hn b a=>by
   obtain⟨⟨f0,f1,f2,f3,f4,f5⟩,lP⟩:=j b a;refine⟨hn b a,ll lP,λz=>?_,.inl a,λy c e=>f4 y c (tK (λy hy e=>I.ok.has y.1 (sc.frees y hy e).2) (λ_ _ z=>by cases z) e),λp hp=>absurd (show p∈([]:BM) from hp) WA⟩;obtain q|q:=fV.1 (F.Kr b z)
   .exact f1 q
   .exact f2 q
  refine KR (λn s'=>∃i o H',o.length=xs.length/\Inv Qej [] (Xx σ ix o) H' s'/\tn i s'.heap/\(∀b∈fp,H' b=none)/\W i n H') ?_ m0 ⟨0,_,_,vT,J0,P,λb a=>(j b a).1.1,w0⟩;rintro n s5 ⟨i,o5,H5,ab,I5,Va,U,w5⟩;obtain⟨stop,g⟩|⟨go,N,hN,step⟩:=turn i n H5 w5
  .refine fY (l.done Qej rfl rfl rfl hc i [] s5 _ H5 _ I5 (f U) Va stop) λr s6 zz=>?_;obtain⟨hr,I6⟩:=zz;subst hr;obtain⟨m6,T,_⟩:=I6.loc;obtain⟨oc,bc,bg,ag,aw,_⟩:=id T;have k:=F.HG (gZ s3.heap.objs.size) (H':=λ_=>none) rfl;refine ax _ _ s6 H5 ⟨m6,T⟩ ⟨oc,ag,λv z=>by rw[aw]at z;cases z⟩ I6.free ⟨k.2.1,k.2.2.1,?_,k.2.2.2.2.1,k.2.2.2.2.2⟩ (λh' Xy=>Xq F (λb a=>(j b a).1) I6 Xy) g;exact F.sz
  .refine fY (l.item Qej rfl rfl rfl hc i [] s5 _ H5 _ I5 (f U) Va go) λr s6 zz=>?_;obtain⟨u,hr,h6⟩:=zz;subst hr;refine fY h6 λ_ s7 zz=>?_;obtain⟨L,H7,I7,r7,y7,B,aI⟩:=zz;have ba:=I7.pinned (f aI) (l.obj _ _ B);obtain⟨t,hg,ht⟩:=step L _ y7 s3.heap.objs.size s3 Qh2 fp o5 ab;refine fY (hg _ s7 _ H7 L u _ ba r7 ht) λ_ s8 zz=>?_;obtain⟨bb,H8,I8,S,aa,e8,h8⟩:=zz;subst e8;refine fY (aaU I8 h8 rfl) λok s9 zz=>?_;obtain⟨H9,I9,Z⟩:=zz;have again:∀{x:Hp} {sa:Qb},Inv Qej ([]++ED fp s7.heap) (Xx σ ix S) x sa->N x->∃m,m<n/\∃i o H',o.length=xs.length/\Inv Qej [] (Xx σ ix o) H' sa/\tn i sa.heap/\(∀b∈fp,H' b=none)/\W i m H':=λ{x sa} Y na=>by
    obtain⟨m',hm,wa⟩:=hN x na;refine⟨m',hm,i+1,S,x,aa,Y.u5,l.keep _ _ _ B λb a o e=>(Y.pin (b,o) (i5 _ (i5 _ (lQ a e)))).1,λb a=>?_,wa⟩;obtain⟨o,e,d⟩:=l.obj _ _ B b a;exact(Y.pin (b,o) (i5 _ (i5 _ (lQ a e)))).2.1
   cases ok with
   | false=>
    rw[cq mD]at Z ⊢;exact again I9 Z
   | true=>
    rw[di rfl]at Z ⊢;refine fY (Z _ s9 I9) λv sa zz=>?_;obtain⟨y,x,Y,ra,acc,DJ,hlen,na⟩:=zz;refine fY (BR (X:=cO X scope Nc s3.heap.objs.size s3 Qh2 fp) _ sa _ x Qet [y] Qet [v] (λ_ Hb=>Hb=upd x s.heap.objs.size (.lst (acc++[y]))) Y rfl (.cons ra .nil) ⟨_,acc,y,rfl,rfl,DJ,hlen,rfl⟩) λ_ sb zz=>?_;obtain⟨_,Hb,Ib,_,eb⟩:=zz;subst eb;exact again Ib na
 exact codeAny_compStart_list (V _ rfl) (l.self _ 0 _ _ _ P (V _ rfl))
noncomputable def Xz(ps:BA):BB:=ps.map λp=>some (.sh p)
theorem JK:∀{ys:BY} {os:Qgd} {pre r:L2.St},os.length=ys.length->E1 (pre++(os++r)) (List.range' pre.length ys.length) ys=pre++(ys.map some++r)
 | [],os,pre,r,h=>by
  have:=List.length_eq_zero_iff.1 h;subst this;rfl
 | y::ys,os,pre,r,h=>by
  match os,h with
  | o::os,h=>
   show E1 _ _ ys=_;have:=JK (pre:=pre++[some y]) (r:=r) (by simpa using h);simp_all
def af1:∀{ps:BA} {ys:BY} {δc:BB} {a:L2.St},ay K CL Z ps ys->fZ K CL H Z δc a []->fZ K CL H Z QeX (ys.map some++a) []:=λ{ps ys δc a} h e=>
 ay.ind (P:=λps ys=>fZ K CL H Z QeX (ys.map some++a) []) e (λr _ i=>.cons (.sh r) i) h
section
variable{W1:Hp}{δc:BB}{J:It}{ds:BA}{p:D->Bool}{g:D->T}{parts:D->EQ}
def B4(X:Cx)(CL:BC)(scope:Scope)(Nc:At)(n:Nat)(tg:Expr)(parts:D->EQ)(ifs:CU)(elt:Expr)(δc:BB)(ds:BA)(p:D->Bool)(g:D->T):Prop:=
 ∀C s0 a f0 b,HA Qi0 CL tg (List.range' 0 n) parts/\∀d,d∈ds->∃ps,parts d=some ps/\ps.length=n/\Lm Qi0 CL b ifs QeX (p d)/\(p d=true->cL Qi0 CL b elt QeX (g d) QeX)
structure GW(K:Frag)(CL:BC)(H W1:Hp)(D:Addr)(l:B2)(k:Nat)(H2 Z2:Hp)(QH:BY)(fp:BN):Prop where
 a1:aB H H2
 a2:aB W1 Z2
 a3:aB Z2 H2
 a4:Z2 D=none
 a5:∀a o,Z2 a=some o->W1 a=none->H a=none
 a6:∀a o,H2 a=some o->kQ o=true->Z2 a=some o
 a7:H2 D=some (.lst QH)
 a8:aU K CL H2 Z2 l QH fp
 a9:fp.Nodup
 b1:D∉fp
 b2:∀a∈fp,Z2 a=none/\H a=none
 b3:QH.length<=k
theorem yP(S:QiT)(zw:aB Z W1)(wh:aB W1 H)(tp:∀a o,H a=some o->kQ o=true->W1 a=some o)
  (a0:∀H',fZ X.K CL H' W1 δc (ix.map λi=>(σ[i]?).getD none) []) (inner:B4 X CL scope Nc n tg parts ifs elt δc ds p g)
  (zU:∀i H2,aB W1 H2->i<ds.length->J.go i H2)
  (hy:∀i Z2 H2 x H',aB W1 Z2->aB Z2 H2->(∀a o,H2 a=some o->kQ o=true->Z2 a=some o)->i<ds.length->J.o6 i H2 x H'->∃Z3 d,ds[i]? = some d/\K1 Z2 H2 Z3 H'/\bV X.K CL Z3 d x)
  (nQ:∀H2,aB W1 H2->J.stop ds.length H2) (hlen:QbG) (c:W1=Z\/∀d∈ds,(g d).clean=true) :
  ∀D,H D=none->∃W:Nat->Nat->Hp->Prop,(∃m,W 0 m (upd H D Qe6))/\∀i m H2,W i m H2->(J.stop i H2/\∃Z2,aB Z Z2/\aB H H2/\bH X.K CL b H2 Z2 δ σ (.lst ((ds.filter p).map g)::ts) Qdj) ∨
   (J.go i H2/\∃N:Hp->Prop,(∀H',N H'->∃m',m'<m/\W QaR m' H')/\∀V k,J.o6 i H2 V k->∀C s0 H0 f0 os,os.length=n->NX QgY tg elt ifs n σ ix D N V os k):=by
 intro D hD;have wD:W1 D=none:=wh.free hD;refine⟨λi m H2=>m=ds.length-i/\i<=ds.length/\∃Z2 QH fp,GW X.K CL H W1 D (((ds.take i).filter p).map g) i H2 Z2 QH fp,⟨ds.length,rfl,kn _,W1,[],[],aB.upd hD,.refl _,wh.trans (aB.upd hD),wD,λa o q z=>?_,λa o q i=>?_,aW,.nil,uj,WA,WA,WA⟩,?_⟩
 .rw[q]at z;cases z
 .by_cases f:a=D
  .subst f;rw[aW]at q;cases q;cases i
  .rw[au f]at q;exact tp a o q i
 .rintro i m H2 ⟨rfl,hi,Z2,QH,fp,hh,R,zh,zD,nw,I,E,T,nd,nD,own,bb⟩;by_cases lP:i<ds.length
  .refine .inr ⟨zU i H2 (R.trans zh) lP,λH'=>∃Z2 QH fp,GW X.K CL H W1 D (((ds.take QaR).filter p).map g) QaR H' Z2 QH fp,λH' h=>⟨ds.length-QaR,We,rfl,lP,h⟩,λV k y C s0 H0 f0 os aI=>?_⟩;obtain⟨Z3,d,hd,w,rd⟩:=hy i Z2 H2 V k R zh I lP y;have O:∀a,Z2 a=none->(∃o,H2 a=some o)->Z3 a=none:=λa e ⟨o,e2⟩=>by
    cases q:Z3 a with
    | none=>rfl
    | some u=>rw[w.new a u q e]at e2;cases e2
   have aa:∀a o,Z3 a=some o->W1 a=none->H a=none:=λa o q z=>by
    cases e:Z2 a with
    | none=>exact hh.free (w.new a o q e)
    | some u=>
     have:=w.z a u e;rw[q]at this;cases this;exact nw a o e z
   have l:aU X.K CL k Z3 (((ds.take i).filter p).map g) QH fp:=T.mono w.z λa f=>by
    obtain⟨o,e⟩:=T.there a f;rw[e];exact w.h a o e
   have B:∀a∈fp,Z3 a=none/\H a=none:=λa f=>⟨O a (own a f).1 (T.there a f),(own a f).2⟩;have G:Z3 D=none:=O D zD ⟨_,E⟩;have j:k D=some (.lst QH):=w.h D _ E;have s:=hh.trans w.h;have A:=R.trans w.z;have U:=w.zh;have ar:=w.tp;clear own nw T zD E hh R zh I w O;have HR:d∈ds:=l6 hd;have uT:ds.take QaR=ds.take i++[d]:=by rw[rh,hd];rfl
   obtain⟨i3,yd⟩:=inner C s0 H0 f0 ⟨k,Z3⟩;obtain⟨ps,ax,hpl,it,ie⟩:=yd d HR;obtain⟨t,pg,ht⟩:=i3;refine⟨t,pg,ht Z3 k d ps V _ _ U rd ax λys Y=>?_⟩;have M:ys.length=n:=by rw[← Y.length];exact hpl
   have es:E1 (Xx σ ix os) (List.range' 0 n) ys=Xx σ ix (ys.map some):=by
    have:=JK (ys:=ys) (os:=os) (pre:=[]) (r:=ix.map λi=>(σ[i]?).getD none) (by rw[aI,M]);rw[M]at this;exact this
   refine⟨ys.map some,by rw[d8];exact M,es,?_⟩;rw[es];have S0:bH X.K CL ⟨k,Z3⟩ k Z3 QeX (Xx σ ix (ys.map some)) [] []:=
    ⟨⟨[],[],af1 Y ((a0 k).mono A λa f=>by cases f),.nil,uj,λa f=>by cases f⟩,.refl _,.refl _,U,λa o q z=>(by have z':Z3 a=none:=z;rw[show Z3 a=some o from q]at z';cases z'),ar,(S.Ri.mono zw).mono A⟩
   refine it.sem S0 λH4 Z4 P L S4=>?_;have ba:∀a∈fp,H4 a=k a:=λa f=>by
    obtain⟨o,e⟩:=l.there a f;rw[e];exact L a o e
   have ag:∀a,Z3 a=none->(∃o,k a=some o)->Z4 a=none:=λa e ⟨o,e2⟩=>by
    cases q:Z4 a with
    | none=>rfl
    | some u=>
     have:=S4.new a u q e;rw[show k a=none from this]at e2;cases e2
   cases hp:p d with
   | false=>
    refine Rb ⟨Z4,QH,fp,s.trans L,A.trans P,S4.zh,ag D G ⟨_,j⟩,λa o q z=>?_,S4.tp,L D _ j,?_,nd,nD,λa f=>⟨ag a (B a f).1 (l.there a f),(B a f).2⟩,We⟩
    .cases e:Z3 a with
     | none=>exact s.free (S4.new a o q e)
     | some u=>
      have:=P a u e;rw[q]at this;cases this;exact aa a o e z
    .rw[uT,mE,ue (by simp[hp]),uk,j2];exact l.mono P ba
   | true=>
    refine N4 ((ie hp) H4 Z4 (Xx σ ix (ys.map some)) [] [] _ S4 λyv H5 Z5 z5 k5 S5=>⟨QH,k5 D _ (L D _ j),We,?_⟩);obtain⟨f1,g1,e1,r1,ab,ae⟩:=S5.rep;cases r1 with
    | @cons _ _ _ _ fy fn ry rn=>
     cases rn;rw[j2]at ab ae;have aw:fy.Nodup:=(lj.1 ab).2.1;have F:∀a∈fy,Z5 a=none/\k a=none:=λa f=>ae a (i5 _ f);have Rx:∀a,Z3 a=none->(∃o,k a=some o)->Z5 a=none:=λa e ⟨o,e2⟩=>by
      cases q:Z5 a with
      | none=>rfl
      | some u=>
       have:=S5.new a u q e;rw[show k a=none from this]at e2;cases e2
     have yD:∀a∈fy,a≠D:=λa f e=>by
      subst e;rw[(F a f).2]at j;cases j
     have bc:H5 D=some (.lst QH):=k5 D _ (L D _ j);have sD:aB H (upd H5 D (.lst (QH++[yv]))):=λa o q=>by
      rw[au (aO q hD)];exact k5 a o (L a o (s a o q))
     refine⟨Z5,QH++[yv],fp++fy,sD,A.trans (P.trans z5),λa o q=>?_,Rx D G ⟨_,j⟩,λa o q z=>?_,λa o q im=>?_,aW,?_,?_,?_,λa f=>?_,?_⟩
     .rw[au (aO q (Rx D G ⟨_,j⟩))];exact S5.zh a o q
     .cases e:Z3 a with
      | none=>exact s.free (S5.new a o q e)
      | some u=>
       have:=z5 a u (P a u e);rw[q]at this;cases this;exact aa a o e z
     .by_cases f:a=D
      .subst f;rw[aW]at q;cases q;cases im
      .rw[au f]at q;exact S5.tp a o q im
     .rw[uT,mE,oP hp,uk,jI];refine aU.app (l.mono (P.trans z5) λa f=>?_) (by
       have:=aU.cons (fp:=fy) (gp:=[]) (ry.mono Qr λa f=>au (yD a f)) (aU.nil (H:=upd H5 D (.lst (QH++[yv]))) (Z:=Z5))
       rwa [j2]at this)
      have:a≠D:=λe=>nD (e▸f);rw[au this];obtain⟨o,e⟩:=l.there a f;rw[e];exact k5 a o (L a o e)
     .refine lj.2 ⟨nd,aw,λa f a' aT e=>?_⟩;subst e;obtain⟨o,e⟩:=l.there a f;rw[(F a aT).2]at e;cases e
     .intro h;obtain h|h:=gY.1 h
      .exact nD h
      .exact yD D h rfl
     .obtain h|h:=gY.1 f
      .exact⟨Rx a (B a h).1 (l.there a h),(B a h).2⟩
      .exact⟨(F a h).1,s.free (F a h).2⟩
     .rw[kr,rr];lia
  .have e:i=ds.length:=by lia
   subst e;refine .inl ⟨nQ H2 (R.trans zh),?_⟩;rw[me]at T;obtain⟨Z',z',S'⟩:=S.back (H':=H2) (W:=W1) (W':=Z2) (t:=.lst ((ds.filter p).map g)) (v:=.ref D) (fp:=D::fp) hh zw R zh nw I (.lst E T) (nP.2 ⟨nD,nd⟩) (λa f=>by
    obtain h|h:=fV.1 f
    .subst h;exact⟨zD,hD⟩
    .exact own a h) (c.imp id λc=>by
     rw[wY];exact ER λd hd=>c d (kc.1 hd).1)
   exact⟨Z',z',hh,S'⟩
end
variable{δc:BB}{ds:BA}{p:D->Bool}{g:D->T}{parts:D->EQ}
def JL{J:It}{tn:QhA}{H1:Hp}{RR:Qil}
  (sc:QdH) (G:QaK) (C:Ru X CL b δ1 σ ts vs Z H ds J H1) (I:L2.Inv X pins σ H1 s) (M:Turn X.prog X.w X.K tg J fp it tn) (st:tn 0 s.heap) (hf:∀b∈fp,oE X pins H1 b)
  (L:(δc=EV δ1 ix/\∀d∈ds,(g d).clean=true)\/δc=BX δ1 ix) (inner:Qgj) (hlen:QbG)
  (k:∀D C s' H' Z',(∃m,s'.heap.Ns C m)->(∃o,s'.heap.get? C=some o/\∀v,o.data ≠ .cell v)->H' C=none->(C≠X.env.locals/\C∉X.fs/\X.j1.heap.objs.size<=C/\(∀y c,X.env.cells.lookup y=some c->c≠C)/\∀q∈X.pn++pins,q.1≠C)->(∀h',Heap.SameBut C s'.heap h'->L2.Inv X pins σ H' {s' with heap:=h'})->aB Z Z'->aB H H'->bH X.K CL b H' Z' δ1 σ (.lst ((ds.filter p).map g)::ts) Qdj->RR Qeg C (.ok .next) s') :
  wpAny Qu X.A Qf0 (λacc h=>wpAny Qu X.A Qh4 (λt f=>
   codeAny Qu X.A (.compStart QdA 0 Qbw acc {t with scope:=relabel scope X.env}) (RR acc t.locals) f) E h) E s:=by
 obtain⟨Z1,x,k1,a,go,l,j⟩:=C.ex;have lp:∀D,H1 D=none->∃W:Nat->Nat->Hp->Prop,(∃m,W 0 m (upd H1 D Qe6))/\∀i m H2,W i m H2->(J.stop i H2/\∃Z2,aB Z1 Z2/\aB H1 H2/\bH X.K CL b H2 Z2 δ1 σ (.lst ((ds.filter p).map g)::ts) Qdj) ∨
   (J.go i H2/\∃N:Hp->Prop,(∀H',N H'->∃r,r<m/\W QaR r H')/\∀n u,J.o6 i H2 n u->∀C s0 P f0 os,os.length=xs.length->NX (cO X scope Nc C s0 P f0) tg elt ifs xs.length σ ix D N n os u):=by
  obtain⟨e,cl⟩|e:=L
  .subst e;exact yP a a.zh Qr (λ_ _ q _=>q) (Ae a ix) inner (λi H2 s=>go i H2 (a.zh.trans s)) (λi Z2 H2 y H' s=>l i Z2 H2 y H' (a.zh.trans s)) (λH2 s=>j H2 (a.zh.trans s)) hlen (.inr cl)
  .subst e;exact yP a Qr a.zh a.tp (EW a ix) inner go l j hlen Q4
 exact yO sc G I M st hf lp λD C s' H' m io B ch ci ⟨Z',z,F,O⟩=>k D C s' H' Z' m io B ch ci (x.trans z) (k1.trans F) O
def vp(sc:QdH)(I:Qbb):closureFor scope X.env=pure QbD:=
 mR λy a e=>I.ok.has y.1 (sc.frees y a e).2
def E2(sc:QdH)(j:QaK)(h:Qfk)(l:(δc=EV δ1 ix/\∀d∈ds,(g d).clean=true)\/δc=BX δ1 ix)(inner:Qgj)(hlen:QbG)
  (hs:Qca:=by intro _;rfl):cL X CL b QdA δ (.lst ((ds.filter p).map g)) δ1:=λH Z σ ts vs Q S k pins s I=>by
 obtain⟨t,pi,hw⟩:=h;refine Hf rfl hs (vp sc I) sc.kind sc.names ?_;refine fY (pi pins s σ H _ I (hw H Z σ ts vs _ S λJ H1 C=>C)) λv s1 h1=>fY h1 λf s2 zz=>?_;obtain⟨it,fp,tn,J,H1,e,r,o,st,hf,C⟩:=zz;subst e;refine JL sc j C r o st hf l inner hlen λD w s' H' Z' m io u ch ci a c q=>?_;obtain⟨m,i⟩:=m;exact⟨m,i,λh' n=>⟨.ref D,H',ci h' n,rfl,k _ H' Z' a c q⟩⟩
variable{y:Str}
def af4{D:gA}{py K:Pos}(i:Nat)(sc:QdH)(hc:QaK)(h:Qfk)(n:(δc=EV δ1 ix/\∀d∈ds,(g d).clean=true)\/δc=BX δ1 ix)(inner:Qgj)(hlen:QbG)
  (k:D.nx (δ1.set i Qk6)) (Y:QbB) (hN:QbP) (hi:X.N[i]? = some y) (V:Loc X.env.scope y) (l:AM X y)
  (BW:swapsWith QdA (some QfG) K.line X.env=pure true)
  (hs:Qca:=by intro _;rfl):Rl X CL b (.Assign [.Name y py] QdA K) δ D:=λH Z σ ts vs E S M pins s I=>by
 obtain⟨wi,pi,hw⟩:=h;rw[exec_Assign_Name_used _ _ _ _ BW];refine i8 (FV (i8 ?_));show wpAny _ X.A (do let _ ← comprehension QdA scope X.env _ Qf0 false (eval iter X.env) (some QjF)) _ _ s;refine i8 (nq (Hf (use:=some QjF) (Q:=λ_ s'=>SP X pins E .next s') rfl hs (vp sc I) sc.kind sc.names ?_) (λ_ s' c=>kX (kX c)) λ_ _ e=>e);refine fY (pi pins s σ H _ I (hw H Z σ ts vs (λJ H1=>Ru X CL b δ1 σ ts vs Z H ds J H1) S λJ H1 C=>C)) λv s1 h1=>fY h1 λU s2 zz=>?_;obtain⟨it,fp,tn,J,H1,e,I1,Tn,st,hf,C⟩:=zz;subst e;refine JL (RR:=λacc C=>compPost Qu X.A X.xe (some QjF) Qk7 acc C) sc hc C I1 Tn st hf n inner hlen λD' f s' H' Z' m io T ch ci P k' S'=>?_;obtain⟨m,W⟩:=m;obtain⟨o,F,R⟩:=io;have L:L2.Inv X pins σ H' s':=ci s'.heap (.refl ..);have I2:L2.Inv X (pins++[(f,o)]) σ H' s':=L.wR λq c=>by
  obtain z|z:=gY.1 c
  .exact L.pin q (i5 _ z)
  .have e:q=(f,o):=by simpa using z
   subst e;exact⟨F,T,ch.1,ch.2.1,R⟩
 show wpAny _ X.A (assign QfG X.env QdX) _ _ s';have hg:PG X QfG (Jv i):=tD hN hi V l;refine fY (hg _ s' σ H' QdX QdX (λa O=>a=σ.set i QhZ/\O=H') I2 rfl ⟨rfl,rfl⟩) λ_ B zz=>?_;obtain⟨a,O,u,e8,t⟩:=zz;subst e8;subst t;obtain⟨r,j,_⟩:=u.pin (f,o) (i5 _ (i5 _ WA));refine⟨m,W.at' λo' G=>by rw[F]at G;cases G;exact r,λh' Xy=>?_⟩;have I9:L2.Inv X pins (σ.set i QhZ) _ B:=u.wR λq c=>u.pin q (i5 _ (ka _ c));have x:=I9.turned (it:=f) (h':=h') (t':=B.toks) (λb o n e=>(Xy.2 b n).trans e) j ch.1.symm.symm (.inr ch.2.2.1) ch.2.2.2.1 ch.2.2.2.2;exact⟨_,_,x,M.nx _ _ _ Z' P (S'.set Y) k⟩
variable{pos':Pos}
def alH{D:gA}(c:Gx X)(n:QbT)(sc:QdH)(h:Qfk)
  (f:(δc=EV δ1 ix/\∀d∈ds,(g d).clean=true)\/δc=BX δ1 ix) (inner:Qgj) (hlen:QbG) (k:fh X CL b gP (δ1.set i Qk6) D) (e:QbB)
  (a:swapsWith Qh9 Qf1 pos.line X.env=pure true\/swapsWith Qh9 Qf1 pos.line X.env=pure false) (hs:Qca:=by intro _;rfl) :
  fh X CL b (.Assign [.Name x pos'] Qh9 pos::gP) δ D:=by
 obtain a|a:=a
 .exact cN (af4 i sc c.calm h f inner hlen k e c.nd n.hi n.loc n.hf a hs)
 .exact cN (aaT i (E2 sc c.calm h f inner hlen hs) k e c.nd n.hi n.loc a n.hf)
noncomputable def O3(scope:Scope)(xs a:At):Bool:=
 scope.kind == .function&&xs.all (λy=>scope.names.lookup y==some .local)&&a.all QkH&&decide ((xs++a).Nodup) &&
  scope.names.all λy=>y.2 != .cell&&(y.2 != .local || scope.names.lookup y.1==some .local)&&(y.2 != .free || Qky)
theorem af5{d:At}(c:FC X ix d)(ok:O3 scope xs d=true):tM X scope xs (xs++d) ix:=by
 unfold O3 at ok;simp only[lh,wd,tI,tF]at ok;obtain⟨⟨⟨⟨h1,h2⟩,h⟩,g⟩,b⟩:=ok;have j:∀y∈d,X.env.kindOf y=some .cell\/X.env.kindOf y=some .free:=by
  clear h g b
  induction c with
  | nil=>intro y a;cases a
  | cons n k r f=>
   intro y a;obtain e|a:=fV.1 a
   .subst e;exact k
   simp_all
 refine⟨h1,λy a e=>?_,g,λy a e=>?_,h2,λy a e=>?_,?_,λi hi=>?_⟩
 .have:=(b y a).1.1;rw[e]at this;simp at this
 .have:=(b y a).1.2;rw[e]at this;simpa using this
 .have:=(b y a).2;simp_all
 .congr 1;clear h g b j
  induction c with
  | nil=>rfl
  | cons n k r f=>rw[nH,n.hi,← f]
 .clear g b j
  induction c with
  | nil=>cases hi
  | @cons l y ix ys n k r f=>
   obtain e|hi:=fV.1 hi
   .subst e;exact⟨y,n.hi,h y gj⟩
   .exact f (λz hz=>h z QcH) hi
variable{C:Addr}
def Ry(h1:Nc[i]? = some x)(h2:QgL)(hd:AD x:=by decide)(kN:AE x:=by decide):Ln Qa9 i x:=
 ⟨aaV h1 h2 hd kN,.inl (G1 h2),.inr (G1 h2)⟩
def Ite(K:Frag)(a:Addr):It:=
 ⟨λi H=>∃xs x,nS K H a xs/\xs[i]? = some x,λi H x H'=>∃T y,H T=none/\x=.ref T/\(∀xs,nS K H a xs->xs[i]? = some y)/\H'=upd H T (.tup [.int i,y]),λi H=>∃xs,nS K H a xs/\xs.length<=i⟩
variable{elts:CU}{kk:Nat}{pt:Pos}
theorem XC(a e it:Addr)(S:e≠it):Turn P w K Qhu (Ite K a) [e,it] e (λi h=>(∃old,PySem.IsEnum h e it i old)/\h.IsListIter it a i) where
 mem:=by simp
 obj:=λi h st b g=>by
  obtain⟨⟨old,he⟩,hit⟩:=st;obtain z|z:=fV.1 g
  .subst z;exact⟨_,he,λv z=>by
    have T:Data.fields _=Data.cell v:=z;cases T⟩
  .have z:b=it:=by simpa using z
   subst z;obtain⟨o,e,c,d⟩:=hit;exact⟨o,e,λv z=>by rw[d]at z;cases z⟩
 keep:=λi h h' st k=>by
  obtain⟨⟨old,he⟩,hit⟩:=st;exact⟨⟨old,k e WA _ he⟩,hit.at λo q=>k it WA o q⟩
 item:=by
  intro X N hw O f i pins s σ H E I hf st G;subst N hw O;obtain⟨xs,x,A,D⟩:=G;obtain⟨its,C,p,hz⟩:=I.list A;obtain⟨u,W,U⟩:=C.get D;obtain⟨⟨old,he⟩,hit⟩:=st;have t:=hf e WA;have fi:=hf it WA;have l:H s.heap.objs.size=none:=I.fQ.fresh (gZ _);have B:=I.HG (gZ s.heap.objs.size) l;refine PySem.wpAny_pyNext_enum_item he hit p.isList (x:=u) (by simpa using W) S λh' F R Z hsz Y=>⟨_,rfl,?_⟩;refine PySem.wpAny_letOwnedTupleGo_enum F λh2 J y=>?_;replace y:Heap.SameBut e h' h2:=y;have eT:e<s.heap.objs.size:=km he;have keep:∀b o,b≠e->b≠it->s.heap.get? b=some o->h2.get? b=some o:=λb o h1 h3 q=>(y.2 b h1).trans (Y b o h1 h3 q);have M:h2.get? s.heap.objs.size=some {cls:=.type "tuple",data:=.seq #[.int i s.toks,u]}:=(y.2 _ (Nat.ne_of_gt eT)).trans Z;have j:∀b o,H b=some o->b≠e/\b≠it/\b≠s.heap.objs.size:=λb o q=>⟨λz=>(by rw[z,t.1]at q;cases q),λz=>(by rw[z,fi.1]at q;cases q),λz=>(by rw[z,l]at q;cases q)⟩;have I':L2.Inv X pins σ (upd H s.heap.objs.size (.tup [.int i,x])) {s with heap:=h2,toks:=s.toks+1}:=by
   refine I.step (g':=s.gens) (d':=s.drawn) (ch:=[e,it,s.heap.objs.size]) (λb g=>?_) (λb o _ _ f q _=>?_) (λb o _ _ f q _=>⟨o.slots,?_⟩) (λb o f q n=>?_) (λb o f q=>⟨o,?_⟩) (λb ys q=>?_) (λb o u q=>?_) (λb ps q=>⟨#[],?_⟩) (λm hm=>?_) (λb o q=>?_) I.bare
   .obtain z|g:=fV.1 g
    .subst z;exact⟨t.2.2.2.1,t.2.1,t.2.2.2.2.1,t.2.2.2.2.2⟩
    .obtain z|g:=fV.1 g
     .subst z;exact⟨fi.2.2.2.1,fi.2.1,fi.2.2.2.2.1,fi.2.2.2.2.2⟩
     .have z:b=s.heap.objs.size:=by simpa using g
      subst z;exact⟨B.2.2.2.1,B.2.1,B.2.2.2.2.1,B.2.2.2.2.2⟩
   .exact keep b o (λz=>f (by simp[z])) (λz=>f (by simp[z])) q
   .exact keep b o (λz=>f (by simp[z])) (λz=>f (by simp[z])) q
   .rw[au (λz=>f (by simp[z]))];exact n
   .exact keep b o (λz=>f (by simp[z])) (λz=>f (by simp[z])) q
   .rw[au (j b _ q).2.2];exact q
   .rw[au (j b _ q).2.2];exact q
   .rw[au (j b _ q).2.2,q];simp
   .obtain⟨o,es,ep,F,r⟩:=hm;exact⟨o,es,ep,keep _ o (mM t.2.1) (mM fi.2.1) F,r⟩
   .by_cases g:b=s.heap.objs.size
    .subst g;rw[aW]at q;cases q;exact⟨ml (cV Qbd),[.int i s.toks,u],.cons ⟨s.toks,rfl⟩ (.cons U .nil),⟨_,M,rfl,_,rfl⟩⟩
    .rw[au g]at q;refine(I.fQ b o q).DF (λc v f z=>keep c v ?_ ?_ z) (λc z=>by rw[au (j c _ z).2.2];exact z) (λc ys z=>by rw[au (j c _ z).2.2];exact z) λc ys z=>by rw[au (j c _ z).2.2];exact z
     .obtain z|z:=f
      .rw[z];exact(j b _ q).1
      .exact(j c _ z).1
     .obtain z|z:=f
      .rw[z];exact(j b _ q).2.1
      .exact(j c _ z).2.1
  have ei:((i+1:Nat):Int)=(i:Int)+1:=by lia
  refine⟨.ref s.heap.objs.size,_,I',rfl,⟨_,x,l,rfl,λys V=>by rw[I.EC V A];exact D,rfl⟩,⟨⟨u,by rw[ei];exact J⟩,R.at λo q=>(y.2 it (mM S)).trans q⟩,λb g=>?_⟩;have L:=hf b g;obtain⟨o,ZW,_⟩:∃o,s.heap.get? b=some o/\True:=by
   obtain z|z:=fV.1 g
   .subst z;exact⟨_,he,trivial⟩
   .have z:b=it:=by simpa using z
    subst z;obtain⟨o,q,_⟩:=hit;exact⟨o,q,trivial⟩
  rw[au (ll (km ZW))];exact L.1
 done:=by
  intro X N hw O f i pins s σ H E I hf st G;subst N hw O;obtain⟨xs,A,D⟩:=G;obtain⟨its,C,p,hz⟩:=I.list A;obtain⟨⟨old,he⟩,hit⟩:=st;obtain⟨f0,f1,f2,f3,f4,f5⟩:=hf it WA;have hl:=C.length;exact PySem.wpAny_pyNext_enum_end (I.ok.hd f) he hit p.isList WI λh' eb=>⟨rfl,I.turned (t':=s.toks) (λb o g e=>eb b o g e) f0 f1 f3 f4 f5⟩
 self:=λ_ _ _ _ _ st h=>by
  obtain⟨⟨old,he⟩,_⟩:=st;exact PySem.wpAny_pyIter_enum he h
def apR(K:Frag)(ta:TA):TI:=λσ H R=>ta σ H λvs H1=>∃a xs,vs=[.ref a]/\nS K H1 a xs/\R (Ite K a) H1
theorem af6{a:Expr}{ta:TA}{p:Pos}(k:Gl X "enumerate")(hm:Qjx)(n:PA X [a] ta)(hs:AC X a []):PI X Qhu (.Call (.Name "enumerate" p) [a] [] pos) (apR X.K ta):=by
 intro pins s σ H R I h;refine Call_ (qT I k hm boot_enumerate (wy (fY QiZ λus s1 zz=>?_) hs rfl));obtain⟨vs,H1,c,f,g⟩:=zz;obtain⟨l,xs,e,i,q⟩:=g;subst e;cases f with
 | cons r d=>
  cases d;cases r;obtain⟨its,t,p,hz⟩:=c.list i;refine PySem.call_enumerate_list p.isList λh' he hit hsz j=>?_;have o:=c.kept (t':=s1.toks) j;refine PySem.wpAny_pyIter_enum he ?_;refine⟨ _,_,_,_,H1,rfl,o,XC l _ _ (Nat.succ_ne_self _),⟨⟨_,he⟩,hit⟩,λb m=>?_,q⟩;obtain z|z:=fV.1 m
  .subst z;exact c.HG (mI _) (c.fQ.fresh (mI _))
  .have z:=by simpa using z
   subst z;exact c.HG (gZ _) Qhq
noncomputable def E3(ds:BA):BA:=(List.range ds.length).map λ(i:Nat)=>.tup [.int i,ds.getD i .non]
def JM(ds:BA):(E3 ds).length=ds.length:=by simp[E3]
def XD{ds:BA}{d:D}(h:ds[i]? = some d):(E3 ds)[i]? = some (.tup [.int i,d]):=by
 have hi:=(kO.1 h).1;unfold E3;rw[k4,oT hi];show some (D.tup _)=_;rw[la,h];rfl
variable{ds:BA}
theorem af7(hm:Qjx)(h:QgD)(p:Gl X "enumerate")(hs:Qad:=by exact bq rfl):uX X CL b Qhu QkQ δ (E3 ds) δ1:=by
 refine⟨_,af6 p hm QaF hs,λH Z σ ts vs R S k=>h H Z σ ts vs _ S λv H1 Z1 l k1 f=>?_⟩;obtain⟨fp,gp,_,r,_,_⟩:=f.rep;cases r with
 | cons r _=>
  replace r:=r.KD;obtain⟨rfl,r⟩:=r;obtain⟨a,us,rfl,c,g⟩:=r.gV;have o:=g.length;refine⟨a,us,rfl,f.zh.seq c,k _ _ ⟨Z1,l,k1,f.pop,λi H2 s hi=>?_,λi Z2 H2 x H' s1 s2 tp hi m=>?_,λH2 s=>?_⟩⟩
  .rw[JM]at hi;have t:i<us.length:=o▸hi;exact⟨us,_,s.seq c,ma t⟩
  .obtain⟨T,y,q,rfl,n,rfl⟩:=m;obtain⟨d,hd,rd⟩:=g.Xn (n us ((s1.trans s2).seq c));have j:=K1.tup (xs:=[.int i,y]) s2 tp q;exact⟨_,_,XD hd,j,.tup (zY.of aW) (.cons Qbx (.cons ((rd.mono s1).mono j.z) .nil))⟩
  .rw[JM];exact⟨us,s.seq c,by simp_all ⟩
noncomputable def insI(x:Int):AT->AT
 | []=>[x]
 | y::l=>if x<=y then x::y::l else y::insI x l
def sortI:AT->AT
 | []=>[]
 | x::l=>insI x (sortI l)
theorem insI_perm(x:Int):∀l,(insI x l).Perm (x::l)
 | []=>.refl _
 | y::l=>by
  rw[insI];split
  .exact .refl _
  .exact((insI_perm x l).cons y).trans (.swap x y l)
theorem sortI_perm:∀l,(sortI l).Perm l
 | []=>.refl _
 | x::l=>(insI_perm x _).trans ((sortI_perm l).cons x)
def eZ{x:Int}:x∈sortI l↔x∈l:=(sortI_perm l).mem_iff
def pF(l:AT):(sortI l).length=l.length:=(sortI_perm l).length_eq
theorem De(x:Int):∀{l:AT},l.Pairwise (· <= ·)->(insI x l).Pairwise (· <= ·)
 | [],_=>r3 _ _
 | y::l,h=>by
  rw[insI];obtain⟨h1,h2⟩:=l9.1 h;split
  .rename_i e;refine l9.2 ⟨λz hz=>?_,h⟩;obtain rfl|hz:=fV.1 hz
   .exact e
   .exact Int.le_trans e (h1 z hz)
  .refine l9.2 ⟨λz hz=>?_,De x h2⟩;obtain rfl|hz:=fV.1 ((insI_perm x l).mem_iff.1 hz)
   .lia
   simp_all
theorem kW:∀l,(sortI l).Pairwise (· <= ·)
 | []=>.nil
 | x::l=>De x (kW l)
theorem Df:∀{a b:AT},a.Perm b->a.Pairwise (· <= ·)->b.Pairwise (· <= ·)->a=b
 | [],b,p,_,_=>(List.nil_perm.1 p).symm
 | x::a,[],p,_,_=>absurd p.length_eq WA
 | x::a,y::b,p,d,c=>by
  obtain⟨a1,a2⟩:=l9.1 d;obtain⟨b1,b2⟩:=l9.1 c;have e:x=y:=by
   have h1:=p.mem_iff.1 gj;have h2:=p.mem_iff.2 gj;obtain e|h1:=fV.1 h1
   .exact e
   .obtain e|h2:=fV.1 h2
    .exact e.symm
    .exact Int.le_antisymm (a1 y h2) (b1 x h1)
  subst e;rw[Df (List.Perm.cons_inv p) a2 b2]
def Ak{z:AT}(p:z.Perm l)(s:z.Pairwise (· <= ·)):z=sortI l:=Df (p.trans (sortI_perm l).symm) s (kW l)
def aa9(s:l.Pairwise (· <= ·)):sortI l=l:=(Ak Qr s).symm
theorem tN:∀{us:B1} {ns:AT},IntsAre us ns->Vals QbZ us
 | _,_,.nil=>.nil
 | _,_,.cons n t r=>.cons ⟨t,rfl⟩ (tN r)
theorem K2:rW X Qhp (λxs H Q=>∃p ns,xs=[.ref p]/\nS X.K H p (ns.map .int)/\ns.length<64/\∀l,H l=none->Q (.ref l) (upd H l (.lst ((sortI ns).map .int)))):=by
 intro pins s σ H xs us Q I r h;obtain⟨p,ns,rfl,d,f,q⟩:=h;obtain⟨u,rfl,b⟩:=vals1 r;cases b;obtain⟨its,a,pl,hz⟩:=I.list d;have hlen:=a.length;rw[d8]at hlen;refine sorted_ints pl.isList (intsAre_of a) We λout c a1 a2 a3=>?_;obtain⟨e,he⟩:=sortedAll_at _ its out;have e2:=Ak a2 a3;subst e2;refine⟨.ref _,_,I.laid (λ_ _=>sortedAll_old) (mI _) (show g6 _ X.w _ _ _ Qdy from⟨?_,_,e,tN a1,?_⟩),rfl,q _ Qjt⟩
 .rw[d8,pF];simp_all
 omega
def tP:bootBuiltins "sorted" = some Qhp:=by decide +kernel
theorem sf(h:ay K CL Z QfW us):us=l.map V.int:=by
 refine ay.ind (P:=λds us=>∀l,ds=l.map D.int->us=l.map V.int) ?_ ?_ h l rfl
 .simp_all
 .intro d v ds vs r _ i l e;cases l with
  | nil=>cases e
  | cons a l=>
   injection e with e1 e2;subst e1;rw[i l e2];cases r;rfl
theorem ints_rep{K:Frag}{Z:Hp}:∀(l:AT),ay K CL Z QfW (l.map V.int)
 | []=>.nil
 | _::l=>.cons Qbx (ints_rep l)
def kg(hm:QhE)(h:Qiy)(j:l.length<64)(m:Gl X "sorted")(hs:Qad:=by exact bq rfl):cL X CL b (.Call Qjy [e] [] pos) δ (.lst (((sortI l).map D.int).map T.sh)) δ1:=λH Z σ ts vs Q S k=>
 cI (rZ K2 m hm tP QaF (he:=hs)) (h H Z σ ts vs _ S λv H1 Z1 d k1 o r=>by
  obtain⟨a,us,rfl,g,f⟩:=r.gV;have:=sf f;subst this;refine⟨a,l,rfl,g,j,λp i=>?_⟩;obtain⟨c,n⟩:=(bH.oA (ints_rep _) o).j8 (g0:=[]) WA i;exact k _ _ _ d Qcu n)
def XE(j:QaK):rW X (.builtin "sum") (λxs H Q=>∃(p:Addr) (ns:AT),xs=[.ref p]/\nS X.K H p QbZ/\Q (.int ns.sum) H):=by
 intro pins s σ H xs us Q I r h;obtain⟨p,ns,rfl,g,q⟩:=h;obtain⟨u,rfl,d⟩:=vals1 r;cases d;obtain⟨its,f,pl,hz⟩:=I.list g;have hi:=intsAre_of f;obtain⟨xs,a⟩:=hi.allInts.items;have b:=hi.numsOf;have c:=pl.isList;rw[a]at c;refine sum_intListG (I.ok.hd j) c λh' tk t' i=>⟨ _,H,I.kept i,?_,q⟩;refine⟨t',?_⟩;have e:its=(intItems xs).toList:=by rw[← a]
 rw[e,nums_intItems]at b;rw[preSum_eq,List.take_of_length_le WA,b]
def XF:bootBuiltins "sum" = some (.builtin "sum"):=by decide +kernel
def af8(g:Gx X)(hm:X.mg "sum" = none)(h:Qiy)(i:Gl X "sum")(hs:Qad:=by exact bq rfl):cL X CL b (.Call (.Name "sum" pp) [e] [] pos) δ (.sh (.int l.sum)) δ1:=λH Z σ ts vs Q S k=>
 cI (rZ (XE g.calm) i hm XF QaF (he:=hs)) (h H Z σ ts vs _ S λv H1 Z1 c k1 j r=>by
  obtain⟨a,us,rfl,f,d⟩:=r.gV;have:=sf d;subst this;exact⟨a,l,rfl,f,k _ H1 Z1 c k1 (j.push Qbx)⟩)
def Rz:typeLookup (.type "list_reverseiterator") "__len__" = pure none:=by kernel_rfl
def abb:typeLookup (.type "list_reverseiterator") "__length_hint__" = pure (some (.builtin "list_reverseiterator.__length_hint__")):=by kernel_rfl
def abd{l:Addr}{i:Int}{Q:Bool->Shared->Prop}(e:s.heap.IsRevIter it l i)(h:Q false s):wpAny Qal A (Builtin.List.listLengthHint Qbw) Q E s:=by
 unfold Builtin.List.listLengthHint;refine i8 (wpAny_specialOf e.typeIs Rz ?_);refine i8 (wpAny_specialOf e.typeIs abb ?_);generalize a:("list_reverseiterator.__length_hint__":String)=d
 wp_delta
 rw[show splitId d=some ("list_reverseiterator","__length_hint__") from by subst a;decide +kernel];subst a;refine i8 (wpAny_isInstance (T:="list_reverseiterator") (b:=true) e.typeIs (by rw[isSubtype_type];kernel_rfl) ?_);refine wpAny_ite_split (λc=>absurd c Wp) (λ_=>?_);refine wpAny_ite_split (λ_=>?_) (λc=>absurd Wl c);refine wpAny_ite_split (λc=>absurd c Wl) (λ_=>?_);exact kX h
variable{items:CS}
theorem RA{l:Addr}(E:QeM)(n:Qic)(D:Qjm)(C:l≠it)(hlen:QjP)(S:Addr)(res:Value)(c₀:Nat)
  (y:s.heap.get? S=some {cls:=.type "list",data:=.seq #[] c₀}) (d:S≠it) (k:S≠l)
  (G:∀h' tk m g,(∀b o,b≠S->b≠it->s.heap.get? b=some o->h'.get? b=some o)->h'.get? S=some {cls:=.type "list",dict:=none,data:=.seq m g,slots:=#[]} →
   ItemsOf (λi v=>items[items.size-1-i]? = some v) m items.size->R (.ok (.ret res)) {s with heap:=h',toks:=tk}) :
  wpAny Qal A.in1 (Builtin.List.listExtendWith (.ref S) Qbw res)
   (λfin s'=>match fin with | .done f=>R (.ok f) s' | .again g=>g.quiet=true/\codeAny (model prog w) A g R s') (λe s'=>R (.error e) s') s:=by
 have W:=(Walks.listRev (prog:=prog) (w:=w) (A:=A.in1) E it l C items).toS;have u:S∉[it,l]:=λh=>by
  obtain e|h:=fV.1 h
  .exact d e
  .exact k (kf.1 h)
 have e0:(items.size:Int)-1=(items.size:Int)-1-((0:Nat):Int):=by lia
 have key:∀(h:Heap) (c₁ tk:Nat),(∀b o,b≠S->s.heap.get? b=some o->h.get? b=some o) →
   h.get? S=some {cls:=.type "list",data:=.seq #[] c₁}->codeAny Qal A (.builtin "list.extend.loop" ⟨[.ref S,.ref it,res],[]⟩) R {s with heap:=h,toks:=tk}:=by
  intro h c₁ tk r c;have hit:h.IsRevIter it l ((items.size:Int)-1-((0:Nat):Int)):=e0▸n.at λo q=>r it o (mM d) q;have p:h.IsList l items:=D.at λo q=>r l o (mM k) q;refine codeAny_extend_loopS W hlen S u res items.size 0 _ #[] c₁ rfl (kn _) ⟨kn _,hit,p⟩ c (ItemsOf.nil _) λs' m g hm x J=>?_;rw[Moved.eq_with hm];refine G s'.heap s'.toks m g (λb o j t e=>hm.heap b o (λz=>?_) (r b o j e)) x J;obtain I|z:=fV.1 z
  .exact j I
  .exact t (kf.1 z)
 unfold Builtin.List.listExtendWith;refine i8 (wpAny_typeOf (T:="list_reverseiterator") n.typeIs ?_);have h1:Builtin.List.listSameRef (.ref S) Qbw=false:=by simp[Builtin.List.listSameRef,d]
 have h2:(Value.type "list_reverseiterator" == Value.type "list")=false:=by decide
 have H:(Value.type "list_reverseiterator" == Value.type "tuple")=false:=by decide
 simp only[h1,h2,H,Bool.or_false,n6,n4];refine i8 (wpAny_pyIter_revIter n ?_);refine i8 (x5 (abd n ?_));refine wpAny_ite_split (λ_=>?_) (λ_=>kX ⟨plainId_quiet F.plain_extend_loop _,key _ c₀ _ (λb o _ e=>e) y⟩);refine i8 (wpAny_rule ?_);refine i8 ?_;show wpAny _ _ (updateSeq S (·.push .none) >>= λ_=>updateSeq S (·.pop)) _ _ _;refine i8 (wpAny_updateSeq y rfl ?_);have B:=KA (Obj.mapSeq (·.push Value.none)) y rfl;refine wpAny_updateSeq (hz:=by seq_fits) B rfl ?_;have a:=KA (Obj.mapSeq (·.pop)) B rfl;refine kX ⟨plainId_quiet F.plain_extend_loop _,key _ _ _ (λb o j e=>?_) a⟩;exact(Hc _ _ (mM j)).trans ((Hc _ _ (mM j)).trans e)
def HS{l:Addr}(u:QeM)(p:Qic)(r:Qjm)(n:l≠it)(hlen:QjP)(S:Addr)
  (m:s.heap.get? S=some {cls:=.type "list",data:=.seq #[]}) (d:S≠it) (c:S≠l)
  (x:∀h' tk g a,(∀b o,b≠S->b≠it->s.heap.get? b=some o->h'.get? b=some o)->h'.get? S=some {cls:=.type "list",dict:=none,data:=.seq g a,slots:=#[]} →
   ItemsOf (λi v=>items[items.size-1-i]? = some v) g items.size->R (.ok (.ret .none)) {s with heap:=h',toks:=tk}) :
  wpAny Qal A.in1 (Builtin.«list.__init__» ⟨[.ref S,.ref it],[]⟩)
   (λfin s'=>match fin with | .done f=>R (.ok f) s' | .again a=>a.quiet=true/\codeAny (model prog w) A a R s') (λe s'=>R (.error e) s') s:=by
 refine i8 ?_;unfold Builtin.List.listItems;refine i8 (wpAny_seqItems m rfl (kX ?_));refine i8 (wpAny_updateSeq m rfl ?_);have y:=KA (Obj.mapSeq (λ_=>(#[]:CS))) m rfl;have Al:∀b o,b≠S->s.heap.get? b=some o->(s.heap.update S (Obj.mapSeq (λ_=>(#[]:CS)))).get? b=some o:=
  λb o h e=>(Hc _ _ (mM h)).trans e
 refine i8 (wpAny_letGo ?_);refine RA u (p.at λo q=>Al it o (mM d) q) (r.at λo q=>Al l o (mM c) q) n hlen S .none _ y d c λh' tk g a t k z=>?_;exact x h' tk g a (λb o h j e=>t b o h j (Al b o h e)) k z
def HV{Q:B0}{l:Addr}(r:QeM)(h:Qic)(j:Qjm)(m:l≠it)(hlen:QjP)
  (hQ:∀h' tk d g,(∀b o,b≠it->s.heap.get? b=some o->h'.get? b=some o) →
   h'.get? s.heap.objs.size=some {cls:=.type "list",dict:=none,data:=.seq d g,slots:=#[]}->ItemsOf (λi v=>items[items.size-1-i]? = some v) d items.size->Q Qet {s with heap:=h',toks:=tk}) :
  wpAny Qal A (call QeH [.ref it]) Q E s:=by
 refine callType_codes (Q₁:=λobj a=>obj=.ref s.heap.objs.size/\a={s with heap:=s.heap.push _}) F.called_list (F.typeCall_list_1 _) F.entry_list_init
  (code_list_new _ ⟨rfl,rfl⟩) λobj a c=>?_
 obtain⟨rfl,rfl⟩:=c;have k:(s.heap.push _).get? s.heap.objs.size=some {cls:=.type "list",data:=.seq #[]}:=mv _ rfl;have hit:it<s.heap.objs.size:=by obtain⟨o,e,_⟩:=h;exact km e
 have n:l<s.heap.objs.size:=by obtain⟨o,e,_⟩:=j;exact km e
 refine⟨⟨_,k,rfl⟩,F.args_list_init_2 _ _,HS (A:=A.in1) r (h.at λo q=>kx _ q) (j.at λo q=>kx _ q) m hlen _ k (Nat.ne_of_gt hit) (Nat.ne_of_gt n) λh' tk d g p f u=>?_⟩;exact⟨rfl,hQ h' tk d g (λb o t e=>p b o Qf4 t (kx _ e)) f u⟩
theorem XG{acc:CS}(h:ItemsOf (λi v=>items[items.size-1-i]? = some v) acc items.size):acc.toList=items.toList.reverse:=by
 obtain⟨h1,h2⟩:=h;apply we;intro j;by_cases a:j<items.size
 .rw[List.getElem?_reverse (‹_›)];simp_all
 simp_all
theorem Vals.rev:∀{xs:BY} {us:B1},Vals xs us->Vals xs.reverse us.reverse
 | [],_,.nil=>.nil
 | _::_,_,.cons r a=>by
  rw[nc,nc];exact Vals.append (Vals.rev a) (.cons r .nil)
def tLR(K:Frag)(ta:TA):TE:=λσ H Q=>ta σ H λvs H1=>∃a xs,vs=[.ref a]/\nS K H1 a xs/\∀l,H1 l=none->Q (.ref l) (upd H1 l (.lst xs.reverse))
def RB{x:Expr}{ta:TA}{p q pq:Pos}(D:QaK)(i:Qge)(v:QfL)(g:QhO)(d:Qht)(E:PA X [x] ta)(hs:AC X x [])
  (t:starEach [.Call Qhk [x] [] pq] X.env=(false,eval (.Call Qhk [x] [] pq) X.env)::starEach [] X.env):PE X (.Call (.Name "list" p) [.Call Qhk [x] [] pq] [] pos) (tLR X.K ta):=by
 intro pins s σ H Q I h;refine tJ (qT I i v cH ?_ Wp Wp);refine wy ?_ t rfl;rw[t];show wpAny _ _ (spliced ((false,eval (.Call Qhk [x] [] pq) X.env)::backTo pos Qfx)) _ _ s;refine Kj ?_;refine Call_ (qT I g d boot_reversed (wy (fY (E pq pins s σ H _ I h) λus s1 zz=>?_) hs rfl));obtain⟨vs,H1,a,z,A⟩:=zz;obtain⟨l,xs,e,B,q⟩:=A;subst e;cases z with
 | cons r y=>
  cases y;cases r;obtain⟨its,m,p,hz⟩:=a.list B;have f:=m.length;refine PySem.call_reversed_list p.isList ?_;refine Calls.spliced_nil ?_;have F:l<s1.heap.objs.size:=by obtain⟨o,e,_⟩:=p.isList;exact km e
  have st:PySem.Heap.IsRevIter (s1.heap.push Qgo) s1.heap.objs.size l ((its.toArray.size:Int)-1):=⟨_,mv _ rfl,rfl,rfl⟩;refine HV (s:={s1 with heap:=s1.heap.push Qgo}) (a.ok.hd D) st (p.isList.at λo q=>kx _ q) (ll F) (by rw[oD,← f];exact hz) λh' tk c n C k J=>?_;have hsz:(s1.heap.push Qgo).objs.size=s1.heap.objs.size+1:=Heap.size_push ..;have j:h'.get? (s1.heap.objs.size+1)=some {cls:=.type "list",dict:=none,data:=.seq c n,slots:=#[]}:=hsz▸k;have G:c.toList=its.reverse:=by simpa using XG J
  show EP X pins σ Q (.ref (s1.heap.push Qgo).objs.size) _;rw[hsz];refine⟨.ref (s1.heap.objs.size+1),_,a.laid (t':=tk) (λb u e=>C b u Qf4 (kx _ e)) (mI _) (show g6 X.prog X.w _ _ _ (.lst xs.reverse) from⟨by rw[t4];exact hz,its.reverse,n,Vals.rev m,?_⟩),rfl,q _ (a.fQ.fresh (mI _))⟩;have e2:c=its.reverse.toArray:=by rw[← G]
  rw[← e2];exact j
variable{pq:Pos}{ds:BA}
theorem ay.rev{ds:BA}(r:QfP):ay K CL Z ds.reverse us.reverse:=by
 have go:∀{ds:BA} {us:BY} {es:BA} {ws:BY},ay K CL Z ds us->ay K CL Z es ws->ay K CL Z (ds.reverse++es) (us.reverse++ws):=by
  intro ds us es ws r
  induction ds generalizing us es ws with
  | nil=>cases r;simp_all
  | cons d ds c=>
   cases r with
   | cons b a=>
    intro q;rw[nc,nc,jc,jc];exact c a (.cons b q)
 simpa using go r .nil
def E4(g:Gx X)(n:QfL)(a:Qht)(h:Qck)(hi:QbR)(f:Qge)(d:QhO)(hs:Qad:=by exact bq rfl)
  (s:starEach [.Call Qjf [e] [] pr] X.env=(false,eval (.Call Qjf [e] [] pr) X.env)::starEach [] X.env:=by exact bq rfl):cL X CL b (.Call (.Name "list" pp) [.Call Qjf [e] [] pr] [] pos) δ (.lst (ds.reverse.map T.sh)) δ1:=λH Z σ ts vs Q S k=>
 cI (RB g.calm f n d a QaF hs s) (h H Z σ ts vs _ S λv H1 Z1 m k1 j r=>by
  obtain⟨_,_,rfl,o,i⟩:=r.gV;refine⟨_,_,rfl,o,λl p=>?_⟩;obtain⟨c,q⟩:=(bH.oA (ay.rev (ay.tG j.tp hi i)) j).j8 (g0:=[]) (by simp[i.length]) p;exact k _ _ _ m Qcu q)
theorem jL{f:α->β}{l:QR}{d:β}(h:(l.map f)[j]? = some d):∃x,d=f x/\l[j]? = some x/\x∈l/\j<l.length/\l.drop j=x::l.drop QA/\l.take QA=l.take j++[x]:=by
 rw[k4]at h;cases a:l[j]? with
 | none=>rw[a]at h;cases h
 | some x=>
  rw[a]at h;cases h;have b:=(kO.1 a).1;have e:=(kO.1 a).2;exact⟨x,rfl,rfl,l6 a,b,by rw[x9 b,e],by rw[rh,a];rfl⟩
noncomputable def D.ox:L3.D->L3.D
 | .tup (a::_)=>a
 | d=>d
noncomputable def D.at2:L3.D->L3.D
 | .tup (_::a::_)=>a
 | d=>d
def XH(f:α->L3.D)(z:α)(l:QR):E3 Qdr=(List.range l.length).map λ(i:Nat)=>L3.D.tup [.int i,f (l.getD i z)]:=by
 unfold E3;rw[d8];apply nz;intro i hi;have hi:=mN.1 hi;have:(l.map f).getD i .non=f (l.getD i z):=by
  rw[la,la,k4,ma hi];rfl
 rw[this]
def Ol{f:α->L3.D}{l:QR}(z:α)(hm:Qjx)(h:cL X CL b e δ (.sh (.lst Qdr)) δ1)(a:Gl X "enumerate")(hs:Qad:=by exact bq rfl) :
  uX X CL b Qhu QkQ δ ((List.range l.length).map λ(i:Nat)=>L3.D.tup [.int i,f (l.getD i z)]) δ1:=by
 have:=af7 (elts:=elts) (kk:=kk) (pt:=pt) (pr:=pr) (pc:=pc) hm h a hs
 rwa [XH f z l]at this
theorem Dg:∀(l r:AT),PyData.eqvAll (D.vn (l.map L3.D.int)) (D.vn (r.map L3.D.int))=decide (l=r)
 | [],[]=>rfl
 | [],_::_=>rfl
 | _::_,[]=>rfl
 | x::l,y::r=>by
  rw[js,js,D.vn,D.vn,PyData.eqvAll,Dg l r,D.toPy,D.toPy,PyData.eqv];by_cases e:x=y
  .subst e;simp
  simp_all
def abf(l r:AT):Rp Qh0 (.lst (r.map .int))=decide (l=r):=by
 unfold Rp;rw[D.toPy,D.toPy,PyData.eqv,Dg]
variable{ds:BA}
def apW(K:Frag):R2:=λx y H Q=>∃l k xs,x=.ref l/\y=.int k/\nS K H l xs /\ -(2 ^ 63)<=k/\k<2 ^ 63/\xs.length*k.toNat<=sizeLine ∧
 ∀p,H p=none->Q Qdv (upd H p (.lst (List.replicate k.toNat xs).flatten))
theorem af9:z7 X (binaryOp .Mult) (apW X.K):=by
 intro pins s σ H x y v u Q I j i h;obtain⟨l,k,xs,rfl,rfl,p,h1,h2,hz,q⟩:=h;cases j;obtain⟨t,rfl⟩:=i;obtain⟨its,r,pl,_⟩:=I.list p;have B:=r.length;obtain⟨⟨C,dd,w,sl⟩,e,o,n,hd⟩:=pl.isList;cases o;cases hd;have hlen:its.toArray.size*k.toNat<=sizeLine:=by simp_all
 have c:¬ its.toArray.size*k.toNat > (2 ^ 63-1) / 8:=by
  have:(sizeLine:Nat)<=(2 ^ 63-1) / 8:=by decide
  lia
 have b:¬ (!Builtin.List.listFitsIndex k)=true:=by
  rw[fitsIndex_both h1 h2];grind
 have z:¬ Builtin.List.listTooLong (its.toArray.size*k.toNat)=true:=by
  rw[EK hlen];grind
 have d:List.foldl (λg f=>g++f) #[] (List.replicate (if its.toArray.isEmpty=true then 0 else k.toNat) its.toArray)=(List.replicate k.toNat its).flatten.toArray:=by
  have f0:=λm=>by
   have:=foldl_rep its m [];rw[nN]at this;exact this
  rw[f0];cases its with
  | nil=>simp
  | cons a A=>rw[cq WA]
 refine wpAny_binaryOp_repeat_ref (T:="list") (U:="int") Wp ⟨_,e,rfl⟩ (λs'=>typeIs_int s' k t) noFill_list_mul F.fills_int_mul F.slot_int_rmul repeat_list F.slot_int_index.lookup
  (tw F.slot_int_rmul (typeIs_int s k t) F.entry_int_rmul (F.args_int_rmul_2 _ _) (lm_int_rmul_list_any k t l its.toArray n dd sl)
   ⟨e,rfl,⟨_,e,rfl⟩,tw F.slot_list_mul ⟨_,e,rfl⟩ F.entry_list_mul (F.args_list_mul_2 _ _) (lm_list_mul_any l its.toArray n dd sl k t b c z) ⟨e,?_⟩⟩)
 rw[d];exact⟨.ref _,_,I.PH (r.rep k.toNat) (by rw[len_rep,Nat.mul_comm];exact hz),rfl,q _ I.fresh⟩
theorem ay.rep{K:Frag}{Z:Hp}{ds:BA}{vs:BY}(r:QeG):∀k:Nat,ay K CL Z (List.replicate k ds).flatten (List.replicate k vs).flatten
 | 0=>.nil
 | k+1=>ay.app r (ay.rep r k)
theorem agb(h1:QiI)(h2:Qfh)(i1:QbR)(k1:-(2 ^ 63)<=k)(k2:k<2 ^ 63)(hz:ds.length*k.toNat<=sizeLine) :
  cL X CL b (.BinOp e1 .Mult e2 pos) δ (.lst ((List.replicate k.toNat ds).flatten.map T.sh)) δ2:=λH Z σ ts vs Q S kk=>
 cI (NT af9 dQ dQ) (h1 H Z σ ts vs _ S λv1 H1 Z1 i m q l=>h2 H1 Z1 σ ts vs _ q λv2 H2 Z2 h f g j=>by
  have d:=l.mono f;obtain⟨_,_,rfl,e,a⟩:=d.gV;cases j with
  | int=>
   refine⟨_,_,_,rfl,rfl,e,k1,k2,a.length▸hz,λp n=>?_⟩;have rc:=ay.rep (ay.tG g.tp i1 a) k.toNat;obtain⟨c,o⟩:=(bH.oA rc g).j8 (g0:=[]) (by rw[d8,rc.length]) n;exact kk _ _ _ (i.trans h) (m.trans Qcy) o)
theorem ay.Su{K:Frag}{Z:Hp}:∀l:At,ay K CL Z (l.map .str) QfV
 | []=>.nil
 | x::l=>.cons Qbc (ay.Su l)
def GT(X:Cx)(x:Str)(l:At):Prop:=∃a,X.mg x=some Qan/\∀H:Hp,zY X.K H a QfV
def Oo{l:At}(hm:GT X x l)(c:Qao)(hd:AD x:=by decide):cL X CL b Qav δ (.sh (.tup (l.map .str))) δ:=λH Z σ ts vs Q S kk=>by
 obtain⟨a,hm,hs⟩:=hm;exact cI (Ku (v:=.ref a) c hm rfl hd) (kk _ H Z Qr Qr (S.push (.tup (hs Z) (ay.Su l))))
noncomputable def apX{l:At}{od:Do}{its:CS}{sl:Cn}(h1:X.mg x=some Qan)(h2:Qkq)(c:its.size<=sizeLine)(b:Vals QfV its.toList):GT X x l:=
 ⟨a,h1,λH=>.inr ⟨_,its,n,h2,rfl,rfl,c,b⟩⟩
def c0{k:Nat}{A:Type}{arg:Qak}{Pre:Q1}{res:Qaa}(a:A)(F:Qfm)(j:Qao)(o:arg a=[])(h:Pre a)(l:QdO)(i:QbS:=by rfl)
  (g:AD x:=by decide):cL X CL b (.Call QaA [] [] pos) δ (res a) δ:=by
 obtain⟨f,fd,ps,s,m,kk,p⟩:=F.ex;intro H Z σ ts vs Q S k;refine cI (aan s F.room j m kk p .nil u9 g) ?_;refine⟨H,a,.refl _,λ_ _ q _=>q,by rw[o];exact .nil,i,h,S.N6,λv H' W' fp c ww e nw tp rt nd own=>?_⟩;obtain⟨Z',d,r⟩:=S.back c S.zh ww e nw tp rt nd own (.inr l);exact k v H' Z' d c r
noncomputable def RC:Key->D
 | .inl i=>.int i
 | .inr x=>.str x
noncomputable def su(kvs:CI)(k:Key):Option D:=(kvs.find? λa=>decide (a.1=k)).map (·.2)
noncomputable def vq(kvs:CI)(k:Key)(d:D):CI:=
 if QcS=true then kvs.map Qkn else kvs++[(k,d)]
variable{d:D}{kvs:CI}
theorem cK.length{kvs:CI}(h:cK K CL Z kvs gs):kvs.length=gs.length:=
 cK.ind (P:=λkvs gs=>kvs.length=gs.length) rfl Qg1 h
theorem cK.keys{kvs:CI}(h:cK K CL Z kvs gs):kvs.map (·.1)=gs.map (·.1):=
 cK.ind (P:=λkvs gs=>kvs.map _=gs.map _) rfl (λ{x _ _ _ _} _ _ i=>congrArg _ i) h
theorem cK.val{k:Key}:∀{kvs:CI} {gs:Cc},cK K CL Z kvs gs->(su kvs k=none/\vd gs k=none)\/∃d v,su kvs k=some d/\vd gs k=some v/\bV K CL Z d v
 | _,_,.nil=>.inl ⟨rfl,rfl⟩
 | _,_,.cons (x:=x) (d:=d) (v:=v) h r=>by
  by_cases e:x=k
  .exact .inr ⟨d,v,by simp[su,e],ve e,h⟩
  .obtain⟨h1,h2⟩|⟨d',v',h1,h2,a⟩:=cK.val r
   .exact .inl ⟨by simpa [su,e] using h1,by rw[r6 e];exact h2⟩
   .exact .inr ⟨d',v',by simpa [su,e] using h1,by rw[r6 e];exact h2,a⟩
theorem cK.any{k:Key}:∀{kvs:CI} {gs:Cc},cK K CL Z kvs gs->QcS=(gs.any λa=>decide (a.1=k))
 | _,_,.nil=>rfl
 | _,_,.cons _ r=>by rw[nZ,nZ,cK.any r]
theorem cK.m4{k:Key}(q:Qde):∀{kvs:CI} {gs:Cc},cK K CL Z kvs gs->cK K CL Z (kvs.map Qkn) (gs.map Qkm)
 | _,_,.nil=>.nil
 | _,_,.cons (x:=x) h r=>by
  rw[js,js];by_cases e:x=k
  .rw[di e,di e];exact .cons q (cK.m4 q r)
  .rw[cq e,cq e];exact .cons h (cK.m4 q r)
theorem cK.snoc{k:Key}(q:Qde):∀{kvs:CI} {gs:Cc},cK K CL Z kvs gs->cK K CL Z (kvs++[(k,d)]) (gs++[(k,v)])
 | _,_,.nil=>.cons q .nil
 | _,_,.cons h r=>.cons h (cK.snoc q r)
theorem cK.put{k:Key}(q:Qde)(r:cK K CL Z kvs gs):cK K CL Z (vq kvs k d) (putK gs k v):=by
 unfold vq putK;rw[r.any];split
 .exact r.m4 q
 .exact r.snoc q
theorem bV.key{k:Key}(r:bV K CL Z (RC k) v):v=kV k:=by
 cases k with
 | inl i=>exact r.sc rfl
 | inr x=>exact r.sc rfl
theorem agc(k:Key):bV K CL Z (RC k) (kV k):=by
 cases k with
 | inl i=>exact .int i
 | inr x=>exact .str x
theorem Oq{Z:Hp}:∀ks:EM,ay K CL Z (ks.map RC) (ks.map kV)
 | []=>.nil
 | k::ks=>.cons (agc k) (Oq ks)
theorem bH.alK{p:Addr}(S:Qap)(d:H p=none):aB H Qhz/\bH K CL b Qhz Z δ σ (.qw []::ts) (.ref p::vs):=by
 obtain⟨fp,gp,e,r,nd,k⟩:=S.rep;have f:=S.zh.free d;have sh:aB H Qhz:=aB.upd d;have keep:∀a∈fp++gp,a≠p:=λa c=>by
  have:∃o,H a=some o:=by
   obtain h|h:=gY.1 c
   .exact e.there a h
   .exact r.there a h
  obtain⟨o,q⟩:=this;exact aO q d
 refine⟨sh,⟨⟨fp,_,e.mono Qr Qix,.cons (.qw aW .nil) (r.mono Qr λa c=>au (keep a (by simp[c]))),?_,λa c=>?_⟩,S.bh.trans sh,S.zz,S.zh.trans sh,S.new,λa o q i=>?_,S.tab⟩⟩
 .refine(List.perm_middle).nodup_iff.2 (nP.2 ⟨λh=>keep p h rfl,nd⟩)
 .obtain h|h:=fV.1 ((List.perm_middle).mem_iff.1 c)
  .subst h;exact⟨f,S.bh.free d⟩
  .exact k a h
 .by_cases c:a=p
  .subst c;rw[aW]at q;cases q;cases i
  .rw[au c]at q;exact S.tp a o q i
theorem bH.alL(k:Key)(S:bH K CL b H Z δ σ (.sh d::ts) QaX)(hi:δ[i]? = some (some (.qw kvs))) :
  ∃a gs,σ[i]? = some (some Qan)/\H a=some (.dK gs)/\gs.length=kvs.length/\bH K CL b (upd H a (.dK (putK gs k v))) Z (δ.set i (some (.qw (vq kvs k d)))) σ ts vs:=by
 obtain⟨fp,gp,e,r,nd,kk⟩:=S.rep;obtain⟨v0,f1,f2,l,hv,m,rt,put,_⟩:=e.get hi;subst m;cases rt with
 | @qw a gs _ q rs=>
  cases r with
  | @cons _ _ _ _ s j g o=>
   replace g:=g.KD;obtain⟨rfl,g⟩:=g;have ne:∀c∈(f1++l)++j,c≠a:=λc f e=>by
    subst e;have p:((f1++([c]++l))++([]++j)).Perm (c::((f1++l)++j)):=by simp
    exact(nP.1 (p.nodup_iff.1 nd)).1 f
   refine⟨a,gs,hv,q,rs.length.symm,?_⟩;have n:bL K CL (upd H a (.dK (putK gs k v))) Z _ _ [a]:=.qw aW (rs.put g);have e2:=put Qr (λc f=>au (ne c (by
    obtain h|h:=gY.1 f
    .simp[h]
    .simp[h]))) n
   rw[ig hv]at e2;exact S.Rr rfl kk WA e2 (o.mono Qr λc f=>au (ne c (by simp[f]))) nd λc f=>f
def E5(B:QaK):rW X QeH (λxs H Q=>∃p kvs,xs=[.ref p]/\H p=some Qbi/\∀l,H l=none->Q (.ref l) (upd H l (.lst ((kvs.map (·.1)).map kV)))):=by
 intro pins s σ H xs us Q I r h;obtain⟨p,kvs,rfl,o,q⟩:=h;obtain⟨u,rfl,g⟩:=vals1 r;cases g;obtain⟨z,hd,ws,rel,dd⟩:=SH I.fQ o;obtain⟨ep,D⟩:=dd.dictAt;refine PySem.W.kdl_call (PySem.W.kdl_dict (knd:=gJ X.prog X.w) (kvs:=ws) (ep:=ep) hd) (I.ok.hd B) D (by rw[← rel.length];exact z) λh' tk a C A e d=>?_;have v:a.toList.length=ws.length:=by rw[Array.length_toList];exact d.1
 have hv:Vals ((kvs.map (·.1)).map kV) a.toList:=by
  rw[rel.keys];have gen:∀(l:List (Key×Value)) (m:B1),m.length=l.length->(∀(j:Nat) (x:Value),m[j]? = some x->∃k y,l[j]? = some (k,y)/\(gJ X.prog X.w).is k x=true)->Vals ((l.map (·.1)).map kV) m:=by
   intro l
   induction l with
   | nil=>intro m hm _;cases m with
    | nil=>exact .nil
    | cons _ _=>simp at hm
   | cons p l n=>
    intro m hm c;cases m with
    | nil=>simp at hm
    | cons x m=>
     obtain⟨k,y,e1,e2⟩:=c 0 x rfl;simp at e1;subst e1;refine .cons ?_ (n m (by simpa using hm) λj f b=>by simpa using c QA f (by simpa using b));obtain⟨i,t,h1,h2⟩|⟨i,t,h1,h2⟩:=gu e2
     .subst h1 h2;exact⟨t,rfl⟩
     .subst h1 h2;exact⟨t,rfl⟩
  exact gen ws a.toList v λj x b=>d.2 j x (by rw[← Kt];exact b)
 refine⟨.ref s.heap.objs.size,_,I.laid (t':=tk) A (Nat.le_refl _) (show g6 X.prog X.w _ h' _ (.lst ((kvs.map (·.1)).map kV)) from⟨by simpa using z,a.toList,C,hv,by simpa using e⟩),rfl,q _ (I.fQ.fresh (Nat.le_refl _))⟩
section
abbrev _root_.CC:=List (Key×L3.D)
variable{d:L3.D}{D:gA}{ps:Pos}{kvs:CC}{k:Key}
def VC:cL X CL b (.Dict [] [] pos) δ (.qw []) δ:=λH Z σ ts vs Q S kk=>cI aaI λp a=>by
 obtain⟨c,d⟩:=S.alK a;exact kk _ _ Z Qr c d
theorem abg(k:Key)(s:QeD)(n:QaY)(h:Qg2)(h2:dR X CL b e2 δ1 (RC k) δ1)(h1:δ1[i]? = some (some (.qw kvs)))(m:kvs.length<=1000000)(kk:fh X CL b gP (δ1.set i (some (.qw (vq kvs k d)))) D)
  (hs:swapsWith e (some (.Subscript QaA e2 ps)) pos.line X.env=pure false:=by rfl) :
  fh X CL b (.Assign [.Subscript QaA e2 ps] e pos::gP) δ D:=cN λH Z σ ts vs E S M=>
 r9 (afJ We QcV dQ dQ hs) (h H Z σ ts vs _ S λv H1 Z1 j k1 f=>by
  obtain⟨v0,e0,_⟩:=f.look h1;refine⟨v0,e0,h2 H1 Z1 σ _ _ _ f λv2 H2 Z2 g k2 r l=>?_⟩;obtain⟨a,gs,c,p,o,q⟩:=r.alL k h1;rw[e0]at c;cases c;exact⟨a,_,rfl,l.key▸FK.k p (by rw[o];exact ri m Wp),M.nx _ σ _ Z2 (j.trans g) q kk⟩)
def abh(g:Gx X)(hm:QfL)(h:dR X CL b e δ (.qw kvs) δ1)(j:Qge)(hs:Qad:=by exact bq rfl):cL X CL b Qip δ (.lst (((kvs.map (·.1)).map RC).map T.sh)) δ1:=λH Z σ ts vs Q S k=>
 cI (kC (E5 g.calm) j hm cH QaF (he:=hs)) (h H Z σ ts vs _ S λv H1 Z1 d k1 o r=>by
  cases r with
  | @qw a gs _ m f=>
   refine⟨a,gs,rfl,m,λl i=>?_⟩;rw[← f.keys];obtain⟨c,n⟩:=(bH.oA (Oq _) o).j8 (g0:=[]) WA i;exact k _ _ _ d Qcu n)
end
variable{w:V}{XI:BS}
theorem dz.IP{b:BN}(rt:bL K CL H Z t v b):∀{QI:BS} {gs:CA} {fp:BN},dz K CL H Z Qi7 gs fp->∃a,dz K CL H Z (QI++(f,t)::XI) gs a/\a.Perm (fp++b)
 | [],_,_,r=>by
  cases r with
  | @cons _ _ v' _ _ f1 gp h r=>
   replace h:=h.KD;obtain⟨rfl,h⟩:=h;cases h;exact⟨ _,.cons rt r,nt⟩
 | (y,u)::QI,_,_,r=>by
  cases r with
  | @cons _ _ v' _ _ f1 gp h r=>
   obtain⟨a,c,p⟩:=dz.IP rt r;refine⟨ _,.cons h c,?_⟩;rw[jc];exact p.append_left f1
theorem bH.IP{QI:BS}(S:bH K CL b H Z δ σ (.ins c Qi7::t::ts) (w::v::vs)):bH K CL b H Z δ σ (.ins c (QI++(f,t)::XI)::ts) (w::vs):=by
 obtain⟨fp,gp,e,r,nd,k⟩:=S.rep;cases r with
 | @cons _ _ _ _ g1 g2 n m=>
  cases m with
  | @cons _ _ _ _ g3 g l j=>
   obtain⟨a,dx,gs,h,rfl,rfl,q,i⟩:=n.HK;obtain⟨s,d,p⟩:=dz.IP l i;have pm:(fp++((a::s)++g)).Perm (fp++((a::h)++(g3++g))):=by
    refine ub fp ?_;rw[← jc];refine List.Perm.append_right g ?_;simp_all
   exact⟨⟨fp,_,e,.cons (.ins q d) j,pm.nodup_iff.2 nd,λc o=>k c (pm.mem_iff.1 o)⟩,S.bh,S.zz,S.zh,S.new,S.tp,S.tab⟩
def LB(X:Cx)(CL:BC)(b:Bx)(es:CU)(δ:BB)(dv:V->BA)(t:T)(δ':BB):Prop:=
 ∀(H Z:Hp) (σ:L2.St) (ts:B2) (vs:BY) (Q:EN),bH X.K CL b H Z δ σ ts vs →
  (∀us H' Z' v,aB Z Z'->aB H H'->bH X.K CL b H' Z' δ' σ (t::ts) QaX->ay X.K CL H' (dv v) us->Q us H')->Rh X es σ H Q
theorem T.E6{f:Str}{v:V}{XI:BS}(h2:T.f6 XI=true):∀{QI:BS},T.f6 QI=true->T.f6 Qi7=true
 | [],_=>‹_›
 | (x,t)::QI,h=>by
  rw[T.f6,lh]at h;rw[mT,T.f6,h.1,T.E6 h2 h.2];rfl
variable{ds:BA}{d:D}{dv:V->BA}
def Ot(h:QaL)(r:Xo X CL b es δ1 ds δ2)(hs:notStar e=true:=by rfl):LB X CL b Qab δ (λv=>.val v::ds) t δ2:=λH Z σ ts vs Q S k=>
 HP (bZ dQ HM (bq hs)) (h H Z σ ts vs _ S λv H1 Z1 c k1 g=>r H1 Z1 σ _ _ _ g λus H2 Z2 a k2 f d=>k _ H2 Z2 v Qb4 Qaq f (.cons (.val v) d))
def Am(h:Qhs)(r:LB X CL b es δ1 dv t δ2)(hs:notStar e=true:=by rfl):LB X CL b Qab δ (λv=>d::dv v) t δ2:=λH Z σ ts vs Q S k=>
 HP (bZ dQ HM (bq hs)) (h H Z σ ts vs _ S λv H1 Z1 c k1 j g=>r H1 Z1 σ ts vs _ j λus H2 Z2 v2 a k2 i f=>k _ H2 Z2 v2 Qb4 Qaq i (.cons (g.mono k2) f))
variable{A:Type}{k:Nat}{arg:Qak}{Pre:Q1}
theorem OT{res:A->BS}(a:V->A){QI:BS}(F:Qi4)(z:Qao)(h:LB X CL b Qab δ dv t δ1)(G:∀v,arg (a v)=dv v)(u:∀v,Pre (a v))(g:∀v,res (a v)=QI++(f,.sh (.val v))::XI)(B:T.f6 QI=true)(D:T.f6 XI=true)(w:∀v,(arg (a v)).length+1=n:=by exactλ_=>rfl)
  (p:AD x:=by decide) (he:Qaf:=by exact bq rfl) (hpl:Qaw:=by rfl) :
  cL X CL b Qbs δ (.ins x (QI++(f,t)::XI)) δ1:=λH Z σ ts vs Q S kk=>by
 obtain⟨I,fd,ps,M,E,hm,C⟩:=F.ex;exact cI (Ky M E F.room z hm C .nil u9 HM p he hpl) (h H Z σ ts vs _ S λus H1 Z1 v l k1 d r y dx s c ne=>by
  rw[j2];refine⟨H1,H1,a v,y,dx,us,rfl,s,c,ne,rfl,.refl _,λ_ _ q _=>q,WE,w v,u v,d.N6,λH' W' fp i ww o nw tp rt nd own=>⟨rfl,?_⟩⟩;obtain⟨Z',m,j⟩:=d.back i d.zh ww o nw tp rt nd own (.inr (by rw[g];exact T.E6 D B));rw[g]at j;exact kk _ H' Z' (l.trans m) (k1.trans i) j.IP)
theorem K3(bs:List Bool):(List.range bs.length).any (λi=>bs.getD i true)=bs.any id:=by
 induction bs with
 | nil=>rfl
 | cons x bs a=>
  rw[lr,List.range_succ_eq_map,nZ,List.any_map];have:((λi=>(x::bs).getD i true)∘Nat.succ)=λi=>bs.getD i true:=rfl;rw[this,a];rfl
def abi{bs:List Bool}{its:B1}(r:Vals (bs.map V.bl) its){v:Value}(h:its.toArray[i]? = some v):v=.bool (bs.getD i true):=by
 have h':=by simpa using h
 have c:=r.length;have hi:=c▸(kO.1 h').1;obtain⟨u,b,a⟩:=r.get (ma hi);rw[h']at b;cases b;have d:=by simpa using hi
 have e:bs.getD i true=bs[i]:=by simp[d]
 rw[e];rw[List.getElem_map]at a;exact a
def XJ(k:QaK):rW X (.builtin "any") (λxs H Q=>∃(p:Addr) (bs:List Bool),xs=[.ref p]/\nS X.K H p (bs.map V.bl)/\Q (.bl (bs.any id)) H):=by
 intro pins s σ H xs us Q I r h;obtain⟨p,bs,rfl,g,q⟩:=h;obtain⟨u,rfl,d⟩:=vals1 r;cases d;obtain⟨its,c,pl,hz⟩:=I.list g;have a:=pl.isList;have f:p<s.heap.objs.size:=by obtain⟨o,e,_⟩:=id a;exact km e
 have hlen:its.toArray.size=bs.length:=by rw[oD,← c.length,d8]
 refine call_any_walk (wpAny_pyIter_list a ⟨_,_,_,_,_,_,λi=>bs.getD i true,rfl,Walks.list (A:=X.A.in1) (I.ok.hd k) _ p (ll f) _,⟨⟨_,mv _ rfl,rfl,rfl⟩,a.at λo e=>kx _ e⟩,λi v s Q E l hQ=>?_,λh' tk j=>?_⟩)
 .rw[abi c l];exact Hn hQ
 .rw[hlen,K3];refine⟨.bl _,H,I.kept (λb o e=>j b o (λz=>?_) (kx _ e)),rfl,q⟩;have:=kf.1 z;subst this;exact absurd (km e) (wx _)
def XM:bootBuiltins "any" = some (.builtin "any"):=by decide +kernel
theorem Ou{K:Frag}{CL:BC}{H:Hp}:∀{l:List Bool} {us:BY},ay K CL H (l.map D.bl) us->us=l.map V.bl
 | [],_,r=>by
  have a:=r;cases a;rfl
 | y::l,_,r=>by
  have a:=r;cases a with
  | cons c b=>rw[c.sc rfl,Ou b];rfl
variable{l:List Bool}
def alM(g:Gx X)(hm:X.mg "any" = none)(h:dR X CL b e δ (.lst (l.map .bl)) δ1)(i:Gl X "any")(hs:Qad:=by exact bq rfl):cL X CL b (.Call (.Name "any" pp) [e] [] pos) δ (.sh (.bl (l.any id))) δ1:=λH Z σ ts vs Q S k=>
 cI (rZ (XJ g.calm) i hm XM QaF (he:=hs)) (h H Z σ ts vs _ S λv H1 Z1 c k1 j r=>by
  obtain⟨a,us,rfl,f,d⟩:=r.gV;have:=Ou d;subst this;exact⟨a,l,rfl,f,k _ H1 Z1 c k1 (j.push (.bl _))⟩)
namespace Rv
def XO:PySem.Slot "reversed" "__init__" "object.__init__":=
 .of (owner:="object") (n:="__init__") (by rw[typeLookup_type,builtinLookup_eq_fast];kernel_rfl) Wl Wl Wl
  (by first|exact .inl Wl|exact .inr Wl) (by rw[isSubtype_type];kernel_rfl)
noncomputable def called:TypeCalled "reversed" "reversed.__new__" "object.__init__":=
 ⟨Wl,Wl,⟨_,_,PySem.F.mro_reversed⟩,PySem.F.made_reversed,Wl,PySem.F.sub_reversed_self,XO⟩
noncomputable def obj(t:Addr)(i:Int):Obj:={cls:=.type "reversed",data:=.fields #[.ref t,rawInt i]}
end Rv
def abj(l q:Addr)(xs ys:CS)(n m:Nat)(f:Do)(sq:Cn)(j:Qj7)(c:xs.size<=sizeLine)(b:xs.size+ys.size<=sizeLine+1) :
  PySem.Meets (Builtin.«list.extend» ⟨[.ref l,.ref q],[]⟩) (λ_ R s=>s.heap.get? l=some {cls:=.type "list",dict:=none,data:=.seq xs n,slots:=#[]}/\s.heap.get? q=some {cls:=.type "tuple",dict:=f,data:=.seq ys m,slots:=sq} ∧
   R (.ok (.ret Value.none)) {s with heap:=s.heap.update l (Obj.mapSeq λx=>x++ys),toks:=s.toks}):=
 PySem.Meets.of_wp λprog w A R s h=>by
  obtain⟨i,g,d,tk,os⟩:=s;obtain⟨a,e,h⟩:=h;have f1:=AutoSeq1.idx_int;have o:=AutoSeq1.sub_list_list;have f4:=AutoSeq1.sub_tuple_list;have k:=AutoSeq1.sub_list_tuple;have hz:(xs++ys).size<=sizeLine+1:=by
   rw[Array.size_append];exact b
  wp_walk using Qkt,wpAny_loadPart' a,wpAny_loadPart' e
  exact⟨_,rfl,h⟩
def T1(K:Frag):V->BY->Hp->VK->Prop:=λx vs H Q=>∃l q xs zs,x=.ref l/\vs=[.ref q]/\H l=some Qa2/\zY K H q zs/\xs.length+zs.length<=sizeLine/\Q .non (upd H l (.lst (xs++zs)))
theorem age:y4 X "list.extend" (T1 X.K):=by
 intro pins s σ H x vs v us Q I d f h;obtain⟨l,q,xs,zs,rfl,rfl,b,m,hz,k⟩:=h;cases d;obtain⟨u,rfl,g⟩:=f.one;cases g;obtain⟨z,its,n,r,y,e⟩:=I.Fs b;obtain⟨c,a,⟨⟨A,d2,o,s2⟩,e2,t,i,hd2⟩,w⟩:=I.tuple m;cases t;cases hd2;have j:=a.length;have hsz:its.toArray.size+c.toArray.size<=sizeLine:=by grind
 have p:¬ (!its.toArray.isEmpty&&Builtin.List.listTooLong (its.toArray.size+c.toArray.size))=true:=by
  rw[EK hsz,FX];decide
 refine tw F.slot_list_extend ⟨_,e,rfl⟩ F.entry_list_extend (F.args_list_extend_2 _ _) (abj l q _ _ n i d2 s2 p WF We) ⟨e,e2,?_⟩;refine⟨.non,_,I.Fu b e WA (r.append a) ?_,rfl,k⟩;simp_all
section
abbrev _root_.ET:=Array Keyed
variable{a₀ xs:ET}{ι:Da}
structure Tag(a₀ xs:ET)(ι:Da)(n:Nat):Prop where
 pl:∀k,k<a₀.size->xs[k]? = a₀[ι k]?
 lo:∀k,k<n->ι k<n
 hi:∀k,n<=k->ι k=k
def vt(xs:ET)(ι:Da)(n:Nat):Prop:=∀i j,i<j->j<n->PyProof.Rows.K xs i<PyProof.Rows.K xs j\/(PyProof.Rows.K xs i=PyProof.Rows.K xs j/\ι i<ι j)
def HW(xs:ET)(ι:Da)(n:Nat):Prop:=∀i j,i<j->j<n->PyProof.Rows.K xs j<PyProof.Rows.K xs i\/(PyProof.Rows.K xs j=PyProof.Rows.K xs i/\ι j<ι i)
theorem Tag.grow(h:QhL):Tag a₀ xs ι (n+1):=⟨h.pl,λk a=>by
  by_cases e:k<n
  .have:=h.lo k e;lia
  .have:=h.hi k We;lia,λk a=>h.hi k We⟩
theorem Tag.aut(h:QhL){m:Nat}(hm:n<=m):Tag a₀ xs ι m:=⟨h.pl,λk a=>by
  by_cases e:k<n
  .have:=h.lo k e;lia
  .have:=h.hi k We;lia,λk a=>h.hi k We⟩
noncomputable def turned(ι:Da)(i j:Nat):Nat->Nat:=λk=>if i<=k/\k<j then ι (i+j-1-k) else ι k
theorem Tag.turn(h:QhL)(c:j<=n)(b:n<=a₀.size)(hs:xs.size=a₀.size):Tag a₀ (mirror xs i j ((j-i) / 2)) (turned ι i j) n:=by
 refine⟨λk a=>?_,λk a=>?_,λk a=>?_⟩
 .rw[getElem?_mirror_all We];unfold turned;split
  .exact h.pl _ We
  .exact h.pl _ a
 .unfold turned;split
  .exact h.lo _ We
  .exact h.lo _ a
 .unfold turned;rw[cq We];exact h.hi k a
noncomputable def XQ(ι:Da)(k l:Nat):Nat->Nat:=λp=>if p=l then ι k else if l<p/\p<=k then ι (p-1) else ι p
theorem Tag.sink(h:QhL){l:Nat}(d:l<=n)(c:n<a₀.size)(hs:xs.size=a₀.size):Tag a₀ (bubble xs n (n-l)) (XQ ι n l) (n+1):=by
 have b:=h.grow;refine⟨λk a=>?_,λk a=>?_,λk a=>?_⟩
 .rw[getElem?_bubble We _ We,show n-(n-l)=l by lia];unfold XQ;split
  .exact h.pl _ We
  .split
   .exact h.pl _ We
   .exact h.pl _ a
 .unfold XQ;split
  .exact b.lo _ We
  .split
   .exact b.lo _ We
   .exact b.lo _ a
 .unfold XQ;rw[cq We,cq We];exact b.hi k a
theorem vt.le(h:vt xs ι n)(b:i<=j)(a:j<n):PyProof.Rows.K xs i<=PyProof.Rows.K xs j:=by
 by_cases e:i=j
 .subst e;grind
 .obtain z|z:=h i j We a<;>lia
end
section
variable{w:World}{A:Qau}{a₀:ET}
theorem Ow{st:SortSt}{ι:Da}{a b:Nat}{Q:AscSt->SortSt->Prop}(h0:QdZ)(y:b<=a₀.size)(C:1<=a)(p:a<=b)(r:Qdf)
  (m:Tag a₀ (arrOf st) ι a) (hs:vt QaW ι a)
  (h:∀n,a<=n->n<=b->Tag a₀ (arrOf st) ι n->vt QaW ι n->(n=b\/PyProof.Rows.K QaW n<PyProof.Rows.K QaW QcD)->Q (none,n) st) :
  wpS Qal A E s (ascLoop a b) Q st:=by
 unfold ascLoop;refine x4 (I:=λx c z=>z=st/\c=(none,x)/\Tag a₀ (arrOf st) ι x/\vt QaW ι x) ?one ?all ⟨rfl,rfl,m,hs⟩
 case all=>
  rintro c z ⟨rfl,rfl,t,o⟩;grind
 case one=>
  rintro x c z g l ⟨rfl,rfl,t,o⟩;dsimp only;refine lL (wpS_ltK r h0 We We ?_);by_cases d:PyProof.Rows.K Qah x<PyProof.Rows.K Qah (x-1)
  .simp only[d,decide_true,oy];exact mB (h x g We t o (.inr d))
  .simp only[d,decide_false,n6,n4];refine mB ⟨rfl,rfl,t.grow,λi j k B=>?_⟩;by_cases f:j<x
   .exact o i j k f
   .have e:j=x:=by lia
    subst e;have q:=o.le (i:=i) (j:=j-1) We We;have v:=t.lo i k;have u:=t.hi j (gZ _);lia
theorem Ox{st:SortSt}{ι:Da}{b:Nat}{Q:QiU}(h0:QdZ)(f:b<=a₀.size)(h1:1<=n)(c:n<=b)(d:Qdf)
  (e:Tag a₀ (arrOf st) ι n) (hs:HW QaW ι n)
  (h:∀m z κ,SBase a₀ z->1<=m->m<=b->Tag a₀ (arrOf z) κ m->vt Qah κ m->Q (some m) z) :
  wpS Qal A E s (tail3 n b) Q st:=by
 have hz:n<=(arrOf st).size:=by rw[d.size];lia
 have a:SBase a₀ (setArr st (mirror _ 0 n ((n-0) / 2))):=d.setArr Qhh;refine lL (wpS_reverse ?_);refine lL (Ow h0 f h1 c a (e.turn (gZ _) We d.size) ?_ λm m1 m2 t o _=>mB (h m _ _ a We m2 t o));intro i j k g;rw[K_mirror hz,K_mirror hz,di We,di We];unfold turned;rw[di We,di We];exact hs _ _ We We
structure DK(xs:ET)(ι:Da)(p x:Nat):Prop where
 f:HW xs ι p
 l:∀i j,i<p->p<=j->j<x->PyProof.Rows.K xs j<PyProof.Rows.K xs i
 e:∀i j,p<=i->i<j->j<x->PyProof.Rows.K xs i=PyProof.Rows.K xs j/\ι i<ι j
theorem DK.one{xs:ET}{ι:Da}{p:Nat}(h:DK xs ι p (p+1)):HW xs ι (p+1):=λi j b a=>by
 by_cases e:j<p
 .exact h.f i j b e
 .exact .inl (h.l i j We We a)
theorem DK.turn{xs:ET}{ι:Da}{p x:Nat}(h:DK xs ι p x)(a:x<=xs.size):HW (mirror xs p x ((x-p) / 2)) (turned ι p x) x:=by
 intro i j c d;rw[K_mirror a,K_mirror a];unfold turned;by_cases hi:p<=i
 .rw[di We,di We,di We,di We];have q:=h.e (p+x-1-j) (p+x-1-i) We We We;simp_all
 .rw[cq (show ¬ (p<=i/\i<x) by lia),cq (show ¬ (p<=i/\i<x) by lia)];by_cases b:p<=j
  .rw[di We];exact .inl (h.l _ _ We We We)
  .rw[cq We,cq We];exact h.f i j c We
theorem HW.le{xs:ET}{ι:Da}(h:HW xs ι n)(b:i<=j)(a:j<n):PyProof.Rows.K xs j<=PyProof.Rows.K xs i:=by
 by_cases e:i=j
 .subst e;grind
 .obtain z|z:=h i j We a<;>lia
theorem HW.half{xs:ET}{ι:Da}{x:Nat}(h:HW xs ι x)(a:0<x)(b:PyProof.Rows.K xs x<PyProof.Rows.K xs (x-1)):DK xs ι x (x+1):=
 ⟨h,λi j hi h1 h2=>by
  have e:j=x:=by lia
  subst e;have:=h.le (i:=i) (j:=j-1) We We;lia,λi j h1 h2 c=>by lia⟩
theorem XR{st:SortSt}{ι:Da}{b:Nat}{Q:DescSt->SortSt->Prop}(h0:QdZ)(G:b<=a₀.size)(g:n+1<=b)(C:Qdf)
  (B:Tag a₀ (arrOf st) ι (n+1)) (hs:DK QaW ι n (n+1))
  (h:∀m a z κ,SBase a₀ z->n+1<=m->m<=b->a+1<=m->Tag a₀ (arrOf z) κ m->DK Qah κ (m-(a+1)) m->Q (none,m,a) z) :
  wpS Qal A E s (descLoop (n+1) b) Q st:=by
 unfold descLoop;refine x4 (I:=λx c z=>∃a κ,c=(none,x,a)/\SBase a₀ z/\a+1<=x/\Tag a₀ (arrOf z) κ x/\DK Qah κ (x-(a+1)) x) ?one ?all ⟨0,ι,rfl,C,We,B,hs⟩
 case all=>
  rintro c z ⟨a,κ,rfl,b2,q,t,o⟩;have e:max (n+1) b=b:=by lia
  rw[e]at q t o ⊢;exact h b a z κ b2 g (gZ _) q t o
 case one=>
  rintro x c z r v ⟨a,κ,rfl,b2,q,t,o⟩;dsimp only;have hz:x<=(arrOf z).size:=by rw[b2.size];lia
  refine lL (wpS_ltK b2 h0 We We ?_);by_cases d:PyProof.Rows.K Qah x<PyProof.Rows.K Qah (x-1)
  .simp only[d,decide_true,oy];by_cases u:a > 0
   .rw[di u];have hm:∀k,PyProof.Rows.K (mirror Qah (x-(a+1)) x ((x-(x-(a+1))) / 2)) k=PyProof.Rows.K Qah k:=K_mirror_equal hz λk k1 k2=>by
     by_cases e:k=x-1
     .rw[e]
     .exact(o.e k (x-1) k1 We We).1
    refine lL (wpS_reverse (mB ⟨0,turned κ (x-(a+1)) x,rfl,b2.setArr Qhh,We,(t.turn (gZ _) We b2.size).grow,?_⟩));have hf:=o.turn hz;refine hf.half We ?_;rw[hm,hm];exact d
   .rw[cq u];have e0:a=0:=by lia
    subst e0;obtain⟨y,rfl⟩:∃y,x=y+1:=⟨x-1,We⟩;have hf:HW Qah κ (y+1):=DK.one o;exact mB ⟨0,κ,rfl,b2,We,t.grow,hf.half We d⟩
  .simp only[d,decide_false,n6,n4];refine lL (wpS_ltK b2 h0 We We ?_);by_cases p:PyProof.Rows.K Qah (x-1)<PyProof.Rows.K Qah x
   .simp only[p,decide_true,oy];exact mB (h x a z κ b2 r We q t o)
   .simp only[p,decide_false,n6,n4];have he:PyProof.Rows.K Qah x=PyProof.Rows.K Qah (x-1):=Int.le_antisymm (Int.not_lt.1 p) (Int.not_lt.1 d);refine mB ⟨a+1,κ,rfl,b2,We,t.grow,?_⟩;rw[show x+1-(a+1+1)=x-(a+1) by lia];refine⟨o.f,λi j hi h1 h2=>?_,λi j h1 h2 H=>?_⟩
    .by_cases e:j=x
     .rw[e,he];exact o.l i (x-1) hi We We
     .exact o.l i j hi h1 We
    .by_cases e:j=x
     .subst e;have F:=t.lo i h2;have D:=t.hi j (gZ _);refine⟨?_,We⟩;rw[he];by_cases e2:i=j-1
      .rw[e2]
      .exact(o.e i (j-1) h1 We We).1
     .exact o.e i j h1 h2 We
theorem JN{st:SortSt}{ι:Da}{a:Nat}{Q:QiU}(h0:QdZ)(c:a<=a₀.size)(b:n+1<=a)(g:Qdf)
  (e:Tag a₀ (arrOf st) ι (n+1)) (hs:DK QaW ι n (n+1))
  (h:∀m z κ,SBase a₀ z->1<=m->m<=a->Tag a₀ (arrOf z) κ m->vt Qah κ m->Q (some m) z) :
  wpS Qal A E s (descPart n a) Q st:=by
 refine lL (wpS_lift (wpAny_rule ⟨rfl,?_⟩));refine lL (XR h0 c b g e hs λm d z κ b2 m1 m2 q t o=>?_);dsimp;have hz:m<=(arrOf z).size:=by rw[b2.size];lia
 by_cases f:d > 0
 .rw[di f];exact lL (wpS_reverse (Ox h0 c We m2 (b2.setArr Qhh) (t.turn (gZ _) We b2.size) (o.turn hz) h))
 .have e0:d=0:=by lia
  subst e0;obtain⟨y,rfl⟩:∃y,m=y+1:=⟨m-1,We⟩;exact Ox h0 c We m2 b2 t (DK.one o) h
theorem abk{st:SortSt}{c:Nat}{Q:QiU}(h0:QdZ)(f:c<=a₀.size)(h1:1<=c)(a:Qdf)(v:Tag a₀ (arrOf st) id 0)
  (h:∀m z κ,SBase a₀ z->1<=m->m<=c->Tag a₀ (arrOf z) κ m->vt Qah κ m->Q (some m) z) :
  wpS Qal A E s (countRun' 0 c) Q st:=by
 rw[countRun0_eq];refine lL (Ow (ι:=id) h0 f (gZ 1) h1 a (v.aut We) (λi j B r=>by lia) λn n1 l t o e=>?_);dsimp only;by_cases b:n=c
 .rw[if_pos (by simpa using b)];exact mB (h n st id a n1 l t o)
 .rw[if_neg (by simpa using b)];have p:=e.resolve_left b;have hz:n<=(arrOf st).size:=by rw[a.size];lia
  by_cases d:n > 1
  .rw[di d];refine lL (wpS_ltK a h0 We We ?_);by_cases q:PyProof.Rows.K QaW 0<PyProof.Rows.K QaW QcD
   .simp only[q,decide_true,oy];exact mB (h n st id a n1 l t o)
   .simp only[q,decide_false,n6,n4];have g:∀k,0<=k->k<n->PyProof.Rows.K QaW k=PyProof.Rows.K QaW QcD:=λk _ x=>by
     have a1:=o.le (i:=0) (j:=k) We x;have a2:=o.le (i:=k) (j:=n-1) We We;lia
    have hm:=K_mirror_equal (i:=0) hz g;refine lL (wpS_reverse (JN (ι:=turned id 0 n) h0 f We (a.setArr Qhh) (t.turn (gZ _) We a.size).grow ?_ h));have y:DK QaW id 0 n:=⟨λi j _ r=>by lia,λi j hi=>by lia,λi j i1 i2 u=>⟨by rw[g i We We,g j We u],i2⟩⟩;refine(y.turn hz).half We ?_;rw[hm,hm];exact p
  .rw[cq d];have e1:n=1:=by lia
   subst e1;exact JN h0 f We a t.grow ((show HW QaW id 1 fromλi j B r=>by lia).half We p) h
theorem alN{l r x:Nat}(h1:l<=r)(h2:r<=k)(a:r-l<=k-x)(c:¬ l ≥ r):l<=(l+r) / 2/\(l+r) / 2<=k/\(l+r) / 2-l<=k-(x+1)/\(l+r) / 2+1<=r/\r-((l+r) / 2+1)<=k-(x+1)/\(l+r) / 2<k:=by
 have c:=Nat.lt_of_not_le c;have d:l<=(l+r) / 2:=by clear h1 h2 a;lia
 have b:(l+r) / 2<r:=by clear h1 h2 a;lia
 exact⟨d,kv (ml b) h2,Nat.le_pred_of_lt (my (Nat.sub_lt_sub_right d b) a),b,Nat.le_pred_of_lt (my (Nat.sub_lt_sub_left c (Nat.lt_succ_of_le d)) a),my b h2⟩
theorem abl{st:SortSt}{ι:Da}{ok:Nat}{Q:Bool->SortSt->Prop}(h0:QdZ)(J:n<=a₀.size)(fQ:ok<=n)(C:1<=ok)(H:Qdf)(B:Tag a₀ (arrOf st) ι ok)(hs:vt QaW ι ok)
  (h:∀z κ,SBase a₀ z->Tag a₀ (arrOf z) κ n->vt Qah κ n->Q true z):wpS Qal A E s (binarySort' 0 n ok) Q st:=by
 rw[binarySort'_eq];simp only[vy];refine lL (wpS_mono (x4 (I:=λk c z=>c=(none,())/\SBase a₀ z/\∃κ,Tag a₀ (arrOf z) κ k/\vt Qah κ k)
  (Q:=λc z=>c=(none,())/\SBase a₀ z/\∃κ,Tag a₀ (arrOf z) κ n/\vt Qah κ n) ?one ?all ?new) ?post)
 case post=>
  rintro c z ⟨rfl,b2,κ,t,o⟩;exact mB (h z κ b2 t o)
 case new=>
  rw[show max ok 1=ok by lia];exact⟨rfl,H,ι,B,hs⟩
 case all=>
  rintro c z ⟨F,b2,κ,t,o⟩;rw[show max (max ok 1) n=n by lia]at t o;exact⟨F,b2,κ,t,o⟩
 case one=>
  rintro k c z G D ⟨rfl,b2,κ,t,o⟩;have p:k<a₀.size:=by lia
  refine lL (wpS_mono (x4 (I:=λx c y=>y=z/\∃l r,c=(none,l,r)/\l<=r/\r<=k/\r-l<=k-x/\(∀i,i<l->PyProof.Rows.K Qah i<=PyProof.Rows.K Qah k)/\(∀i,r<=i->i<k->PyProof.Rows.K Qah k<PyProof.Rows.K Qah i))
   (Q:=λc y=>y=z/\∃l r,c=(none,l,r)/\l<=k/\(∀i,i<l->PyProof.Rows.K Qah i<=PyProof.Rows.K Qah k)/\(∀i,l<=i->i<k->PyProof.Rows.K Qah k<PyProof.Rows.K Qah i)) ?two ?fin ?beg) ?ZJ)
  case beg=>exact⟨rfl,0,k,rfl,We,We,We,λi hi=>by lia,λi g1 g2=>by lia⟩
  case fin=>
   rintro c y ⟨rfl,l,r,rfl,g1,g2,g3,f,d⟩;have e:l=r:=by lia
   subst e;exact⟨rfl,l,l,rfl,g2,f,d⟩
  case two=>
   rintro x c y _ v ⟨rfl,l,r,rfl,g1,g2,g3,f,d⟩;dsimp only;by_cases b:l ≥ r
   .rw[di b];have e:l=r:=by lia
    subst e;exact mB ⟨rfl,l,l,rfl,g2,f,d⟩
   .rw[cq b];have M:=alN g1 g2 g3 b;refine lL (wpS_ltK b2 h0 p (Nat.lt_trans M.2.2.2.2.2 p) ?_);by_cases m:PyProof.Rows.K (arrOf y) k<PyProof.Rows.K (arrOf y) ((l+r) / 2)
    .simp only[m,decide_true,oy];exact mB ⟨rfl,l,(l+r) / 2,rfl,M.1,M.2.1,M.2.2.1,f,λi i1 i2=>Int.lt_of_lt_of_le m (o.le i1 i2)⟩
    .simp only[m,decide_false,n6,n4];exact mB ⟨rfl,(l+r) / 2+1,r,rfl,M.2.2.2.1,g2,M.2.2.2.2.1,λi i1=>Int.le_trans (o.le (i:=i) (j:=(l+r) / 2) (Nat.lt_succ_iff.1 i1) M.2.2.2.2.2) (Int.not_lt.1 m),d⟩
  case ZJ=>
   rintro c y ⟨rfl,l,r,rfl,g2,f,d⟩;show wpS _ _ _ _ (do moveDown' k l;pure (ForInStep.yield (none,()))) _ _;rw[moveDown'_eq];have g:k<(arrOf y).size:=by rw[b2.size];exact p
   refine lL (wpS_modify (mB ⟨rfl,b2.setArr (bubble_perm _ _ _),XQ κ k l,t.sink g2 p b2.size,?_⟩));intro i j N L;show PyProof.Rows.K QgS i<PyProof.Rows.K QgS j\/(PyProof.Rows.K QgS i=PyProof.Rows.K QgS j/\_);rw[K_bubble g We,K_bubble g We,show k-(k-l)=l by lia];unfold XQ;have tk:=t.hi k (gZ _);by_cases u:i=l
   .rw[di u,di u,cq (show ¬ j=l by lia),cq (show ¬ j=l by lia),di We,di We];exact .inl (d _ We We)
   .rw[cq u,cq u];by_cases q:j=l
    .rw[di q,di q,cq We,cq We];have:=f i We;have:=t.lo i We;lia
    .rw[cq q,cq q];by_cases hi:l<i/\i<=k
     .rw[di hi,di hi,di We,di We];exact o _ _ We We
     .rw[cq hi,cq hi];by_cases a:l<j/\j<=k
      .rw[di a,di a];exact o _ _ We We
      .rw[cq a,cq a];exact o _ _ We We
def NJ(a₀:ET)(st:SortSt):Prop:=failedOf st=none/\pendingOf st=#[(0,a₀.size,0)]/\∃κ,Tag a₀ (arrOf st) κ a₀.size/\vt QaW κ a₀.size/\(arrOf st).size=a₀.size
noncomputable def TZ{st:SortSt}{κ:Da}(a:Qdf)(t:Tag a₀ (arrOf st) κ a₀.size)(o:vt QaW κ a₀.size):NJ a₀ (setPending st ((pendingOf st).push (0,a₀.size,0))):=
 ⟨a.failed,by rw[a.pend];rfl,κ,t,o,a.size⟩
theorem XT{st:SortSt}{Q:Unit->SortSt->Prop}(h0:QdZ)(e:Qdf)(v:Tag a₀ (arrOf st) id 0)(h2:2<=a₀.size)(C:a₀.size<64)
  (h:∀z κ,failedOf z=none->Tag a₀ (arrOf z) κ a₀.size->vt Qah κ a₀.size->(arrOf z).size=a₀.size->Q () z):wpS Qal A E s sortRuns' Q st:=by
 rw[sortRuns'_eq];refine lL (wpS_get ?_);dsimp only;have a:minRun' a₀.size a₀.size 0=a₀.size:=by
  obtain⟨f,hf⟩:∃f,a₀.size=f+1:=⟨a₀.size-1,We⟩;have q:minRun' (f+1) a₀.size 0=a₀.size:=by
   rw[minRun'_succ,di C];rfl
  rwa [← hf]at q
 rw[e.size,a];refine lL (wpS_mono (x4 (I:=λx c z=>(x=0/\c=(none,0)/\SBase a₀ z/\Tag a₀ (arrOf z) id 0)\/(1<=x/\c=(none,a₀.size)/\NJ a₀ z))
  (Q:=λc z=>c=(none,a₀.size)/\NJ a₀ z) ?one ?all (.inl ⟨rfl,rfl,e,v⟩)) ?ZJ)
 case all=>
  rintro c z (⟨u,_⟩|⟨_,B,hD⟩)
  .lia
  .exact⟨B,hD⟩
 case one=>
  rintro x c z _ u (⟨rfl,rfl,b2,t0⟩|⟨r,rfl,hD⟩)
  .dsimp only;rw[cq We];rw[Nat.sub_zero,Nat.min_self,vy];refine lL (abk h0 (gZ _) We b2 t0 λm k κ b3 m1 m2 t o=>?_);dsimp only;by_cases d:m<a₀.size
   .rw[di d];refine lL (wpS_lift (wpAny_rule ⟨rfl,?_⟩));refine lL (abl h0 (gZ _) m2 m1 b3 t o λj i g n p=>?_);simp only[Bool.not_true,n6,n4];refine lL (wpS_get ?_);have b:(pendingOf j).back? = none:=by rw[g.pend];rfl
    rw[b];dsimp only;exact lL (wpS_modify (mB (.inr ⟨We,by first|rfl|rw[vy],TZ g n p⟩)))
   .rw[cq d];have hm:m=a₀.size:=by lia
    subst hm;refine lL (wpS_get ?_);have b:(pendingOf k).back? = none:=by rw[b3.pend];rfl
    rw[b];dsimp only;exact lL (wpS_modify (mB (.inr ⟨We,by first|rfl|rw[vy],TZ b3 t o⟩)))
  .dsimp only;rw[di (gZ _)];exact mB ⟨rfl,hD⟩
 case ZJ=>
  rintro c z ⟨rfl,hD⟩;dsimp only;refine lL (wpS_mono (x4 (I:=λ_ c y=>y=z/\c=(none,())) (Q:=λc y=>y=z/\c=(none,())) ?_ (λ_ _ q=>q) ⟨rfl,rfl⟩) ?_)
  .rintro x c y _ _ ⟨rfl,rfl⟩;refine lL (wpS_get ?_);rw[di (by rw[hD.2.1];exact gZ 1)];exact mB ⟨rfl,rfl⟩
  .rintro c y ⟨rfl,rfl⟩;obtain⟨κ,t,o,l⟩:=hD.2.2;exact mB (h _ κ hD.1 t o l)
end
def K4{a c:AT}(p:a.Perm c)(s:a.Pairwise (· ≥ ·)):a=(sortI c).reverse:=by
 have h:=Ak ((List.reverse_perm a).trans p) (List.pairwise_reverse.2 (s.imp λh=>h));rw[← h,List.reverse_reverse]
def tSR(K:Frag)(t:TA):TE:=λσ H Q=>t σ H λvs H1=>∃p ns,vs=[.ref p]/\nS K H1 p (ns.map .int)/\ns.length<64/\∀l,H1 l=none->Q (.ref l) (upd H1 l (.lst ((sortI ns).reverse.map .int)))
theorem RG{t:TA}{p p1:Pos}{kj:Nat}(m:Gl X "sorted")(hm:QhE)(n:PA X [e] t)(hs:Qad) :
  PE X (.Call (.Name "sorted" p) [e] [⟨some "reverse",.Constant QfF kj p1,p2⟩] pos) (tSR X.K t):=by
 intro pins s σ H Q I h;have l:PK X [⟨some "reverse",.Constant QfF kj p1,p2⟩] _:=Vg Ta aaq;refine tJ (qT I m hm tP ?_);refine callWith_kw (fY QiZ λus s1 zz=>?_) (by rw[hs];rfl) (by rw[hs];rfl) rfl rfl;obtain⟨vs,H1,r,g,i⟩:=zz;refine fY (l pos pins s1 σ H1 (λzs H2=>zs=[.bl true]/\H2=H1) r ⟨rfl,rfl⟩) λws s2 zz=>?_;obtain⟨zs,H2,a,c,e1,e2⟩:=zz;subst e1;subst e2;obtain⟨u,rfl,f⟩:=c.one;cases f;obtain⟨q,ns,rfl,k,x,kk⟩:=i;obtain⟨v,rfl,d⟩:=g.one;cases d;obtain⟨its,b,pl,hz⟩:=a.list k;have hlen:=b.length;rw[d8]at hlen;refine sorted_ints_rev pl.isList (intsAre_of b) We λout j a1 a2 a3=>?_;obtain⟨o,he⟩:=sortedAll_at s2.heap its out;have e3:=K4 a2 a3;subst e3;refine⟨.ref (s2.heap.objs.size+1),_,a.laid (t':=s2.toks) (λ_ _=>sortedAll_old) (mI _) (show g6 X.prog X.w _ _ _ Qdy from⟨?_,out.toList,o,tN a1,?_⟩),rfl,kk _ (a.fQ.fresh (mI _))⟩
 .rw[d8,t4,pF];simp_all
 .simpa using he
variable{p1:Pos}{kj:Nat}
def RH{l:AT}(hm:QhE)(h:Qiy)(j:l.length<64)(m:Gl X "sorted")(hs:Qad:=by exact bq rfl) :
  cL X CL b (.Call Qjy [e] [⟨some "reverse",.Constant QfF kj p1,p2⟩] pos) δ (.lst (((sortI l).reverse.map .int).map T.sh)) δ1:=λH Z σ ts vs Q S k=>
 cI (RG m hm QaF hs) (h H Z σ ts vs _ S λv H1 Z1 d k1 o r=>by
  obtain⟨a,us,rfl,g,f⟩:=r.gV;have:=sf f;subst this;refine⟨a,l,rfl,g,j,λp i=>?_⟩;obtain⟨c,n⟩:=(bH.oA (ints_rep _) o).j8 (g0:=[]) WA i;exact k _ _ _ d Qcu n)
def OW(hi:X.N[i]? = some x)(h:X.env.scope.names.lookup x=some .local)(hf:X.fn x=true)(hd:AD x:=by decide)(a:AE x:=by decide):Ln X i x:=⟨⟨hi,.inl h,hd,a⟩,.inl h,.inl hf⟩
def mkC(hi:X.N[i]? = some x)(h:X.env.scope.names.lookup x=some .cell)(hf:X.fn x=true)(hd:AD x:=by decide)(a:AE x:=by decide):Ln X i x:=⟨⟨hi,.inr (.inl h),hd,a⟩,.inr h,.inl hf⟩
def VD{w:World}{f:Addr}{sp:Sp}(G:fj P w K mg base lR k f fd ps sp)(m:mg x=some Q3)(q:QhB)(b:Binds K fd ps []) :
  ∃f fd ps,fj P w K mg base lR k f fd ps sp/\mg x=some Q3/\keepIn K Q3=true/\Binds K fd ps []:=⟨_,_,_,G,m,q,b⟩
variable{px:Pos}{p:L3.D->Bool}{g:L3.D->T}{ds:BA}
def Fh(sc:QdN):tM X scope [y] Nc ix:=⟨sc.kind,sc.BV,sc.nd,sc.names,(λx a=>by rw[kf]at a;subst a;exact sc.own),sc.frees,sc.hd,sc.sr⟩
noncomputable def Md(sc:QdN)(h:Qk8)(h1:AD y)(h2:AE y):B4 X CL scope Nc [y].length (.Name y px) part1 ifs elt δc ds p g:=λC s0 b f0 a=>
 ⟨aa2 sc.nd (Ry (by rw[sc.hd];rfl) sc.own h1 h2),λd hd=>⟨[d],rfl,rfl,(h C s0 b f0 a d hd).1,(h C s0 b f0 a d hd).2⟩⟩
def oH(sc:QdN)(a:QaK)(h:Qlb)(c:(δc=EV δ1 ix/\∀d∈ds,(g d).clean=true)\/δc=BX δ1 ix)(inner:Qk8)(hlen:QbG)
  (hs:Qca:=by intro _;rfl) (h1:AD y:=by decide) (h2:AE y:=by decide):cL X CL b Qkd δ (.lst ((ds.filter p).map g)) δ1:=
 E2 (Fh sc) a (SA h) c (Md sc inner h1 h2) hlen hs
def RJ{D:gA}{gg:L3.D->T}(g:Gx X)(n:QbT)(sc:QdN)(h:Qlb)(c:(δc=EV δ1 ix/\∀d∈ds,(gg d).clean=true)\/δc=BX δ1 ix)(inner:Block X CL scope Nc ifs elt δc ds p gg)
  (hlen:QbG) (k:fh X CL b gP (δ1.set i (some (.lst ((ds.filter p).map gg)))) D) (a:QbB)
  (e:swapsWith Qh8 Qf1 pos.line X.env=pure true\/swapsWith Qh8 Qf1 pos.line X.env=pure false) (hs:Qca:=by intro _;rfl)
  (h1:AD y:=by decide) (h2:AE y:=by decide):fh X CL b (.Assign [.Name x pos'] Qh8 pos::gP) δ D:=
 alH g n (Fh sc) (SA h) c (Md sc inner h1 h2) hlen k a e hs
variable{d:L3.D}
def aF(n:QbT)(h:δ[i]? = some Qb0:=by rfl):dR X CL b Qav δ d δ:=aH (v_ n.1 h)
structure bI(X:Cx):Prop where
 g:Gx X
 u:X.A.units+64<cLine
abbrev bX:NameKind:=.globalImplicit
abbrev cZ:NameKind:=.local
def jC{P:At}{sc:Scope}(h1:sc.kind=.function:=by rfl)(h2:sc.isCoroutine=false:=by rfl)(e:sc.isGenerator=false:=by rfl)(d:N.Nodup:=by decide +kernel)(c:N.take P.length=P:=by rfl)(b:∀x∈P,sc.names.lookup x=some .local\/sc.names.lookup x=some .cell:=by decide +kernel)(a:∀y∈sc.names,y.2 ≠ .free:=by decide +kernel):cU N P sc:=⟨h1,h2,e,d,c,b,a⟩
variable{tb:DA}
def qB(c:Qjz)(j:Nat)(a:tb[j]? = some (x,.local):=by rfl)(hi:X.N[i]? = some x:=by rfl)(hf:X.fn x=true:=by rfl)(hd:AD x:=by decide)(b:AE x:=by decide):Ln X i x:=OW hi (b8 c j a) hf hd b
def yQ(c:Qjz)(j:Nat)(a:tb[j]? = some (x,.cell):=by rfl)(hi:X.N[i]? = some x:=by rfl)(hf:X.fn x=true:=by rfl)(hd:AD x:=by decide)(b:AE x:=by decide):Ln X i x:=mkC hi (b8 c j a) hf hd b
def qC(c:Qjz)(j:Nat)(a:tb[j]? = some (x,.globalImplicit):=by rfl):Gl X x:=b8 c j a
def cT{m:Nat}{arg:Qak}{Pre:Q1}{res:Qaa}(F:∃f fd ps,fj X.prog X.w X.K X.mg X.base lR k f fd ps QiY/\X.mg x=some Q3/\keepIn X.K Q3=true/\Binds X.K fd ps [])(r:eG m X.A)(h:k<=m:=by decide):Fc X CL x k n arg Pre res:=⟨F,r.mono h⟩
variable{δ':BB}{σ':L2.St}{y:Addr}
theorem bH.ap0(S:Qap)(hi:δ[i]? = some QfD):σ[i]? = some (some Qdw)/\bH K CL b H Z (δ.set i Qar) σ ts vs:=by
 obtain⟨fp,gp,e,r,nd,k⟩:=S.rep;obtain⟨v0,f1,f2,c,hv,a,rt,put,_⟩:=e.get hi;subst a;replace rt:=rt.Rg;obtain⟨rfl,rt⟩:=rt;have e2:=put Qr Qda rt;rw[ig hv]at e2;exact⟨hv,⟨⟨_,gp,e2,r,nd,k⟩,S.bh,S.zz,S.zh,S.new,S.tp,S.tab⟩⟩
noncomputable def yR(H:Hp)(gp:BN):Hp:=λc=>if c∈gp then none else H c
def kY{c:Addr}(h:c∉gp):yR H gp c=H c:=cq h
def tQ{c:Addr}(h:c∈gp):yR H gp c=none:=di h
def pG{c:Addr}(h:yR H gp c=some o):c∉gp/\H c=some o:=by
 by_cases a:c∈gp
 .rw[tQ a]at h;cases h
 .rw[kY a]at h;exact⟨a,h⟩
theorem bH.cut(S:bH K CL b H Z δ σ (tl++ts) (us++vs))(l:tl.length=us.length):∃gp,aU K CL H Z tl us gp/\gp.Nodup/\bH K CL b (yR H gp) Z δ σ ts vs:=by
 obtain⟨fp,g,e,r,nd,k⟩:=S.rep;obtain⟨g1,g2,rfl,j,i⟩:=aU.split l r;have f:(fp++(g1++g2)).Perm (g1++(fp++g2)):=by
  rw[← jc,← jc];exact nt.append_right g2
 have d:=lj.1 (f.nodup_iff.1 nd);have ne:∀c∈fp++g2,c∉g1:=λc a h=>d.2.2 c h c a rfl;have own:∀c∈g1,Z c=none/\b.B c=none:=λc a=>k c (i5 _ (ka _ a));refine⟨g1,j,d.1,⟨⟨fp,g2,e.mono Qr (λc a=>kY (ne c (ka _ a))),i.mono Qr (λc a=>kY (ne c (i5 _ a))),d.2.1,λc a=>k c (f.mem_iff.2 (i5 _ a))⟩,λc o q=>?_,S.zz,λc o q=>?_,S.new,λc o q im=>S.tp c o (pG q).2 im,S.tab⟩⟩
 .rw[kY (λh=>by rw[(own c h).2]at q;cases q)];exact S.bh c o q
 .rw[kY (λh=>by rw[(own c h).1]at q;cases q)];exact S.zh c o q
theorem bH.NI{W':Hp}(S:Qap)(k:aB H H')(ww:aB Z W')(l:aB W' H')(new:∀a o,W' a=some o->Z a=none->H a=none)
  (tp:∀a o,H' a=some o->kQ o=true->W' a=some o) (r:aU K CL H' W' tl us fp) (nd:fp.Nodup) (own:∀a∈fp,W' a=none/\H a=none):bH K CL b H' W' δ σ (tl++ts) (us++vs):=by
 obtain⟨f0,g0,e0,g,f,k0⟩:=S.rep;have old:∀a∈f0++g0,∃o,H a=some o:=λa d=>(gY.1 d).elim (e0.there a) (g.there a);have keep:∀a∈f0++g0,H' a=H a:=λa d=>by
  obtain⟨o,e⟩:=old a d;rw[e];exact k a o e
 have j:(f0++(fp++g0)).Perm (fp++(f0++g0)):=by
  rw[← jc,← jc];exact nt.append_right g0
 have wn:∀a∈f0++g0,W' a=none:=λa d=>by
  cases q:W' a with
  | none=>rfl
  | some o=>
   obtain⟨u,e⟩:=old a d;rw[new a o q (k0 a d).1]at e;cases e
 refine⟨⟨f0,fp++g0,e0.mono ww (λa d=>keep a (ka _ d)),aU.app r (g.mono ww λa d=>keep a (i5 _ d)),?_,λa d=>?_⟩,S.bh.trans k,S.zz.trans ww,l,λa o q z=>?_,tp,S.tab⟩
 .refine j.nodup_iff.2 (lj.2 ⟨nd,f,λa d c m e=>?_⟩);subst e;obtain⟨o,q⟩:=old a m;rw[(own a d).2]at q;cases q
 .obtain h|h:=gY.1 (j.mem_iff.1 d)
  .exact⟨(own a h).1,Rj S.bh (own a h).2⟩
  .exact⟨wn a h,(k0 a h).2⟩
 .cases i:Z a with
  | none=>exact Rj S.bh (new a o q i)
  | some u=>
   exact S.new a u i z
def XU:B2->B2->Prop
 | [],[]=>True
 | .sh d::l,.sh e::m=>d=e/\XU l m
 | .pin x _::l,.pin z _::m=>x=z/\XU l m
 | _,_=>False
def Keeps(δ:BB)(ol:B2):Prop:=∀(j:Nat) (y:Addr) (t:T),ol[j]? = some (T.pin y t)->δ[j]? = some (some (T.pin y t))
theorem Keeps.tail{o:ES}{d:T}{ol:B2}(k:Keeps (o::δ) (d::ol)):Keeps δ ol:=λj y t h=>k QA y t h
theorem fZ.outs{W W':Hp}(ww:aB W W'):∀{al ol:B2} {vs:BY} {g0:BN} {δ:BB} {σ:L2.St} {fp:BN},XU al ol->aU K CL H W al vs g0->fZ K CL H' W' δ σ fp->Keeps δ ol->∃g,aU K CL H' W' ol vs g/\g.Sublist fp:=by
 intro al
 induction al with
 | nil=>
  intro ol vs g0 δ σ fp b f _ _;cases f;cases ol with
  | nil=>exact⟨[],.nil,List.nil_sublist _⟩
  | cons _ _=>cases b
 | cons a al c=>
  intro ol vs g0 δ σ fp b f re k;cases f with
  | cons r rs=>
  cases ol with
  | nil=>cases a<;>cases b
  | cons o ol=>
  cases a with
  | sh d=>
   cases o with
   | sh e=>
    obtain⟨h1,h2⟩:=b;subst h1;replace r:=r.KD;obtain⟨rfl,r⟩:=r;cases re with
    | nil=>
     obtain⟨g,q,s⟩:=c h2 rs (.nil (H:=H') (Z:=W')) (λj y t h=>by have:=k QA y t h;simp at this);exact⟨[]++g,.cons (.sh (r.mono ww)) q,s⟩
    | skip re=>
     obtain⟨g,q,s⟩:=c h2 rs re k.tail;exact⟨[]++g,.cons (.sh (r.mono ww)) q,s⟩
    | cons rt re=>
     obtain⟨g,q,s⟩:=c h2 rs re k.tail;exact⟨[]++g,.cons (.sh (r.mono ww)) q,s.trans (uu _ _)⟩
   | _=>cases b
  | pin x t0=>
   cases o with
   | pin z t=>
    obtain⟨h1,h2⟩:=b;subst h1;have h0:=k 0 x t rfl;replace r:=r.Rg;obtain⟨rfl,r⟩:=r;cases re with
    | nil=>simp at h0
    | skip re=>simp at h0
    | cons rt re=>
     simp at h0;subst h0;obtain⟨g,q,s⟩:=c h2 rs re k.tail;replace rt:=rt.Rg;obtain⟨rfl,rt⟩:=rt;exact⟨_,.cons (.pin rt) q,pE (n7 _) s⟩
   | _=>cases b
  | _=>cases o<;>cases b
noncomputable def RK(N:At)(al:B2):BB:=al.map some++List.replicate (N.length-al.length) none
theorem Di:∀{al:B2} {vs:BY} {gp:BN} (n:Nat),aU K CL H Z al vs gp->fZ K CL H Z (al.map some++List.replicate n none) (vs.map some++List.replicate n none) gp
 | _,_,_,n,.nil=>lS (ds:=[]) (vs:=[]) n .nil
 | _,_,_,n,.cons r t=>.cons r (Di n t)
def ph(K:Frag)(CL:BC)(n:Nat)(arg:Qam)(Pre:Q1)(res:Qaa)(out:Qam):Sp:=λvs H Q _=>
 ∃(W:Hp) (a:A) (gp:BN),aB W (yR H gp)/\(∀c o,H c=some o->kQ o=true->W c=some o)/\aU K CL H W QbM vs gp/\gp.Nodup/\(arg a).length=n/\Pre a/\qV CL W ∧
  ∀v H' W' fp,aB (yR H gp) H'->aB W W'->aB W' H'->(∀c o,W' c=some o->W c=none->yR H gp c=none)->(∀c o,H' c=some o->kQ o=true->W' c=some o) →
   aU K CL H' W' (res a::out a) QaX fp->fp.Nodup->(∀c∈fp,W' c=none/\yR H gp c=none)->Q v H'
def RL{w:World}{f:Addr}{arg:Qam}{Pre:Q1}{res:Qaa}{out:Qam}(F:QdG)(S:Qb2)(B:∀a,Pre a->XU QbM QcM)
  (L:∀(gR:Value) (l:Qau) (outer:D1) (s:Qb) (H:Hp) (E:XK) (b:Bx) (a:A),eG k (l.deeper QcQ)->Pre a →
   fh (rY lR P w K mg base N qual QaJ f gR l outer s H E).Kv CL b Qbk (RK N QbM) {nx:=λδ=>res a=.sh .non/\Keeps δ QcM,rt:=λt δ=>t=res a/\Keeps δ QcM}) :
  fj P w K mg base lR Qaj f fd ps Qir:=by
 refine F.ok S (λvs H Q E h=>?_) (λgR l outer s H vs Q E J h=>?_)
 .obtain⟨W,a,gp,_,_,r,_,C,_⟩:=h;rw[← r.length];exact C
 .obtain⟨W,a,gp,u,tp,r,nd,C,m,tb,kk⟩:=h;have wn:∀c∈gp,W c=none:=λc i=>by
   cases q:W c with
   | none=>rfl
   | some o=>exact absurd i (pG (u c o q)).1
  refine⟨_,ZG,L gR l outer s H E ⟨yR H gp,W⟩ a J m H W _ [] [] _ ⟨⟨gp,[],?_,.nil,by rw[j2];exact nd,λc i=>?_⟩,λc o q=>(pG q).2,.refl _,λc o q=>(pG (u c o q)).2,λc o q z=>?_,tp,tb⟩ ⟨λδ' σ' H' Z' s' d e=>?_,λt v H' Z' δ' σ' s' d e=>?_,λ_ _ _ _ _ _ e=>e.elim,λ_ _ _ _ _ _ e=>e.elim⟩⟩
  .unfold RK L2.start;rw[← r.length];exact Di _ r
  .rw[j2]at i;exact⟨wn c i,tQ i⟩
  .have G:W c=some o:=q;have p:W c=none:=z;rw[G]at p;cases p
  .obtain⟨e1,e2⟩:=e;obtain⟨fp,M,re,y,n,own⟩:=d.rep;obtain⟨g,q,j⟩:=fZ.outs d.zz (B a m) r re e2;have I:=(lj.1 n).1;exact kk .non H' Z' ([]++g) d.bh d.zz d.zh d.new d.tp (.cons (by rw[e1];exact .sh .non) q) (I.sublist j) λc i=>own c (ka _ (j.subset i))
  .obtain⟨e1,e2⟩:=e;subst e1;obtain⟨fp,M,re,y,n,own⟩:=d.rep;obtain⟨g,q,j⟩:=fZ.outs d.zz (B a m) r re e2;cases y with
   | @cons _ _ _ _ f1 f2 D O=>
    have sub:(g++f1).Sublist (fp++(f1++f2)):=pE j (NY _ _);have pm:(f1++g).Perm (g++f1):=nt;exact kk v H' Z' (f1++g) d.bh d.zz d.zh d.new d.tp (.cons D q) (pm.nodup_iff.2 (n.sublist sub)) λc i=>own c (sub.subset (pm.mem_iff.1 i))
def LH(σ:L2.St):CO->BN->Prop
 | [],[]=>True
 | i::is,y::ys=>σ[i]? = some (some Qdw)/\LH σ is ys
 | _,_=>False
def yj:B2->BN->B2->Prop
 | [],[],[]=>True
 | .sh _::ol,ys,ns=>yj ol ys ns
 | .pin y t::ol,z::ys,n::ns=>y=z/\(n=t\/n=.pin y t)/\yj ol ys ns
 | _,_,_=>False
noncomputable def XW:BB->CO->B2->BB
 | δ,i::is,n::ns=>XW (δ.set i (some n)) is ns
 | δ,_,_=>δ
theorem bH.RY:∀{ol:B2} {us:BY} {is:CO} {ys:BN} {ns:B2} {δ:BB},bH K CL b H Z δ σ (ol++ts) (us++vs)->ol.length=us.length->LH σ is ys->yj ol ys ns->(∀i∈is,i<δ.length)->bH K CL b H Z (XW δ is ns) σ ts vs:=by
 intro ol
 induction ol with
 | nil=>
  intro us is ys ns δ S e c a hi;cases us with
  | cons _ _=>cases e
  | nil=>
   cases ys with
   | cons _ _=>cases a
   | nil=>
    cases is with
    | cons _ _=>cases c
    | nil=>
     rw[XW.eq_def];exact S
 | cons o ol k=>
  intro us is ys ns δ S e c a hi;cases us with
  | nil=>cases e
  | cons u us=>
  cases o with
  | sh d=>exact k S.pop (Nat.succ.inj e) c a hi
  | pin y t=>
   cases ys with
   | nil=>cases a
   | cons z ys=>
   cases ns with
   | nil=>cases a
   | cons n ns=>
   cases is with
   | nil=>cases c
   | cons i is=>
   obtain⟨h1,m,a⟩:=a;subst h1;obtain⟨g,c⟩:=c;have l:u=.ref y:=by
    obtain⟨_,_,_,r,_,_⟩:=S.rep;cases r with
    | cons r _=>cases r;rfl
   subst l;have f:=hi i gj;have h:=S.set f;rw[ig g]at h;have q:bH K CL b H Z (δ.set i (some n)) σ (ol++ts) (us++vs):=by
    obtain rfl|rfl:=m
    .have:=(h.ap0 (yY f)).2
     rwa [List.set_set]at this
    .exact h
   exact k (δ:=δ.set i (some n)) q (Nat.succ.inj e) c a λj p=>by rw[oz];exact hi j (i4 _ p)
  | _=>cases a
section
variable{D:gA}{is:CO}{fx:BN->Prop}{al:BN->B2}
def mS(X:Cx)(CL:BC)(b:Bx)(e:Expr)(δ:BB)(t:T)(δ':BB):Prop:=
 ∀(H Z:Hp) (σ:L2.St) (ts:B2) (vs:BY) (Q:VK),bH X.K CL b H Z δ σ ts vs->(∀v H' Z',aB Z Z'->bH X.K CL b H' Z' δ' σ (t::ts) QaX->Q v H')->HL X e σ H Q
theorem cL.m(h:QaL):mS X CL b e δ t δ1:=λH Z σ ts vs Q S k=>h H Z σ ts vs Q S λv H' Z' z _ a=>k v H' Z' z a
def agg(h:QbX)(k:D.rt t δ1):Rl X CL b Qjd δ D:=λH Z σ ts vs E S M=>r9 (Z8 dQ) (h H Z σ ts vs _ S λv H1 Z1 a c=>M.rt t v H1 Z1 δ1 σ a c k)
def abp(h:QbX)(k:D.nx δ1)(hs:Qii:=by rfl):Rl X CL b (.Expr e pos) δ D:=λH Z σ ts vs E S M=>r9 (zZ dQ hs) (h H Z σ ts vs _ S λv H1 Z1 a c=>M.nx δ1 σ H1 Z1 a c.pop k)
def agh(i:Nat)(h:QbX)(k:D.nx (δ1.set i Qar))(d:QbB:=by decide)(f:QbP:=by assumption)(hi:X.N[i]? = some x:=by rfl)(c:Qc7:=by first|exact .inl rfl|exact .inr rfl)
  (hs:Qfb:=by rfl) (hf:AM X x:=by first|exact .inl rfl|exact .inr rfl|assumption):Rl X CL b QiH δ D:=λH Z σ ts vs E S M=>
 r9 (aac f hi c dQ hs hf) (h H Z σ ts vs _ S λv H1 Z1 a g=>M.nx _ _ H1 Z1 a (g.set d) k)
def o1(X:Cx)(CL:BC)(b:Bx)(es:CU)(δ:BB)(is:CO)(fx:BN->Prop)(al:BN->B2)(δ':BB):Prop:=
 ∀(H Z:Hp) (σ:L2.St) (ts:B2) (vs:BY) (Q:EN),bH X.K CL b H Z δ σ ts vs →
  (∀ys us H' Z',ys.length=is.length->LH σ is ys->fx ys->us.length=(al ys).length->aB Z Z'->aB H H'->bH X.K CL b H' Z' δ' σ ((al ys).reverse++ts) QdJ->Q us H')->Rh X es σ H Q
def tR:o1 X CL b [] δ [] (λ_=>True) (λ_=>[]) δ:=λH Z σ ts vs Q S k=>HP dW (k [] [] H Z rfl trivial trivial rfl Qr Qr S)
def qD(h1:Qg2)(h2:o1 X CL b es δ1 is fx al δ2)(hs:Qaf:=by exact bq rfl):o1 X CL b Qab δ is fx (λys=>.sh d::al ys) δ2:=λH Z σ ts vs Q S k=>
 HP (bZ dQ HM hs) (h1 H Z σ ts vs _ S λv H1 Z1 c k1 j=>h2 H1 Z1 σ _ _ _ j λys us H2 Z2 f h hf g a k2 i=>k ys (v::us) H2 Z2 f h hf (by simp[g]) Qb4 Qaq (by
  rw[nc,nc,jc,jc];exact i))
noncomputable def T.isRef:T->Bool
 | .lst _=>true
 | .ins _ _=>true
 | .qw _=>true
 | .dct _=>true
 | _=>false
theorem bH.alP(S:Qci)(h:t.isRef=true):∃y,v=.ref y/\bH K CL b H Z δ σ (.pin y t::ts) (.ref y::vs):=by
 obtain⟨fp,gp,e,r,nd,k⟩:=S.rep;cases r with
 | cons r rs=>
  cases r with
  | sh r=>cases h
  | tup r _=>cases h
  | pin r=>cases h
  | DI r _ _=>cases h
  | lst r q=>exact⟨_,rfl,⟨⟨fp,_,e,.cons (.pin (.lst r q)) rs,nd,k⟩,S.bh,S.zz,S.zh,S.new,S.tp,S.tab⟩⟩
  | ins r q=>exact⟨_,rfl,⟨⟨fp,_,e,.cons (.pin (.ins r q)) rs,nd,k⟩,S.bh,S.zz,S.zh,S.new,S.tp,S.tab⟩⟩
  | qw r q=>exact⟨_,rfl,⟨⟨fp,_,e,.cons (.pin (.qw r q)) rs,nd,k⟩,S.bh,S.zz,S.zh,S.new,S.tp,S.tab⟩⟩
  | dct r q=>exact⟨_,rfl,⟨⟨fp,_,e,.cons (.pin (.dct r q)) rs,nd,k⟩,S.bh,S.zz,S.zh,S.new,S.tp,S.tab⟩⟩
def An(n:QaY)(h:δ[i]? = some QfD)(h2:o1 X CL b es (δ.set i none) is fx al δ2)(hs:starEach (.Name x pos::es) X.env=(false,eval Qav X.env)::starEach es X.env:=by exact bq rfl) :
  o1 X CL b (.Name x pos::es) δ (i::is) (λys=>ys.headD 0=y/\fx ys.tail) (λys=>.pin y t::al ys.tail) δ2:=λH Z σ ts vs Q S k=>by
 obtain⟨v,e,a⟩:=S.move h;have hv:v=.ref y:=by
  obtain⟨_,_,_,r,_,_⟩:=a.rep;cases r with
  | cons r _=>cases r;rfl
 subst hv;exact HP (bZ QcV HM hs) ⟨_,e,h2 H Z σ _ _ _ a λys us H2 Z2 d g hf f c k2 j=>k (y::ys) (.ref y::us) H2 Z2 (by simp[d]) ⟨e,g⟩ ⟨rfl,hf⟩ (by simp[f]) c k2 (by
  show bH _ _ _ _ _ _ _ ((T.pin y t::al ys).reverse++ts) _;rw[nc,nc,jc,jc];exact j)⟩
def abr{f:Addr}{arg:Qam}{Pre:Q1}{res:Qaa}{out:Qam}(a:BN->A)(ns:B2)(F:Qku)(M:QbA)(hm:QfJ)(O:Qfw)(U:Qc3)
  (h:o1 X CL b Qab δ is fx al δ1) (V:∀ys,ys.length=is.length->fx ys->arg (a ys)=al ys/\(arg (a ys)).length=n/\Pre (a ys)/\res (a ys)=t/\yj (out (a ys)) ys ns) (JQ:∀i∈is,i<δ1.length) (R:Qao)
  (J:AD x:=by decide) (he:Qaf:=by exact bq rfl) (hpl:Qaw:=by rfl) :
  mS X CL b Qbs δ t (XW δ1 is ns):=λH Z σ ts vs Q S kk=>
 cI (Kx F M R hm O U .nil u9 HM J he hpl) (h H Z σ ts vs _ S λys us H1 Z1 m Dh hf o G k1 u=>by
  rw[j2];obtain⟨q,p,N,j,l⟩:=V ys m hf;obtain⟨g,r,nd,s⟩:=u.cut (by simp[o]);obtain⟨g',y,pm⟩:=r.rev;have W:yR H1 g=yR H1 g':=funext λc=>by
   by_cases d:c∈g
   .rw[tQ d,tQ (pm.mem_iff.2 d)]
   .rw[kY d,kY (λz=>d (pm.mem_iff.1 z))]
  rw[W]at s;rw[← q]at y;refine⟨Z1,a ys,g',s.zh,u.tp,y,pm.nodup_iff.2 nd,p,N,u.Ri,λv H' W' fp P ww I nw tp rt Y own=>?_⟩;cases rt with
  | @cons _ _ _ _ f1 f2 L B=>
   have C:(f2++(f1++[])).Perm (f1++f2):=by rw[j2];exact nt
   have E:=s.NI P ww I nw tp (aU.app B (.cons L .nil)) (C.nodup_iff.2 Y) λc d=>own c (C.mem_iff.1 d);rw[jc,jc]at E;have D:=E.RY B.length Dh l JQ;rw[j]at D;exact kk v H' W' (G.trans ww) D)
structure QK(X:Cx)(CL:BC)(x:Str)(k n:Nat){A:Type}(arg:Qam)(Pre:Q1)(res:Qaa)(out:Qam):Prop where
 ex:∃f fd ps,fj X.prog X.w X.K X.mg X.base lR k f fd ps Qgx/\X.mg x=some Q3/\keepIn X.K Q3=true/\Binds X.K fd ps []
 room:eG k X.A
def cM1{arg:Qam}{Pre:Q1}{res:Qaa}{out:Qam}(a:Addr->A)(c:T)(F:QiK)(p:Qao)(h:o1 X CL b Qab δ [i] fx al δ1)(g:∀y,fx [y]->Pre (a y))(v:∀y,fx [y]->res (a y)=t)(u:∀y,fx [y]->yj (out (a y)) [y] [c])
  (s:∀y,fx [y]->arg (a y)=al [y]:=by intros;rfl) (hlen:∀y,(arg (a y)).length=n:=by intros;rfl) (w:QbB:=by exact jj rfl)
  (d:AD x:=by decide) (he:Qaf:=by exact bq rfl) (hpl:Qaw:=by rfl) :
  mS X CL b Qbs δ t (δ1.set i (some c)):=by
 obtain⟨⟨f,fd,ps,G,m,q,bd⟩,r⟩:=F;exact abr (λys=>a (ys.headD 0)) [c] G r m q bd h (λys l hf=>match ys,l,hf with | [y],_,hf=>⟨s y hf,hlen y,g y hf,v y hf,u y hf⟩) (λj o=>by cases kf.1 o;exact w) p d he hpl
def iM(g:Gx X)(n:QbT)(h:QbX)(k:fh X CL b gP (δ1.set i Qar) D)(a:QbB:=by exact jj rfl)(hs:Qfb:=by rfl) :
  fh X CL b (.Assign [.Name x pos'] e pos::gP) δ D:=cN (agh i h k a g.nd n.hi n.loc hs n.hf)
def vv(h:QbX)(k:D.rt t δ1):fh X CL b (.Return (some e) pos::gP) δ D:=cN (agg h k)
def VF(h:QbX)(k:fh X CL b gP δ1 D)(hs:Qii:=by rfl):fh X CL b (.Expr e pos::gP) δ D:=cN (abp h k hs)
end
noncomputable def Ao{α:Type}(g:α->Int)(x:α):List α->List α
 | []=>[x]
 | y::l=>if g x<=g y then x::y::l else y::Ao g x l
def eS{α:Type}(g:α->Int):List α->List α
 | []=>[]
 | x::l=>Ao g x (eS g l)
variable{g:α->Int}
theorem B5(x:α):∀l,(Ao g x l).Perm (x::l)
 | []=>.refl _
 | y::l=>by
  rw[Ao];split
  .exact .refl _
  .exact((B5 x l).cons y).trans (.swap x y l)
theorem iN:∀l:List α,(eS g l).Perm l
 | []=>.refl _
 | x::l=>(B5 x _).trans ((iN l).cons x)
def lT{l:QR}{x:α}:x∈eS g l↔x∈l:=(iN l).mem_iff
def xh(l:QR):(eS g l).length=l.length:=(iN l).length_eq
theorem Oz(f:β->α)(x:β):∀l,Ao g (f x) Qdr=(Ao (λy=>g (f y)) x l).map f
 | []=>rfl
 | y::l=>by
  rw[js,Ao,Ao];split
  .rfl
  .rw[js,Oz f x l]
theorem pH(f:β->α):∀l:List β,eS g Qdr=(eS (λy=>g (f y)) l).map f
 | []=>rfl
 | x::l=>by rw[js,eS,eS,pH f l,Oz]
def RQ(g:Qe7)(i j:Nat):Prop:=g i<g j\/(g i=g j/\i<j)
theorem RQ.trans{g:Qe7}(a:RQ g i j)(b:RQ g j k):RQ g i k:=by
 unfold RQ at *;lia
theorem RQ.O0{g:Qe7}(a:RQ g i i):False:=by unfold RQ at a;lia
theorem OB{g:Qe7}{x:Nat}:∀{l:CO},l.Pairwise (RQ g)->(∀y∈l,x<y)->(Ao g x l).Pairwise (RQ g)
 | [],_,_=>r3 _ _
 | y::l,h,a=>by
  obtain⟨h1,h2⟩:=l9.1 h;rw[Ao];split
  .refine l9.2 ⟨λz hz=>?_,h⟩;have a1:RQ g x y:=by have:=a y gj;unfold RQ;lia
   obtain rfl|hz:=fV.1 hz
   .exact a1
   .exact a1.trans (h1 z hz)
  .refine l9.2 ⟨λz hz=>?_,OB h2 λz hz=>a z QcH⟩;obtain rfl|hz:=fV.1 ((B5 x l).mem_iff.1 hz)
   .left;lia
   grind
theorem B6{g:Qe7}:∀{l:CO},l.Pairwise (· < ·)->(eS g l).Pairwise (RQ g)
 | [],_=>.nil
 | x::l,h=>by
  obtain⟨h1,h2⟩:=l9.1 h;exact OB (B6 h2) λy a=>h1 y (lT.1 a)
theorem K5{g:Qe7}:∀{S A:CO},S.Pairwise (RQ g)->A.Pairwise (RQ g)->(∀a∈A,a∈S)->A.length<=S.length/\(A.length=S.length->A=S)
 | [],A,_,_,h=>by
  cases A with
  | nil=>exact⟨gZ _,λ_=>rfl⟩
  | cons a A=>exact absurd (h a gj) WA
 | s::S,[],_,_,_=>⟨kn _,λe=>by simp at e⟩
 | s::S,a::A,d,c,h=>by
  obtain⟨s1,s2⟩:=l9.1 d;obtain⟨a1,a2⟩:=l9.1 c;by_cases e:a=s
  .subst e;have q:=K5 s2 a2 λz hz=>(fV.1 (h z QcH)).resolve_left λe=>by subst e;exact(a1 _ hz).O0
   simp_all
  .have b:=(fV.1 (h a gj)).resolve_left e;have q:=K5 s2 c λz hz=>by
    obtain rfl|hz:=fV.1 hz
    .exact b
    .refine(fV.1 (h z QcH)).resolve_left λe2=>?_;subst e2;exact((s1 a b).trans (a1 _ hz)).O0
   grind
theorem abt{l r:QR}{κ:Da}(h:r.length=l.length)(pl:∀k,k<l.length->r[k]? = l[κ k]?)(lo:∀k,k<l.length->κ k<l.length)
  (st:∀i j x y,i<j->r[i]? = some x->r[j]? = some y->g x<g y\/(g x=g y/\κ i<κ j)):r=eS g l:=by
 cases l with
 | nil=>cases r with
  | nil=>rfl
  | cons a r=>simp at h
 | cons d e=>
  generalize t:d::e=l at *
  let f:Nat->α:=λi=>(l[i]?).getD d
  have hf:∀i,i<l.length->l[i]? = some (f i):=λi hi=>by
   show _=some ((l[i]?).getD d);simp_all
  have p:l=(List.range l.length).map f:=we λi=>by
   rw[k4];by_cases hi:i<l.length
   .rw[hf i hi,oT hi];rfl
   simp_all
  have o:r=((List.range l.length).map κ).map f:=we λi=>by
   rw[k4,k4];by_cases hi:i<l.length
   .rw[pl i hi,hf _ (lo i hi),oT hi];rfl
   .rw[List.getElem?_eq_none We,List.getElem?_eq_none (by simpa using hi)];rfl
  have c:=λk b=>(pl k b).trans (hf _ (lo k b));have q:(List.range l.length).map κ=eS (λi=>g (f i)) (List.range l.length):=by
   refine(K5 (B6 (Ha)) (List.pairwise_map.2 ?_) λa n=>?_).2 ?_
   .refine K7 (R:=(· < ·)) (λ{i j} hi m s=>?_) Ha;exact st i j _ _ s (c i (mN.1 hi)) (c j (mN.1 m))
   .obtain⟨k,b,rfl⟩:=j0.1 n;exact lT.2 (mN.2 (lo k (mN.1 b)))
   .rw[d8,xh]
  rw[o,q,← pH,← p]
theorem RT{c f:Value}(l:B1)(h:TriplesOk l)(e:codeAmong pos (l++[rawInt pos'.line,rawInt pos'.col,c])=some f):codeAmong pos l=some f\/f=c:=by
 fun_induction TriplesOk l with
 | case1=>
  simp[codeAmong,rawInt]at e;simp_all
 | case2 a t b u x rest g=>
  simp only[mT,codeAmong]at e ⊢;split at e
  .rename_i d;rw[di d];exact .inl e
  .rename_i d;rw[cq d];exact g h e
 | case3 l h1 h2=>exact h.elim
def EI(f:Addr)(q:Str)(ps:Arguments)(body:Expr)(sc:Scope)(cl:List QeN)(c:Addr):Heap->Prop:=λh=>
 ∃pm a,h.get? f=some (kla_obj "<lambda>" q ps body sc cl pm c a)
structure XY(X:Cx)(CL:BC)(x q:Str):Prop where
 code:∃c,X.env.code=.ref c/\CodeHd X.base c (CL x)
 blt:∃bm o,X.mg "__builtins__" = some (.ref bm)/\bm≠builtinsNs/\bm≠mainGlobals/\X.base.get? bm=some o/\o.cls=.type "module" /\ o.dict=some builtinsNs/\o.data=.plain
 qual:X.env.qual++"<lambda>" = q
 tab:JF x=true/\CL x≠0/\KG x=q
variable{q:Str}{params:Arguments}{body:Expr}
def alR{Q:B0}(L:XY X CL x q)(I:Qbb)(B:H (CL x)=some (.tabs q))(NK:∀y∈scope.names,y.2=.free->∃c,X.env.cells.lookup y.1=some c)
  (P:defaultsOf params X.env=([],[]))
  (k:∀f c H' s',L2.Inv X pins σ H' s'->aB H H'->H' f=some Qig->H' c=some Qcd->(∀b o,H' b=some o->kQ o=true->H b=some o)->Q Q3 s') :
  wpAny Qu X.A (eval (.Lambda params body scope pos) X.env) Q X.xe s:=by
 obtain⟨c,U,hd⟩:=L.code;obtain⟨bm,ob,b1,b2,b3,b4,b5,b6,b7⟩:=L.blt;obtain⟨ps,M,tr,cs⟩:=I.fQ _ _ B;have S:∀{b:Addr} {o:Obj},X.base.get? b=some o->b≠CL x:=λ{b o} e z=>by
  have:=(I.bs _ _ e).2;rw[z,B]at this;cases this
 have T:s.heap.Ns mainGlobals X.mg:=by
  obtain⟨o,es,ep,e,r⟩:=I.mod.glob;exact⟨o,es,ep,I.bk _ _ e,r⟩
 have G:mainGlobals≠CL x:=by
  obtain⟨o,_,_,e,_⟩:=I.mod.glob;exact S e
 have V:s.heap.BuiltinsAt X.mg (CL x):=⟨bm,ob,b1,b2,b3,S b4,I.bk _ _ b4,b5,b6,b7⟩;refine PySem.W.kla_eval P ?_;rw[L.qual];cases hf:codeAmong pos ps.toList with
 | none=>
  refine PySem.W.kla_makeFunction (mR NK) I.ok.glob T U (hd.keeps I.bk) M tr hf G V λg j h' tk D C lP O p=>?_;obtain⟨c₂,oc,vs,t,e2,F,J,hv⟩:=O;cases e2;have i:H g=none:=I.fQ.fresh C;have m:∀{b:Addr},H b=none->b≠CL x:=λ{b} e z=>by rw[z,B]at e;cases e
  have ne':∀{b:Addr} {o:Obj},s.heap.get? b=some o->b≠g:=λ{b o} e=>ll (my (km e) C);have cP:CL x≠g:=ne' M;have un:Un X.fs [] H (upd H g Qcd) s.heap h':=by
   refine⟨λb o e n _ _=>D b o (m n) e,λb o e n _ _=>⟨o.slots,D b o (m n) e⟩,λb o e n _=>by rw[au (ne' e)];exact n,λb o e _=>?_,λb xs e=>by rw[au (aO e i)];exact e,λb o u e=>by rw[au (aO e i)];exact e,λb ps e=>⟨#[],by rw[au (aO e i),e];simp⟩⟩;by_cases z:b=CL x
   .exact⟨_,z▸p⟩
   .exact⟨o,D b o z e⟩
  have fQ:yI X.prog X.w (upd H g Qcd) h':=λb u e=>by
   by_cases z:b=g
   .subst z;rw[aW]at e;cases e;exact⟨oc,vs,t,F,J,hv⟩
   .rw[au z]at e;by_cases h:b=CL x
    .subst h;rw[B]at e;cases e;refine⟨_,p,?_,λpos' N Y=>?_⟩
     .rw[Array.toList_append];exact TriplesOk_snoc _ _ _ _ tr
     .rw[Array.toList_append]at Y;obtain E|E:=RT _ tr Y
      .obtain⟨c3,e3,Z⟩:=cs pos' N E;exact⟨c3,e3,by rw[au (aO Z i)];exact Z⟩
      .exact⟨g,E,aW⟩
    .refine(I.fQ b u e).DF (λd v K r=>D d v ?_ r) (λd r=>by rw[au (aO r i)];exact r) (λd xs r=>by rw[au (aO r i)];exact r) λd z r=>by rw[au (aO r i)];exact r
     rintro rfl;obtain w|w:=K
     .exact h w.symm
     .rw[B]at w;cases w
  have I1:=I.un (t':=tk) un fQ;have f1:(upd H g Qcd) h'.objs.size=none:=fQ.fresh (gZ _);have R:=I1.laid (t':=tk) (a:=h'.objs.size) (o:=.ext Qkz) (h':=h'.push QjY)
   (λb u e=>kx _ e) (gZ _) ⟨⟨_,_,mv _ rfl⟩,⟨_,mv _ rfl⟩,λh1 h2 ⟨pm,ct,e⟩ kk=>⟨pm,ct,kk _ e⟩⟩
  refine k _ g _ _ R (λb o e=>?_) aW ?_ λb o e im=>?_
  .have l:=aO e i;have h:b≠h'.objs.size:=λz=>by
    rw[← z,au l,e]at f1;cases f1
   rw[au h,au l];exact e
  .rw[au (ll lP),aW]
  .by_cases h:b=h'.objs.size
   .subst h;rw[aW]at e;cases e;cases im
   .rw[au h]at e;by_cases l:b=g
    .subst l;rw[aW]at e;cases e;cases im
    .rw[au l]at e;exact e
 | some N=>
  obtain⟨g,rfl,ZD⟩:=cs pos N hf;refine PySem.W.kla_makeFunctionHit (mR NK) I.ok.glob T U (hd.keeps I.bk) M tr hf V λj h' tk hk hsz=>?_;have R:=I.laid (t':=tk) (a:=h'.objs.size) (o:=.ext Qkz) (h':=h'.push QjY)
   (λb u e=>kx _ (hk _ _ e)) hsz ⟨⟨_,_,mv _ rfl⟩,⟨_,mv _ rfl⟩,λh1 h2 ⟨pm,ct,e⟩ kk=>⟨pm,ct,kk _ e⟩⟩
  have f1:H h'.objs.size=none:=I.fQ.fresh hsz;refine k _ g _ _ R (λb o e=>by rw[au (aO e f1)];exact e) aW (by rw[au (aO ZD f1)];exact ZD) λb o e im=>?_;by_cases h:b=h'.objs.size
  .subst h;rw[aW]at e;cases e;cases im
  .rw[au h]at e;exact e
def Dj(X:Cx)(A:Qau)(q:Str)(scope:Scope)(Nc:At)(f c:Addr)(s:Qb)(H:Hp):Cx where
 prog:=X.prog
 w:=X.w
 K:=X.K
 mg:=X.mg
 base:=X.base
 A:=A.deeper (envX q scope s.heap.objs.size f (.ref c) QbD)
 N:=Nc
 j1:=s
 nk:=H
 env:=envX q scope s.heap.objs.size f (.ref c) QbD
 outer:=X.stack
 stack:=envX q scope s.heap.objs.size f (.ref c) QbD::X.stack
 ex:=[]
 fn:=λ_=>false
 calm:=true
 pn:=[]
 xe:=λ_ _=>False
variable{A:Qau}{f c:Addr}
def XZ(sc:QeC)(I:Qbb)(hA:A.frames=some X.stack)(Z:QeM){h':Heap}{tk:Nat}{u:Value}(r:RelV v u)
  (Y:h'.Ns s.heap.objs.size (λy=>([(x,u)]:DO).reverse.lookup y)) (B:∀b o,s.heap.get? b=some o->h'.get? b=some o) :
  L2.Inv Qfj [] (yM σ ix Qay) H {s with heap:=h',toks:=tk}:=by
 have frees:∀y∈scope.names,y.2=.free->∃c,X.env.cells.lookup y.1=some c:=λy F e=>I.ok.has y.1 (sc.frees y F e).2;have sub:∀{y:Str} {c:Addr},(eY X.env scope.names []).lookup y=some c->X.env.cells.lookup y=some c:=λ{y c} e=>tK frees (λ_ _ z=>by cases z) e;have hlen:(yM σ ix Qay).length=Nc.length:=by
  have all:∀l:CO,(∀i∈l,∃y,X.N[i]? = some y/\scope.names.lookup y=some .free)->(l.filterMap (X.N[·]?)).length=l.length:=by
   intro l
   induction l with
   | nil=>intro _;rfl
   | cons i r D=>
    intro h;obtain⟨y,e,_⟩:=h i gj;rw[nH,e];show _+1=_+1;rw[D λj t=>h j (i4 _ t)]
  unfold yM;rw[sc.hd,lr,lr,d8,all ix sc.sr]
 have nil:∀b:Addr,b∉(Dj X A q scope Nc f c s H).ex:=λb z=>absurd (show b∈([]:BN) from z) WA;refine⟨⟨I.ok.mod,sc.kind,rfl,rfl,gZ _,λy z c h1 h2=>I.ok.inj y z c (sub h1) (sub h2),λy F=>?_,λy c hf _=>(by cases (show false=true from hf)),λ_=>Z,Around.frames_deeper hA,.inr ⟨rfl,rfl⟩,λb K=>absurd K (nil b),I.bs,kv I.ok.ZU I.sz,λb o _=>nil b,λb K=>absurd K (nil b),I.stack,I.Ks⟩,
  rfl,I.bare,Un.kept B,⟨_,Y,λi y w h1 h2 h3=>?_⟩,λy c e=>?_,I.fQ.fresh (gZ _),λy c e=>I.rV y c (sub e),λp V=>absurd (show p∈([]:BM) from V) WA,I.fQ.kept B,hlen⟩
 .have E:scope.names.lookup y=some .cell\/scope.names.lookup y=some .free:=F;obtain z|z:=E
  .exact absurd rfl (sc.BV _ (rl z))
  .exact pM z
 .unfold yM at h2;cases i with
  | zero=>
   have d:some Qay=some (some w):=h2;cases d;have e:y=x:=by
    have g:Nc[0]? = some y:=h1;rw[sc.hd]at g;exact(l7 g).symm
   subst e;refine⟨u,r,.inl ⟨sc.own,?_⟩⟩;simp
  | succ i=>
   rw[List.getElem?_cons_succ,k4]at h2;cases C:ix[i]? with
   | none=>rw[C]at h2;cases h2
   | some j=>
    rw[C]at h2;have d:(σ[j]?).getD none=some w:=l7 h2;have t:σ[j]? = some (some w):=by
     cases q:σ[j]? with
     | none=>rw[q]at d;cases d
     | some o=>rw[q]at d;exact congrArg some d
    obtain⟨m,n,k⟩:=sc.sr j (l6 C);have L:Nc[i+1]? = some m:=by
     have all:∀(l:CO) (i:Nat),(∀j∈l,∃y,X.N[j]? = some y/\scope.names.lookup y=some .free)->l[i]? = some j->(l.filterMap (X.N[·]?))[i]? = some m:=by
      intro l
      induction l with
      | nil=>intro i _ h;simp at h
      | cons a r D=>
       intro i h hi;obtain⟨ya,M,_⟩:=h a gj;rw[nH,M];cases i with
       | zero=>
        simp at hi;subst hi;rw[n]at M;cases M;rfl
       | succ i=>exact D i (λj t=>h j (List.mem_cons_of_mem _ t)) (by simpa using hi)
     rw[sc.hd,List.getElem?_cons_succ];exact all ix i sc.sr C
    have ey:m=y:=by
     have g:Nc[i+1]? = some y:=h1;rw[L]at g;exact l7 g
    subst ey;have S:=(sc.frees (m,.free) (rl k) rfl).2;have O:uK X.env.scope m:=S.elim (λz=>.inr QbN) (λz=>.inr (.inr z));obtain⟨m0,W,J⟩:=I.loc;obtain⟨u',U,lk⟩:=J j m w n t O;refine⟨u',U,?_⟩;obtain⟨kk,_⟩|⟨_,c',hc,T⟩:=lk
    .obtain z|z:=S
     .rw[kk]at z;cases z
     .rw[kk]at z;cases z
    .obtain⟨P,R⟩:=pM (env:=X.env) (cs:=[]) k;have:P=c':=by
      have:=sub R;rw[hc]at this;exact(l7 this).symm
     subst this;obtain⟨o,G,hd⟩:=T;exact .inr ⟨.inr k,P,R,o,B _ _ G,hd⟩
 .obtain⟨v,o,G,hd⟩:=I.cell y c (sub e);exact⟨v,o,B _ _ G,hd⟩
def abv{u:Value}{Q:VK}(sc:QeC)(I:Qbb)(G:A.frames=some X.stack)(E:QeM)(k:A.depth<recursionLimit)
  (hf:H f=some Qig) (F:H c=some Qcd) (r:RelV v u)
  (L:∀cl pm cd ct u,bindArgs Qke ⟨[u],[]⟩=pure [(x,u)]) (j:scope.isCoroutine=false) (l:scope.isGenerator=false)
  (h:HL Qfj body (yM σ ix Qay) H Q):wpAny Qu A QhK Qa5 QbH s:=by
 obtain⟨⟨pm,K,C⟩,_⟩:=I.fQ _ _ hf;obtain⟨oc,vs,t,e1,e2,e3⟩:=I.fQ _ _ F;refine wpAny_call (PySem.W.kla_callFunE k C rfl j l rfl ⟨c,oc,vs,t,rfl,e1,e2,e3⟩ ?_);rw[L];refine kX (wpAny_newFunctionEnv sc.BV (λy p=>?_) (λa i g=>?_) sc.kind)
 .rw[kf.1 p];exact sc.own
 .have m:∀b o,s.heap.get? b=some o->a.get? b=some o:=λb o e=>(g.2 b Qf4).trans (kx _ e);refine⟨I.nolimit.keeps m,?_⟩;have J:=XZ (q:=q) (f:=f) (c:=c) (tk:=s.toks+([(x,u)]).length) sc I G E r i m;refine PySem.W.kla_codeExpr (nq (h [] _ J) (λw s' D=>?_) λe s' z=>False.elim z);obtain⟨v',H',d,n,B⟩:=D;exact I.after ⟨v',H',d.os,d.bare,d.base,d.fQ,n,B⟩
theorem X3(I:Qbb)(fp:QfZ)(new:g6 X.prog X.w QbJ s.heap a o):L2.Inv X pins σ (upd H a o) s:=by
 have d:=fp.1;refine I.step (ch:=[a]) (λb g=>?_) (λb o _ _ _ e _=>e) (λb o _ _ _ e _=>⟨ _,e⟩) (λb o f _ n=>by rw[au λz=>f (by simp[z])];exact n)
  (λb o _ e=>⟨o,e⟩) (λb xs e=>au (aO e d)▸e) (λb o u e=>au (aO e d)▸e) (λb ps e=>⟨#[],by rw[au (aO e d),e];simp⟩) (λm hm=>hm) (λb u e=>?_) I.bare
 .have e:=by simpa using g
  subst e;exact⟨fp.2.2.2.1,fp.2.1,fp.2.2.2.2.1,fp.2.2.2.2.2⟩
 .by_cases z:b=a
  .subst z;rw[aW]at e;grind
  .rw[au z]at e;exact(I.fQ b u e).DF (λ_ _ _ q=>q) (λc q=>au (aO q d)▸q) (λc xs q=>au (aO q d)▸q) λc z q=>au (aO q d)▸q
def yk(kz:AT)(xs:BY):BY:=(eS Prod.fst (kz.zip xs)).map Prod.snd
section
variable{Fq:α->β->Prop}{g1:α->Int}{g2:β->Int}
theorem OG(d:∀p q,Fq p q->g1 p=g2 q){x:α}{y:β}(c:Fq x y){b:QR}{a:List β}(h:Paired Fq b a):Paired Fq (Ao g1 x b) (Ao g2 y a):=by
 induction h with
 | nil=>exact .cons c .nil
 | @cons p q b a r t i=>
  rw[Ao,Ao,d x y c,d p q r];split
  .exact .cons c (.cons r t)
  .exact .cons r i
theorem Aq(c:∀p q,Fq p q->g1 p=g2 q){b:QR}{a:List β}(h:Paired Fq b a):Paired Fq (eS g1 b) (eS g2 a):=by
 induction h with
 | nil=>exact .nil
 | cons r _ i=>exact OG c r i
end
theorem E8:∀{ks us:B1} {kz:AT} {xs:BY},IntsAre ks kz->Vals xs us->Paired (λ(p:Int×V) (q:Value×Value)=>p.1=numOf q.1/\RelV p.2 q.2) (kz.zip xs) (ks.zip us)
 | _,_,_,_,.nil,_=>.nil
 | _,_,_,_,.cons n t h,.nil=>.nil
 | _,_,_,_,.cons n t h,.cons r a=>.cons ⟨rfl,r⟩ (E8 h a)
theorem abw{ps:List (Int×V)}{a:List (Value×Value)}(h:Paired (λ(p:Int×V) (q:Value×Value)=>p.1=numOf q.1/\RelV p.2 q.2) ps a):Vals (ps.map Prod.snd) (a.map Prod.snd):=by
 induction h with
 | nil=>exact .nil
 | cons r _ i=>exact .cons r.2 i
theorem OI{keys:CS}{us:B1}{xs:BY}{kz:AT}(a:IntsAre keys.toList kz)(r:Qdn){arr:ET}{κ:Da}
  (t:Tag Qey arr κ (keys.zip us.toArray).size) (o:vt arr κ (keys.zip us.toArray).size) (hz:arr.size=(keys.zip us.toArray).size):Vals Qe3 (arr.map (·.2)).toList:=by
 have g:=ksk_zip keys us;have d:(keys.toList.zip us).length=(keys.zip us.toArray).size:=by simp
 have e:arr.toList=eS (λp=>numOf p.1) (keys.toList.zip us):=by
  refine abt (κ:=κ) WE (λk a=>?_) (λk a=>?_) λi j x y l c b=>?_
  .rw[d]at a;rw[Kt,t.pl k a,← g,Kt]
  .rw[d]at a ⊢;exact t.lo k a
  .rw[Kt]at c b;have f:=(Array.getElem?_eq_some_iff.1 b).1;have q:=o i j l (hz▸f);unfold PyProof.Rows.K at q;rw[c,b]at q;exact q
 rw[Array.toList_map,e];exact abw (Aq (λp q h=>h.1) (E8 a r))
section
variable{kS l:Addr}{us:B1}{xs:BY}{kz:AT}{J:Hp->Prop}{e1:Nat}{P:PySem.Fin->Shared->Prop}
def D7(I:Qbb)(fp:oE X pins H it)(g:Obj->Obj):L2.Inv X pins σ H {s with heap:=s.heap.update it g}:=by
 have s1:=Heap.SameBut.update s.heap it g;exact I.turned (λb o n q=>(s1.2 b n).trans q) fp.1 fp.2.1 fp.2.2.2.1 fp.2.2.2.2.1 fp.2.2.2.2.2
theorem VG{st:SortSt}{keys:CS}{e:Nat}(I:Qbb)(k:oE X pins H kS)(l:QfZ)(d:kS≠a)(ok:s.heap.get? kS=some (seqObj "list" keys e))(i:s.heap.get? a=some (seqObj "list" #[] e1))
  (j:keys.size<64) (hsz:(arrOf st).size<64) (f:failedOf st=none)
  (h:∀s' c,L2.Inv X pins σ H s'->s'.heap.get? a=some (seqObj "list" ((arrOf st).map (·.2)) c)->P Qhl s') :
  wpAny Qu A (ksk_tail a false e1 (.ref kS) st) P E s:=by
 have s1:=Heap.SameBut.update s.heap kS (Obj.mapSeq λ_=>(#[]:CS));have o:=D7 I k (Obj.mapSeq λ_=>(#[]:CS));have b:(s.heap.update kS (Obj.mapSeq λ_=>(#[]:CS))).get? a=some (seqObj "list" #[] e1):=(s1.2 a d.symm).trans i;have n:=D7 o l (Obj.mapSeq λ_=>(arrOf st).map (·.2));obtain⟨g,m⟩:∃g,((s.heap.update kS (Obj.mapSeq λ_=>(#[]:CS))).update a (Obj.mapSeq λ_=>(arrOf st).map (·.2))).get? a=some (seqObj "list" ((arrOf st).map (·.2)) g):=
  ⟨_,get?_update_seq b λ_=>(arrOf st).map (·.2)⟩
 unfold ksk_tail
 try dsimp only
 refine i8 (listUpdate_at ok rfl ?_ (by rw[mx];lia) (kn _));refine i8 (wpAny_letGo ?_);refine i8 (seqEpoch_at b rfl ?_);refine i8 (listUpdate_at b rfl ?_ (kn _) (by simp only[n6,n4,Array.size_map];rw[mx];lia));rw[f];simp only[bne_self_eq_false,n6,n4];exact kX (h _ g n m)
theorem alV{keys:CS}{e:Nat}(I:Qbb)(m:oE X pins H kS)(p:QfZ)(f:kS≠a)(ok:s.heap.get? kS=some (seqObj "list" keys e))(l:s.heap.get? a=some (seqObj "list" #[] e1))
  (g:IntsAre keys.toList kz) (hlen:kz.length=us.length) (v:us.length<64) (r:Qdn)
  (h:∀s' out c,L2.Inv X pins σ H s'->s'.heap.get? a=some Qjg->Vals Qe3 out.toList->P Qhl s') :
  wpAny Qu A (ksk_end a false us.toArray e1 (.ref kS) keys) P E s:=by
 have hsz:keys.size=us.length:=by
  have h1:=g.length;rw[Array.length_toList]at h1;lia
 have d:(keys.zip us.toArray).size=us.length:=by rw[Array.size_zip,hsz,oD,Nat.min_self]
 have t0:∀n,Tag Qey Qey id n:=λn=>⟨λ_ _=>rfl,λ_ q=>q,λ_ _=>rfl⟩;unfold ksk_end
 try dsimp only
 simp only[n6,n4];by_cases h2:us.toArray.size<2
 .rw[di h2,di h2];refine i8 (kX ?_);rw[StateT.run_pure];refine i8 (kX ?_)
  try dsimp only
  rw[oD]at h2;refine VG (st:=SortSt.mk' general' Qey #[] 7 none) I m p f ok l We (by show(keys.zip us.toArray).size<64;lia) rfl λs' c k o'=>h s' _ c k o' ?_;exact OI g r (arr:=keys.zip us.toArray) (κ:=id) (t0 _) (λi j y x=>by lia) rfl
 .rw[cq h2,cq h2];rw[oD]at h2;rw[ksk_kind g (by rw[hsz];lia)];refine i8 (kX ?_);refine i8 (nq (XT (a₀:=keys.zip us.toArray) (st:=SortSt.mk' oneType' Qey #[] 7 none)
   (Q:=λ_ b=>failedOf b=none/\∃κ,Tag Qey (arrOf b) κ (keys.zip us.toArray).size/\vt (arrOf b) κ (keys.zip us.toArray).size/\(arrOf b).size=(keys.zip us.toArray).size)
   (ksk_intKeys g) ⟨Array.Perm.refl _,rfl,rfl,rfl⟩ (t0 _) (by rw[d];lia) (by rw[d];exact v) λz κ a1 a2 a3 a4=>⟨a1,κ,a2,a3,a4⟩) ?_ λ_ _ e=>e)
  rintro⟨⟨⟩,b⟩ s' ⟨rfl,hf,κ,t,o,hz⟩
  try dsimp only
  have u:(arrOf b).size=(keys.zip us.toArray).size:=hz;exact VG I m p f ok l We We hf λs' c k o'=>h s' _ c k o' (OI g r t o hz)
def z3{b:Addr}(fp:oE X pins H b)(h:H' b=none):oE X pins H' b:=⟨h,fp.2⟩
theorem agi(I:Qbb)(C:oE X pins H kS)(L:QfZ)(t:kS≠a)(ok:s.heap.get? kS=some (seqObj "list" #[] 0))(U:s.heap.get? a=some (seqObj "list" #[] e1))(Z:J H)
  (hlen:kz.length=us.length) (RD:us.length<64) (r:Qdn)
  (turn:∀(i:Nat) (x:V) (k:Int),xs[i]? = some x->kz[i]? = some k->∀(R:BM) (s':Qb) (u:Value) (H':Hp),L2.Inv X R σ H' s'->J H'->RelV x u →
   wpAny Qu A QhK (EP X R σ λv O=>v=.int k/\J O) QbH s')
  (h:∀s' H' out c,L2.Inv X pins σ H' s'->J H'->H' a=none->s'.heap.get? a=some Qjg->Vals Qe3 out.toList->P Qhl s') :
  wpAny Qu A (ksk_rest a Q3 false us.toArray e1 (.ref kS)) P E s:=by
 unfold ksk_rest;refine i8 (wpAny_rule ?_)
 first
  | rw[List.forIn_toArray]
  | (rw[← Array.forIn_toList];simp only[List.toList_toArray])
  | rw[← Array.forIn_toList]
 refine i8 (ksk_fold (λi s'=>∃H' g e,L2.Inv X pins σ H' s'/\J H'/\H' kS=none/\H' a=none/\s'.heap.get? kS=some (seqObj "list" g e)/\s'.heap.get? a=some (seqObj "list" #[] e1)/\IntsAre g.toList (kz.take i)) us 0 s
  ⟨H,#[],0,I,Z,C.1,L.1,ok,U,by simpa using IntsAre.nil⟩ ?step ?done)
 case step=>
  rintro j u s' S ⟨H',g,e,N,G,F,na,d,l,n⟩;simp only[vy]at n ⊢;have hj:j<us.length:=(kO.1 S).1;obtain⟨k,q⟩:∃k,kz[j]? = some k:=⟨_,ma We⟩;obtain⟨x,p⟩:∃x,xs[j]? = some x:=⟨_,ma (by rw[r.length];exact hj)⟩;have T:RelV x u:=by
   obtain⟨u',e1,e2⟩:=r.get p;rw[S]at e1;cases e1;exact e2
  have hz:g.size<=us.length:=by
   have h1:=n.length;rw[Array.length_toList,nr]at h1;lia
  have Ip:=N.pinned (fp:=[kS,a]) (λb m=>by
   obtain rfl|m:=fV.1 m
   .exact z3 C F
   .rw[kf.1 m];exact z3 L na) (λb m=>by
   obtain rfl|m:=fV.1 m
   .exact⟨_,d,λv z=>by cases z⟩
   .rw[kf.1 m];exact⟨_,l,λv z=>by cases z⟩)
  refine i8 (wpAny_attempt (nq (turn j x k p q _ _ u H' Ip G T) (λv o he=>?_) λ_ _ hF=>hF.elim));obtain⟨w,H2,y,D,rfl,Y⟩:=he;obtain⟨t2,rfl⟩:=D
  try dsimp only
  have B:=y.pin (kS,seqObj "list" g e) (i5 _ (i5 _ (lQ WA d)));have pa:=y.pin (a,seqObj "list" #[] e1) (i5 _ (i5 _ (lQ WA l)));have I3:=D7 y.u5 (z3 C B.2.1) (Obj.mapSeq (·.push Qe1));have s1:=Heap.SameBut.update o.heap kS (Obj.mapSeq (·.push Qe1));obtain⟨M,Oh⟩:∃M,(o.heap.update kS (Obj.mapSeq (·.push Qe1))).get? kS=some (seqObj "list" (g.push Qe1) M):=⟨_,get?_update_seq B.1 (·.push Qe1)⟩;have ek:kz.take QA=kz.take j++[k]:=by rw[rh,q];simp
  have ea:(g.push (Value.int k t2)).toList=g.toList++[Value.int k t2]:=by simp
  refine i8 (listUpdate_at B.1 rfl ?_ (by rw[mx];lia) (kv (Nat.le_of_eq (Array.size_push ..)) (by rw[mx];lia)));exact kX ⟨rfl,H2,g.push Qe1,M,I3,Y,B.2.1,pa.2.1,Oh,(s1.2 a t.symm).trans pa.1,by rw[ea,ek];exact ksk_snoc n⟩
 case done=>
  rintro s' ⟨H',g,e,N,G,F,na,d,l,n⟩;have K:IntsAre g.toList kz:=by
   have e3:kz.take (0+us.length)=kz:=List.take_of_length_le We;rw[e3]at n;exact n
  try dsimp only
  refine i8 (listItems_at d rfl ?_);exact alV N (z3 C F) (z3 L na) t d l K hlen RD r λs2 out c y W v2=>h s2 H' out c y G na W v2
theorem agj(I:Qbb)(p:QfZ)(g:s.heap.get? a=some (seqObj "list" us.toArray n))(q:J H)
  (hlen:kz.length=us.length) (y:us.length<64) (r:Qdn)
  (turn:∀(i:Nat) (x:V) (k:Int),xs[i]? = some x->kz[i]? = some k->∀(m:BM) (s':Qb) (u:Value) (H':Hp),L2.Inv X m σ H' s'->J H'->RelV x u →
   wpAny Qu A QhK (EP X m σ λv l=>v=.int k/\J l) QbH s')
  (h:∀s' H' out c,L2.Inv X pins σ H' s'->J H'->H' a=none->s'.heap.get? a=some Qjg->Vals Qe3 out.toList->P Qhl s') :
  wpAny Qu A (ksk_tree a Q3 false) P E s:=by
 have t:=km g;obtain⟨e1,d⟩:∃e1,(s.heap.update a _).get? a=some (seqObj "list" #[] e1):=⟨_,get?_update_seq g λ_=>#[]⟩;have B:=D7 I p (Obj.mapSeq λ_=>(#[]:CS));have j:((s.heap.update a (Obj.mapSeq λ_=>(#[]:CS))).push (seqObj "tuple" us.toArray 0)).objs.size=s.heap.objs.size+1:=by simp
 have z:L2.Inv X pins σ H {s with heap:=((s.heap.update a _).push (seqObj "tuple" us.toArray 0)).push (seqObj "list" #[] 0)}:=
  B.kept (t':=s.toks) λb o e=>kx _ (kx _ e)
 unfold ksk_tree;refine i8 (listItems_at g rfl ?_);refine i8 (listUpdate_at g rfl ?_ (by rw[oD,mx];lia) (kn _));refine i8 (seqEpoch_at d rfl ?_);refine i8 (wpAny_newTuple ?_ (by show us.length<=_;rw[mx];lia));refine i8 (wpAny_newList ?_ (kn _));refine x5 ?_;refine agi
  z (I.HG WA (I.fQ.fresh WA)) p (by rw[j];exact Nat.ne_of_gt (Nat.lt_succ_of_lt t)) (mv _ rfl) (kx _ (kx _ d)) q hlen y r turn h
theorem X4{Q:VK}(I:Qbb)(z:nS X.K H l xs)(hlen:kz.length=xs.length)(L:xs.length<64)(y:J H)
  (turn:∀(i:Nat) (x:V) (k:Int),xs[i]? = some x->kz[i]? = some k->∀(n:BM) (s':Qb) (u:Value) (H':Hp),L2.Inv X n σ H' s'->J H'->RelV x u →
   wpAny Qu X.A.in1.in1 QhK (EP X n σ λv j=>v=.int k/\J j) QbH s')
  (h:∀D H',J H'->H' D=none->Q Qeg (upd H' D (.lst Qe3))) :
  wpAny Qu X.A (call Qhp [.ref l] [(Str.ofString "key",.ref f)]) Qa5 E s:=by
 obtain⟨us,r,pl,hz⟩:=I.list z;have G:=r.length;have B:s.heap.IsList l us.toArray:=pl.isList;refine call_function_entry_kw kind_sorted plain_sorted entry_sorted (ksk_s1 _ _) ?_;unfold Builtin.«sorted»;refine i8 (m:=checkCount "sorted" 1 1 _) (kX ?_);refine i8 (collect_list B ?_ (by rw[mx];lia));refine i8 (wpAny_newList ?_ (by rw[mx];lia));have hsz:((s.heap.push (seqObj "list" #[] 0)).update s.heap.objs.size (Obj.mapSeq (· ++ us.toArray))).objs.size=s.heap.objs.size+1:=by
  rw[Heap.size_update,size_push']
 have a:(((s.heap.push (seqObj "list" #[] 0)).update s.heap.objs.size (Obj.mapSeq (· ++ us.toArray))).push Qfi).get? Qba=some Qfi:=by
  rw[← hsz];exact mv _ rfl
 have keep:∀b o,s.heap.get? b=some o->(((s.heap.push (seqObj "list" #[] 0)).update s.heap.objs.size (Obj.mapSeq (· ++ us.toArray))).push Qfi).get? b=some o:=λb o q=>by
  have d:b<s.heap.objs.size:=km q;rw[Heap.get?_push_ne _ _ _ (by rw[hsz];exact ll (Nat.lt_succ_of_lt d)),Heap.get?_update_ne _ _ _ _ (ll d),Heap.get?_push_ne _ _ _ (ll d)];exact q
 show wpAny _ _ _ _ _ {s with heap:=((s.heap.push (seqObj "list" #[] 0)).update s.heap.objs.size (Obj.mapSeq (· ++ us.toArray))).push Qfi};rw[hsz];have C:L2.Inv X pins σ H {s with heap:=((s.heap.push (seqObj "list" #[] 0)).update s.heap.objs.size (Obj.mapSeq (· ++ us.toArray))).push Qfi}:=I.kept (t':=s.toks) keep;have p:∀{H':Hp},H' Qba=none->oE X pins H' Qba:=λ{H'} e=>I.HG (mI _) e;refine i8 (x5 (wpAny_call_entry_kw slot_list_sort ⟨_,a,rfl⟩ entry_list_sort ?body (ksk_l1 _ _)))
 case body=>
  have g:=ksk_t1 f Qba;show wpAny Qu X.A.in1.in1 (Builtin.«list.sort» ⟨[.ref Qba],[(Str.ofString "key",.ref f)]⟩) _ _ _;rw[g];refine agj C (p Qjt) a y We We r turn λs' H' out c F t na o' v'=>⟨_,rfl,?_⟩;refine kX ⟨_,rfl,.ref Qba,_,X3 F (p na) (o:=.lst Qe3) ⟨?_,out.toList,c,v',?_⟩,rfl,h _ H' t na⟩
  .have:(yk kz xs).length=xs.length:=by
    unfold yk;rw[d8,xh,List.length_zip,hlen,Nat.min_self]
   rw[this];exact hz
  .simpa using o'
end
variable{g:D->Int}
def X5{ds:BA}(h:QfP):Paired (λ(d:D) (p:Int×V)=>g d=p.1/\bV K CL Z d p.2) ds ((ds.map g).zip us):=
 ay.ind (P:=λds us=>Paired _ ds ((ds.map g).zip us)) .nil (λr _ i=>.cons ⟨rfl,r⟩ i) h
theorem X6{ds:BA}{ps:List (Int×V)}(h:Paired (λ(d:D) (p:Int×V)=>g d=p.1/\bV K CL Z d p.2) ds ps):ay K CL Z ds (ps.map Prod.snd):=by
 induction h with
 | nil=>exact .nil
 | cons r _ i=>exact .cons r.2 i
noncomputable def X7{ds:BA}(r:QfP):ay K CL Z (eS g ds) (yk (ds.map g) us):=X6 (Aq (λp q h=>h.1) (X5 r))
def ap8(X:Cx)(CL:BC)(q:Str)(scope:Scope)(Nc:At)(body:Expr)(δc:BB)(ds:BA)(g:D->Int):Prop:=
 ∀f c s0 b a d,d∈ds->dR (Dj X X.A.in1.in1 q scope Nc f c s0 b) CL a body QfA (.int (g d)) QfA
variable{g:L3.D->Int}{y tx:Str}{lp:Pos}
theorem yS(L:XY X CL tx q)(g0:Gx X)(dp:X.A.depth<recursionLimit)(hm:QhE)(hg:Gl X "sorted")(sc:QdN)(h:Qck)(hi:QbR)(hl:ds.length<64)
  (inner:ap8 X CL q scope Nc body (EV δ1 ix) ds g) (P:defaultsOf params X.env=([],[]):=by rfl)
  (OD:∀cl pm cd ct u,bindArgs Qke ⟨[u],[]⟩=pure [(y,u)]:=by intros;rfl) (G:scope.isCoroutine=false:=by rfl) (O:scope.isGenerator=false:=by rfl)
  (hs:Qad:=by exact bq rfl) :
  cL X CL b (.Call Qjy [e] [⟨some "key",.Lambda params body scope lp,p2⟩] pos) δ (.lst ((eS g ds).map T.sh)) δ1:=by
 intro H Z σ ts vs Q S k pins s I;have m:PA X [e] (Ve (HL X e) Xg):=bZ dQ dW hs;have hk:PK X [⟨some "key",.Lambda params body scope lp,p2⟩] (Ve (HL X (.Lambda params body scope lp)) Xg):=Vg dQ aaq;refine tJ (qT I hg hm tP ?_);refine callWith_kw (fY (m pos pins s σ H (λE H1=>∃v Z1,E=[v]/\aB Z Z1/\aB H H1/\bH X.K CL b H1 Z1 δ1 σ ts vs/\bV X.K CL H1 Qdq v) I (h H Z σ ts vs _ S λv H1 Z1 C k1 l r=>⟨v,Z1,rfl,C,k1,l,r⟩)) λus s1 zz=>?_) (by rw[hs];rfl) (by rw[hs];rfl) rfl rfl;obtain⟨Y,H1,I1,r1,v1,Z1,e1,C,k1,l,rep1⟩:=zz;subst e1;have N:H1 (CL tx)=some (.tabs q):=by
  have:=l.N6 tx L.tab.1 L.tab.2.1;rw[L.tab.2.2]at this;exact this
 refine fY (hk pos pins s1 σ H1 (λzs H2=>∃f c,zs=[.ref f]/\aB H1 H2/\H2 f=some Qig/\H2 c=some Qcd) I1
  (λpK s' V=>alR L V N (λy hy e=>V.ok.has y.1 (sc.frees y hy e).2) P λf c H2 s2 U k2 hf M _=>⟨.ref f,H2,U,rfl,f,c,rfl,k2,hf,M⟩)) λws s2 zz=>?_
 obtain⟨zs,H2,U,rz,f,c,e2,k2,hf,M⟩:=zz;subst e2;obtain⟨u,rfl,ru⟩:=rz.one;cases ru;obtain⟨v,rfl,rv⟩:=r1.one;obtain⟨p,aa,rfl,hq,F⟩:=rep1.gV;cases rv;show wpAny _ _ (call Qhp [.ref p] [(Str.ofString "key",.ref f)]) _ _ s2;have hlen:=F.length;refine X4 (J:=λj=>∃Z3,aB H2 j/\aB H2 Z3/\aB Z3 j/\∀a o,j a=some o->kQ o=true->Z3 a=some o) (kz:=ds.map g) U (k2.seq hq) (by rw[d8,hlen]) We
  ⟨H2,.refl _,.refl _,.refl _,λ_ _ q _=>q⟩ (λi x kk hx w pK s' u j R zz rx=>?_) λD j zz hD=>?_
 .obtain⟨Z3,a1,a2,a3,a4⟩:=zz;obtain⟨d,hd,rd⟩:=F.Xn hx;have ek:kk=g d:=by
   rw[k4,hd]at w;exact(l7 w).symm
  subst ek;refine abv sc R R.ok.frames (R.ok.hd g0.calm) dp (a1 _ _ hf) (a1 _ _ M) rx OD G O ?_;have S0:bH X.K CL ⟨j,Z3⟩ j Z3 (some (.sh d)::EV δ1 ix) (yM σ ix (some x)) [] []:=
   ⟨⟨[]++[],[],.cons (.sh (rd.mono Qh1)) ((Ae l ix j).mono Qh1 λa m=>by cases m),.nil,uj,λa m=>by cases m⟩,.refl _,.refl _,a3,λa o q z=>(by have n:Z3 a=none:=z;rw[show Z3 a=some o from q]at n;cases n),a4,l.N6.mono Qh1⟩
  refine inner f c s' j ⟨j,Z3⟩ d (l6 hd) j Z3 _ [] [] _ S0 λv H5 Z5 W k5 B r5=>⟨?_,Z5,a1.trans k5,a2.trans W,B.zh,B.tp⟩;cases r5;rfl
 .obtain⟨Z3,a1,a2,a3,a4⟩:=zz;obtain⟨Z',n,S4⟩:=l.back (t:=.sh Qeh) (v:=.int 0) (fp:=[]) (k2.trans a1) l.zh Qh1 a3 (λa o q z=>z) a4 (.sh Qeh) uj (λa m=>by cases m) QaH;obtain⟨c5,B⟩:=(bH.oA (X7 (g:=g) ((ay.tG l.tp hi F).mono n)) S4.pop).j8 (g0:=[]) (by simp[yk,xh,hlen]) hD;exact k _ _ _ (C.trans n) ((k1.trans (k2.trans a1)).trans c5) B
def RV(h1:Nc[i]? = some x)(h2:QgL)(hd:AD x:=by decide)(kN:AE x:=by decide):Vn Qfj i x:=⟨h1,.inl h2,hd,kN⟩
def K6(h1:Nc[i]? = some x)(h2:QiJ)(hd:AD x:=by decide)(kN:AE x:=by decide):Vn Qfj i x:=⟨h1,.inr (.inr h2),hd,kN⟩
def RW(h2:Qij):Gl Qfj x:=h2
theorem alW{B:Type}{arg:B->BA}{Pre:B->Prop}{res:B->T}(F:Qfm)(r:Qf7):Fc (Dj X X.A.in1.in1 q scope Nc f c s H) CL x k n arg Pre res:=
 ⟨F.ex,⟨r.hd,by have:=r.dp;show X.A.depth+1+3*k+5<_;lia,by have:=r.un;show X.A.units+1+1+3+16*k+200<_;lia⟩⟩
def agk{w:World}{sp:Sp}(F:QdG)(S:Qb2)(len:∀vs H Q E,sp vs H Q E->vs.length=ps.length)
  (c:∀(gR:Value) (A:Qau) (outer:D1) (s:Qb) (H:Hp) (vs:BY) (Q:VK) (E:XK),fd.code=gR->eG k (A.deeper QcQ)->sp vs H Q E →
   ∃t,QS (rY lR P w K mg base N qual QaJ f gR A outer s H E).Kv Qbk t/\t {nx:=λ_ H'=>Q .non H',rt:=Q} (L2.start N vs) H):fj P w K mg base lR Qaj f fd ps sp:=by
 obtain⟨oc,od,kV,doc,pm,an,gR,ct,Q8,rfl,lk,kN⟩:=F.ex;refine SO lk kN S len λA outer s H vs Q E a b=>?_;obtain⟨t,h,q⟩:=c gR A _ s H vs Q E rfl a b;exact⟨t,h.Kv,q⟩
theorem E9{w:World}{A:Type}{arg:Qak}{Pre:Q1}{res:Qaa}(F:QdG)(S:Qb2)
  (u:∀(gR:Value) (g:Qau) (outer:D1) (s:Qb) (H:Hp) (E:XK) (b:Bx) (a:A),fd.code=gR->eG k (g.deeper QcQ)->Pre a →
   fh (rY lR P w K mg base N qual QaJ f gR g outer s H E).Kv CL b Qbk Qf6 {nx:=λ_=>res a=.sh .non,rt:=λt _=>t=res a}) :
  fj P w K mg base lR Qaj f fd ps QgJ:=by
 refine agk F S (λvs H Q E h=>?_) (λgR g outer s H vs Q E kN n h=>?_)
 .obtain⟨W,a,_,_,r,i,_⟩:=h;rw[← r.length];exact i
 .obtain⟨W,a,j,tp,r,i,p,tb,kk⟩:=h;refine⟨_,ZG,u gR g _ s H E ⟨H,W⟩ a kN n p H W _ [] [] _ ⟨⟨[],[],?_,.nil,uj,λa d=>by cases d⟩,.refl _,.refl _,j,λa o q z=>?_,tp,tb⟩ ⟨λδ' σ' H' Z' s' c e=>?_,λt v H' Z' δ' σ' s' c e=>?_,λ_ _ _ _ _ _ e=>e.elim,λ_ _ _ _ _ _ e=>e.elim⟩⟩
  .unfold entry L2.start;rw[← r.length];exact lS _ r
  .grind
  .exact kk .non H' Z' [] c.bh c.zz c.zh c.new c.tp (by rw[e];exact .sh .non) uj λa d=>by cases d
  .have y:=e;subst y;obtain⟨fp,gp,_,m,nd,own⟩:=c.rep;cases m with
   | @cons _ _ _ _ f1 f2 l B=>
    have h1:=(lj.1 nd).2.1;exact kk v H' Z' f1 c.bh c.zz c.zh c.new c.tp l (lj.1 h1).1 λa d=>own a (i5 _ (ka _ d))
def Fb(mg:Bi)(base:Heap):Prop:=∃bm o,mg "__builtins__" = some (.ref bm)/\bm≠builtinsNs/\bm≠mainGlobals/\base.get? bm=some o/\o.cls=.type "module" /\ o.dict=some builtinsNs/\o.data=.plain
def Mc{CX:ZE}{w:World}{gR:Value}{outer:D1}{E:XK}
  (bl:Fb mg base) (a:K.In base) (g:fd.code=gR) (hf:fd.code=.ref c) (hd:codeHdIn K c (CL tx)=true) (h0:CL tx≠0) (d:KG tx=q:=by decide +kernel) (b:JF tx=true:=by decide +kernel) (e:qual++".<locals>." ++ "<lambda>" = q:=by decide +kernel) :
  XY (rY CX P w K mg base N qual scope f gR A outer s H E).Kv CL tx q:=
 ⟨⟨c,g.symm.trans hf,Kk a hd⟩,bl,e,b,h0,d⟩
abbrev _root_.Cs:=List (Addr×Str)
def spT(K:Frag)(ts:Cs){A:Type}(n:Nat)(arg:Qak)(Pre:Q1)(res:Qaa):Sp:=λvs H Q _=>
 ∃(W:Hp) (a:A),aB W H/\(∀c o,H c=some o->kQ o=true->W c=some o)/\ay K (λ_=>0) W QbM vs/\(arg a).length=n/\Pre a/\(∀p∈ts,W p.1=some Qcz) ∧
  ∀v H' W' fp,aB H H'->aB W W'->aB W' H'->(∀c o,W' c=some o->W c=none->H c=none)->(∀c o,H' c=some o->kQ o=true->W' c=some o) →
   bL K (λ_=>0) H' W' Qce v fp->fp.Nodup->(∀c∈fp,W' c=none/\H c=none)->Q v H'
def agl{ts:Cs}{arg:AT->BA}{pre:AT->Prop}{res:AT->T}(j:∀a,arg a=[.lst (a.map .int)])(h:∀a,res a=.sh Qdl)(h0:∀x,JF x=true->CL x≠0->(CL x,KG x)∈ts) :
  ∀(vs:BY) (H:Hp) (Q:VK) (E:XK),spT K ts 1 arg pre res vs H Q E->N7 K CL 1 arg pre res vs H Q E:=by
 rintro vs H Q E ⟨W,a,h1,h2,c,o,n,m,k⟩;have b:∀{l:AT} {us:BY},ay K (λ_=>0) W Qc1 us->ay K CL W Qc1 us:=by
  intro l
  induction l with
  | nil=>intro us r;cases r;exact .nil
  | cons i l f=>
   intro us r;cases r with
   | cons r t=>cases r;exact .cons QaQ (f t)
 refine⟨W,a,h1,h2,?_,o,n,λx g e=>m _ (h0 x g e),λv H' W' fp a1 a2 a3 a4 a5 r nd own=>k v H' W' fp a1 a2 a3 a4 a5 ?_ nd own⟩
 .rw[j]at c ⊢;cases c with
  | cons r t=>
   cases t;obtain⟨_,_,rfl,q,d⟩:=r.gV;exact .cons (.lst q (b d)) .nil
 .rw[h]at r ⊢;replace r:=r.KD;obtain⟨rfl,r⟩:=r;cases r;exact .sh (.bl _)
theorem agm{ts:Cs}{arg:AT->BA}{pre:AT->Prop}{res:AT->T}{ns:AT}(f:arg ns=[.lst (ns.map D.int)])(b:pre ns)(d:res ns=.sh Qdl)(g:nS K H a QbZ)(c:∀p∈ts,H p.1=some Qcz) :
  spT K ts 1 arg pre res [.ref a] H (λv H'=>v=.bl true/\∀p∈ts,H' p.1=some Qcz) λ_ _ _=>False:=
 ⟨H,ns,.refl _,λ_ _ q _=>q,f ▸ .cons (.lst g (Ob ns)) .nil,WE,b,c,λv H' W' fp e _ _ _ _ r _ _=>by
  refine⟨?_,λp b=>e _ _ (c p b)⟩;rw[d]at r;replace r:=r.KD;obtain⟨rfl,r⟩:=r;exact r.sc rfl⟩
theorem sA:∀{ts:Cs} {b:Addr} {q:Str},ts.lookup b=some q->(b,q)∈ts
 | [],_,_,e=>by cases e
 | (c,x)::r,b,q,e=>by
  rw[mf]at e;cases a:b==c with
  | true=>rw[a]at e;grind
  | false=>rw[a]at e;exact .tail _ (sA e)
def X9{w:World}{mb:Bi}{O:Addr}{sp:Sp}{f:Qb}{vs:B1}{ns:AT}{ts:Cs}
  (Z:K.In f.heap) (C:f.heap.Ns mainGlobals mg) (i:f.heap.Ns builtinsNs mb) (L:∀x:Str,x≠"__name__"->mb x=bootBuiltins x) (S:f.heap.NoLimit) (hg:f.gens=#[]) (OJ:Fb mg f.heap)
  (D:f.heap.get? a=some {cls:=.type "list",data:=.seq vs.toArray}) (hi:IntsAre vs ns) (W:ns.length<=sizeLine) (hr:eG k callerA)
  (A:∀p∈ts,f.heap.get? p.1=some (tabObj #[])/\ts.lookup p.1=some p.2/\K.lookup p.1=none/\∃c,CodeHd f.heap c p.1)
  (F:∀base:Heap,K.In base->base.Ns mainGlobals mg->Fb mg base->fj P w K mg base lR k O fd [x] sp) (OD:∀(s:Qb) (u:Value),BindsTo s fd ⟨[u],[]⟩ [(x,u)])
  (QG:∀H:Hp,nS K H a QbZ->(∀p∈ts,H p.1=some Qcz)->sp [.ref a] H (λv H'=>v=.bl true/\∀p∈ts,H' p.1=some Qcz) λ_ _ _=>False) :
  codeAny Qdk callerA Qlc QjZ f:=by
 have U:=JC hi;have R:=hi.length;have Y:∀p∈ts,p.1≠a:=λp g z=>by
  have:=(A p g).1;rw[z,D]at this;cases this
 have core:∀H:Hp,(∀b,H b=none\/(∃o xs,b=a/\H b=some (.gT o Qa2))\/∃p∈ts,b=p.1/\H b=some Qcz)->nS K H a QbZ->(∀p∈ts,H p.1=some Qcz)->yI P w H f.heap->(H a≠none->K.lookup a=none) →
   codeAny Qdk callerA Qlc QjZ f:=by
  intro H M hS hH fQ hK;have B:∀{b:Addr} {o:Obj},f.heap.get? b=some o->o≠{cls:=.type "list",data:=.seq vs.toArray}->o≠tabObj #[]->H b=none:=λ{b o} e d1 d2=>by
   obtain q|⟨_,_,z,_⟩|⟨p,g,z,_⟩:=M b
   .exact q
   .rw[z,D]at e;exact absurd (l7 e).symm d1
   .rw[z,(A p g).1]at e;exact absurd (l7 e).symm d2
  have T:∀{b:Addr} {o:Obj},f.heap.get? b=some o->H b=none->(HF f.heap H).get? b=some o:=λe n=>ZT e n;have l:∀{b:Addr} {m:Bi},f.heap.Ns b m->(HF f.heap H).Ns b m:=λ{b m} ⟨o,es,ep,e,d,r⟩=>⟨o,es,ep,T e (B e (λz=>by rw[z]at d;cases d) λz=>by rw[z]at d;cases d),d,r⟩;have E:K.In (HF f.heap H):=λb o e=>T (Z b o e) (by
   obtain q|⟨_,_,z,q⟩|⟨p,g,z,_⟩:=M b
   .exact q
   .subst z;rw[hK (by rw[q];simp)]at e;cases e
   .rw[z,(A p g).2.2.1]at e;cases e)
  have hM:Mod K mg (HF f.heap H):=⟨E,l C,⟨mb,l i,L⟩,let ⟨mc,h1,h2⟩:=S;⟨mc,l h1,h2⟩⟩;have N:Fb mg (HF f.heap H):=by
   obtain⟨bm,o,b1,b2,b3,X,b5,b6,G⟩:=OJ;exact⟨bm,o,b1,b2,b3,T X (B X (λz=>by rw[z]at G;cases G) λz=>by rw[z]at G;cases G),b5,b6,G⟩
  have e0:Q7 P w K mg (HF f.heap H) callerA [] f H:=⟨rfl,hM,λb o e=>afx e,Nat.le_of_eq (W4 _ _),trivial,λb i=>absurd (show b∈([]:BN) from i) WA,fQ,.of_eq hg⟩;refine codeAny_mono ((F _ E (l C) N).run callerA [] f H ⟨[.ref a],[]⟩ [.ref a] [.ref a] _ _ hr e0 (OD f Qan) (.cons rfl .nil) (QG H hS hH)) λr s' h=>?_;cases r with
  | error e=>exact h.elim
  | ok fl=>
   cases fl with
   | next=>exact False.elim h
   | brk=>exact False.elim h
   | cont=>exact False.elim h
   | ret u=>
    obtain⟨v,H',os,bare,un,I,r',q,qt⟩:=h;subst q;obtain rfl:u=Value.bool true:=r';have tabAt:∀p∈ts,∃ps:CS,s'.heap.get? p.1=some (tabObj ps):=λp g=>by
     obtain⟨ps,e,_⟩:=I _ _ (qt p g);exact⟨ps,e⟩
    have keep:∀b o,f.heap.get? b=some o->(∀p∈ts,b≠p.1)->s'.heap.get? b=some o:=λb o e y=>by
     obtain q|⟨ob,xs,z,q⟩|⟨p,g,z,_⟩:=M b
     .exact un.keep b o e q (by intro z;exact absurd (show b∈([]:BN) from z) WA) WA
     .have z2:=un.gU b ob _ q;obtain⟨e1,_⟩:=fQ b _ q;obtain⟨e2,_⟩:=I b _ z2;rw[e]at e1;cases e1;exact e2
     .exact absurd z (y p g)
    refine⟨rfl,⟨λb o e=>?_,λb o e=>?_⟩,os,bare⟩
    .by_cases y:∀p∈ts,b≠p.1
     .exact .inl (keep b o e y)
     .obtain⟨p,g,rfl⟩:∃p∈ts,b=p.1:=Classical.byContradiction λq=>y λp g z=>q ⟨p,g,z⟩;obtain⟨h1,_,_,c,hc⟩:=A p g;obtain⟨ps,e2⟩:=tabAt p g;rw[h1]at e;cases e;exact .inr (.inl ⟨(hc.tab h1).isCodeTable,rfl,#[],ps,rfl,by rw[Array.empty_append];exact e2⟩)
    .by_cases y:∀p∈ts,b≠p.1
     .exact⟨o,keep b o e y⟩
     .obtain⟨p,g,rfl⟩:∃p∈ts,b=p.1:=Classical.byContradiction λq=>y λp g z=>q ⟨p,g,z⟩;obtain⟨ps,e2⟩:=tabAt p g;exact⟨_,e2⟩
 have tok:∀{H:Hp} {b:Addr} {q:Str},ts.lookup b=some q->g6 P w H f.heap b (.tabs q):=λ{H b q} e=>by
  obtain⟨h1,_⟩:=A (b,q) (sA e);exact⟨#[],h1,trivial,λpos cv z=>by simp[codeAmong]at z⟩
 cases J:K.lookup a with
 | some o=>
  have e:=Z a o J;rw[D]at e;cases e;refine core (λb=>(ts.lookup b).map HO.tabs) (λb=>?_) (.inr ⟨_,vs.toArray,_,J,rfl,rfl,rfl,by rw[List.size_toArray,R];exact W,by simpa using U⟩) (λp g=>?_) (λb u z=>?_) λz=>?_
  .cases q:List.lookup b ts with
   | none=>left;rfl
   | some t=>right;right;exact⟨(b,t),sA q,rfl,rfl⟩
  .show(ts.lookup p.1).map HO.tabs=_;rw[(A p g).2.1];rfl
  .have j:(ts.lookup b).map HO.tabs=some u:=z;cases q:List.lookup b ts with
   | none=>rw[q]at j;cases j
   | some t=>rw[q]at j;cases j;exact tok q
  .exfalso;apply z;show(ts.lookup a).map HO.tabs=none;cases q:ts.lookup a with
   | none=>rfl
   | some t=>exact absurd rfl (Y (a,t) (sA q))
 | none=>
  refine core (λb=>if b=a then some (.gT {cls:=.type "list",data:=.seq vs.toArray} (.lst QbZ)) else(ts.lookup b).map HO.tabs) (λb=>?_) (.inl (.inr ⟨{cls:=.type "list",data:=.seq vs.toArray},di rfl⟩)) (λp g=>?_) (λb u z=>?_) λ_=>J
  .by_cases i:b=a
   .exact .inr (.inl ⟨_,_,i,di i⟩)
   .cases q:List.lookup b ts with
    | none=>left;rw[cq i];rfl
    | some t=>right;right;exact⟨(b,t),sA q,rfl,by rw[cq i];rfl⟩
  .show(if p.1=a then _ else(ts.lookup p.1).map HO.tabs)=_;rw[cq (Y p g),(A p g).2.1];rfl
  .by_cases i:b=a
   .have j:=(di i).symm.trans z;cases j;subst i;exact⟨D,by rw[d8];exact W,vs,_,U,D⟩
   .have j:(ts.lookup b).map HO.tabs=some u:=(cq i).symm.trans z;cases q:List.lookup b ts with
    | none=>rw[q]at j;cases j
    | some t=>rw[q]at j;cases j;exact tok q
def aby{l:PySem.W.OpenLaw}{q:Qat}{loose:At}{XP:Bi->Heap->Prop}{B:Qju}{d:DefRec}{K:Params->Frag}{sp:World->Cs->Sp}{T0:BN}
  (M:l.most=some n) (m:n<=sizeLine) (t:QjI) (L:eG k callerA)
  (R:∀(w:World) (h:Heap),B w h->(K w.params).In h) (S:∀(w:World) (h:Heap),B w h->∀P∈T0,h.get? P=some (tabObj #[]))
  (F:∀(w:World) (mg:Bi) (j:Addr) (h:Heap),(K w.params).In h->h.Ns mainGlobals mg->mg d.name=some (.ref j) →
   ∃(fd:QaG) (ts:Cs),(∀p∈ts,p.1∈T0/\ts.lookup p.1=some p.2/\(K w.params).lookup p.1=none/\∃c,CodeHd h c p.1)/\(∀(s:Qb) (u:Value),BindsTo s fd ⟨[u],[]⟩ [(x,u)]) ∧
    ∀base:Heap,(K w.params).In base->base.Ns mainGlobals mg->Fb mg base->fj l.prog w Qf2 mg base lR k j fd [x] (sp w ts))
  (QG:∀(w:World) (ts:Cs) (H:Hp) (a:Addr) (ns:AT),ns.length<=n->nS Qf2 H a QbZ->(∀p∈ts,H p.1=some Qcz)->sp w ts [.ref a] H (λv H'=>v=.bl true/\∀p∈ts,H' p.1=some Qcz) λ_ _ _=>False) :
  PySem.W.WalkO q loose XP B l.row.toRowW d [] QiF:=by
 refine Att.N3 M t λw j1 C mg mb j o pm cd doc a vs ns G Y ho hd kN r A hints hlen N=>?_;have E:=R w _ Y;obtain⟨fd,ts,i,O,X⟩:=F w mg j _ E G.T.g r;obtain⟨bm,I,b1,b2,b3,b4,Z,z⟩:=G.T.bmain;have y:bm≠mainGlobals:=λq=>by
  obtain⟨o,es,ep,e,hd,_⟩:=G.T.g;rw[q,e]at b3;cases b3;rw[hd]at z;cases z
 exact X9 E G.T.g G.T.b G.T.builtins G.T.nolimit N ⟨bm,I,b1,b2,y,b3,b4,Z,z⟩ A hints (kv hlen m) L (λp D=>⟨S w _ Y _ (i p D).1,(i p D).2⟩) X O λH U J=>QG w ts H a ns hlen U J
noncomputable def Pm(y:Int):Value->Bool
 | .int i _=>i==y
 | _=>false
theorem abz:MtR X "list.index" (λx xs H Q=>∃(p:Addr) (l:AT) (y:Int) (j:Nat),x=.ref p/\xs=[.int y]/\nS X.K H p Qc1/\l[j]? = some y/\(∀i,i<j->l[i]? ≠ some y)/\Q QfS H):=by
 intro pins s σ H x xs v us Q I g rs h;obtain⟨p,l,y,j,rfl,rfl,B,c,D,q⟩:=h;cases g;obtain⟨u,rfl,o⟩:=rs.one;obtain⟨t,rfl⟩:=o;obtain⟨its,r,⟨⟨oc,od,A,Q8⟩,n,e,d,hd,hs⟩,hz⟩:=I.list B;dsimp only at d hd hs;subst d hd hs;have hi:=intsAre_of r;have at':∀{i:Nat} (hi:i<its.toArray.size),∃k t,its.toArray[i]=.int k t/\l[i]? = some k:=λ{i} a=>by
  have C:i<its.length:=by simpa using a
  have E:i<l.length:=by have:=r.length;rw[d8]at this;lia
  obtain⟨u,e1,e2⟩:=r.get (i:=i) (x:=.int l[i]) WA;obtain⟨t,rfl⟩:=e2;simp_all
 have f:j<its.toArray.size:=by
  have h1:=(kO.1 c).1;have:=r.length;rw[d8]at this;simp;lia
 have hsz:its.toArray.size<=sizeLine:=by
  have:=r.length;rw[oD,← this];exact hz
 refine tw F.slot_list_index ⟨_,e,rfl⟩ F.entry_list_index (F.args_list_index_2 _ _) (SeqAt.list_indexAt p its.toArray n none Q8 (.int y t) (Pm y) j f (by rw[mx]at hsz;lia) ?hit λm hm b=>?no) ⟨e,λw hw=>?eqs,?_⟩
 case hit=>
  obtain⟨k,t',e1,e2⟩:=at' f;rw[e1];rw[c]at e2;cases e2;exact yl y
 case no=>
  obtain⟨k,t',e1,e2⟩:=at' hm;rw[e1];exact yB.2 λz=>D m b (by rw[e2,z])
 case eqs=>
  obtain⟨i,a,rfl⟩:=Array.mem_iff_getElem.1 hw;obtain⟨k,t',e1,e2⟩:=at' a;rw[e1];exact SeqAt.EqAt.int_int k t' y t
 exact⟨.int (j:Int),H,I.tok _,⟨_,rfl⟩,q⟩
variable{o:Expr}{apos:Pos}
def OL{l:AT}{y:Int}(h1:dR X CL b o δ (.lst Qc1) δ1)(h2:dR X CL b e δ1 (.int y) δ2)(s:l[j]? = some y)(v:∀i,i<j->l[i]? ≠ some y)
  (r:attributeBase o "index" X.env (eval o X.env)=eval o X.env:=by rfl) (m:((backTo pos Qjq).all QfT&&(backToKw pos Qfa).all Qfu
   && decide (([e]:CU).length+([]:EO).length+Qfc<30))=true:=by rfl)
  (c:(apos.endLine==pos.line)=true:=by rfl) (hs:Qad:=by exact bq rfl) (d:(backTo pos Qfx).any (·.1)=false:=by rfl) :
  cL X CL b (.Call (.Attribute o "index" apos) [e] [] pos) δ (.sh QfS) δ2:=λH Z σ ts vs Q S k=>
 cI (JB F.plainAttrs_list F.slot_list_index F.type_list_index abz dQ QaF r m c hs d) (h1 H Z σ ts vs _ S λv1 H1 Z1 h k1 u q=>by
  obtain⟨a,us,rfl,f,n⟩:=q.gV;have:=sf n;subst this;refine⟨?_,h2 H1 Z1 σ ts vs _ u λv2 H2 Z2 g k2 t p=>?_⟩
  .exact .inl ⟨rfl,_,f⟩
  .cases p;exact⟨a,l,y,j,rfl,rfl,k2.seq f,s,v,k _ H2 Z2 (h.trans g) Qaq (t.push Qbx)⟩)
theorem K8(r:eG k A):A.depth<recursionLimit:=by
 have:=r.dp;lia
variable{g:L3.D->T}
def abA(sc:QdN)(G:QaK)(h:dR X CL b iter δ (.lst ds) δ1)(cl:∀d∈ds,(g d).clean=true)(inner:Block X CL scope Nc ifs elt (EV δ1 ix) ds p g)(hlen:QbG)
  (hs:Qca:=by intro _;rfl) (n1:AD y:=by decide) (A:AE y:=by decide):cL X CL b Qkd δ (.lst ((ds.filter p).map g)) δ1:=λH Z σ ts vs Q S k pins s I=>by
 rw[eval_ListComp];refine Hf (use:=none) rfl hs (vp (Fh sc) I) sc.kind sc.names ?_;have hw:=(U9 (tg:=.Name y px) (dQ (X:=X) (e:=iter))) pins s σ H (λJ H1=>∃Z1 us,aB Z Z1/\aB H H1/\bH X.K CL b H1 Z1 δ1 σ ts vs/\ay X.K CL H1 ds us/\(∀i H2,aB H1 H2->i<ds.length->J.go i H2)/\(∀i H2 x H',aB H1 H2->i<ds.length->J.o6 i H2 x H'->H'=H2/\us[i]? = some x)/\∀H2,aB H1 H2->J.stop ds.length H2) I (h H Z σ ts vs _ S λv H1 Z1 n k1 f r=>by
  obtain⟨a,us,rfl,l,c⟩:=r.gV;refine⟨a,rfl,⟨us,l⟩,Z1,us,n,k1,f,c,λi H2 s hi=>?_,λi H2 y H' s hi j=>⟨j.1,j.2 us (s.seq l)⟩,λH2 s=>⟨us,s.seq l,by rw[c.length];exact gZ _⟩⟩;have L:i<us.length:=by rw[← c.length];exact hi
  exact⟨us,us[i],s.seq l,by simp[L]⟩)
 refine fY hw λv s1 h1=>fY h1 λC s2 zz=>?_;obtain⟨it,fp,tn,J,H1,e,P,N,st,hf,Z1,us,n,k1,f,c,go,z,u⟩:=zz;subst e;have t:∀i Z2 H2 x H',aB H1 Z2->aB Z2 H2->(∀a o,H2 a=some o->kQ o=true->Z2 a=some o)->i<ds.length->J.o6 i H2 x H'->∃Z3 d,ds[i]? = some d/\K1 Z2 H2 Z3 H'/\bV X.K CL Z3 d x:=λi Z2 H2 x H' s1 s2 tp hi j=>by
  obtain⟨e,E⟩:=z i H2 x H' QhY hi j;subst e;obtain⟨d,hd,rd⟩:=c.Xn E;exact⟨Z2,d,hd,.refl s2 tp,rd.mono s1⟩
 refine yO (xs:=[y]) (Fh sc) G P N st hf (yP (W1:=H1) f f.zh Qr (λ_ _ q _=>q) (Ae f ix) (Md sc inner n1 A) go t u hlen (.inr cl)) λD T s' H' m io R ch ci zz=>?_;obtain⟨Z',w,B,O⟩:=zz;obtain⟨m,F⟩:=m;exact⟨m,F,λh' M=>⟨.ref D,H',ci h' M,rfl,k _ H' Z' (n.trans w) (k1.trans B) O⟩⟩
theorem OO{K:Frag}{CL:BC}{H Z:Hp}:∀{ds:BA} {us:BY} {fp:BN},aU K CL H Z Qa7 us fp->ay K CL Z ds us
 | [],_,_,.nil=>.nil
 | _::_,_,_,.cons (.sh r) a=>.cons r (OO a)
def abB(h:Qck)(he:∀whole,isTrue e X.env whole=(do let v ← whole;standAt e.pos;holding [v] (truthy v)):=by intro _;rfl):wX X CL b e δ (!ds.isEmpty) δ1:=λH Z σ ts vs Q S k=>
 HN (aai dQ he) (h H Z σ ts vs _ S λv H1 Z1 c k1 g r=>by
  obtain⟨a,us,rfl,f,d⟩:=r.gV;refine⟨_,.inl ⟨us,f,rfl⟩,?_⟩;have e:us.isEmpty=ds.isEmpty:=by
   have:=d.length;cases us<;>cases ds<;>simp at this ⊢
  rw[e];exact k H1 Z1 c k1 g)
noncomputable def OQ(kvs:List Qd6)(k:EM):Option α:=(kvs.find? λa=>decide (a.1=k)).map (·.2)
def abC{p:Qd6}{r:List Qd6}{k:EM}(e:p.1=k):OQ (p::r) k=some p.2:=by simp[OQ,e]
def abD{p:Qd6}{r:List Qd6}{k:EM}(e:¬ p.1=k):OQ (p::r) k=OQ r k:=by simp[OQ,e]
theorem uM.length{kvs:D2}{gs:Bn}(h:uM K CL Z kvs gs):kvs.length=gs.length:=
 uM.ind (P:=λkvs gs=>kvs.length=gs.length) rfl (λ_ _ i=>congrArg (· + 1) i) h
theorem fX.length{kvs:Cf}{gs:Bn}(h:Qjn):kvs.length=gs.length:=
 fX.ind (P:=λkvs gs _=>kvs.length=gs.length) rfl (λ_ _ i=>congrArg (· + 1) i) h
theorem fX.snoc{k:EM}{kvs:Cf}{gs:Bn}{a:BN}(h:Qjn)(q:bL K CL H Z t v a):fX K CL H Z (kvs++[(k,t)]) (gs++[(k,v)]) (fp++(a++[])):=
 fX.ind (P:=λkvs gs fp=>fX K CL H Z (kvs++[(k,t)]) (gs++[(k,v)]) (fp++(a++[]))) (by rw[nN,nN,nN];exact .cons q .nil) (λr _ i=>by
  rw[jc];exact .cons r i) h
theorem abE:z7 X (binaryOp .FloorDiv) (rI (λ_ j=>0<j/\j.natAbs.log2<9000) λi j=>.int (i / j)):=zi λi j _ _ _ _ _ a q=>by
 exact floordiv_int We (by rw[Int.fdiv_eq_ediv_of_nonneg i We];exact q) (.inl (PyProof.noPylong_of_log2 a.2))
noncomputable def abF{i j:Int}(h1:Qa8)(h2:Qbe)(c:0<j/\j.natAbs.log2<9000):cL X CL b (.BinOp e1 .FloorDiv e2 pos) δ (.sh (.int (i / j))) δ2:=vg abE h1 h2 rfl rfl rfl λ_ _ q=>⟨i,j,rfl,rfl,c,q⟩
section
variable{D:gA}
def TU(h:δ[i]? = some Qar)(q:t.gT=d)(k:fh X CL b gP (δ.set i Qb0) D):fh X CL b gP δ D:=λH Z σ ts vs E S M=>by
 subst q;obtain⟨v,Z',_,z,a⟩:=S.afK h;exact k H Z' σ ts vs E a.pop (M.mono z)
end
end L3
namespace L2
open PySem PySem.Spec PyProof.Rows
def As(fr:D1)(h h':Heap):Prop:=∀b∈U5 fr,∀o,h.get? b=some o->∃sl,h'.get? b=some {o with slots:=sl}
def CX8(P:Qat)(w:World):ZE:=λouter H s E ev s'=>∃(e C:Addr) (a:Value) (B:Heap) (H':Hp),ev=.ref e/\s'.os=s.os/\AllBare s'.gens/\Heap.FlyingW B outer e QaI a s'.heap/\yI P w H' B ∧
 (∀h,B.StaysIn h->As outer s.heap h->Un (U5 outer) [] H H' s.heap h)/\As outer s.heap s'.heap/\E QaI none H'
theorem As.up{fr:D1}{h h1 h2 base:Heap}(a:As fr h h1)(f:h1.FunFrames base fr)(u:h1.UpToSlots h2):As fr h h2:=λb d o i=>by
 obtain⟨sl,e⟩:=a b d o i;obtain⟨_,o',g,hd⟩:=f.mem d;rw[e]at g;cases g;obtain⟨c,e2⟩:=u b _ e hd;exact⟨c,e2⟩
variable{X:Cx}
noncomputable abbrev Cx.pinned(X:Cx)(p:BM):Cx:={X with pn:=X.pn++p}
theorem Cx.Ok.pinned(ok:X.Ok)(p:BM):(X.pinned p).Ok:=⟨ok.mod,ok.kind,ok.glob,ok.blt,ok.above,ok.inj,ok.has,ok.x2,ok.hd,ok.frames,ok.ze,ok.LO,ok.bs,ok.ZU,ok.W5,ok.ZV,ok.BO,ok.sv⟩
end L2
namespace L3
open PySem PySem.Spec PyProof.Rows L2
def agn(b:Bx)(E:XK)(C:Addr):Prop:=∀H' Z':Hp,aB b.B H'->aB b.Z Z'->aB Z' H'->(∀a o,Z' a=some o->b.Z a=none->b.B a=none)->(∀a o,H' a=some o->kQ o=true->Z' a=some o)->E QaI none H'
def OM(K:Frag)(CL:BC){A:Type}(n:Nat)(arg:Qak)(Pre:Q1)(exc:A->Str):Sp:=λvs H _ E=>
 ∃(W:Hp) (a:A),aB W H/\(∀c o,H c=some o->kQ o=true->W c=some o)/\ay K CL W QbM vs/\(arg a).length=n/\Pre a/\qV CL W/\agn ⟨H,W⟩ E (CL (exc a))
section
variable{X:Cx}{CL:BC}{D:gA}{x:Str}{i:Nat}{W:XK}
structure OE(X:Cx)(CL:BC)(x:Str)(k n:Nat){A:Type}(arg:Qak)(Pre:Q1)(exc:A->Str):Prop where
 ex:∃f fd ps,fj X.prog X.w X.K X.mg X.base (CX8 X.prog X.w) k f fd ps (OM X.K CL n arg Pre exc)/\X.mg x=some Q3/\keepIn X.K Q3=true/\Binds X.K fd ps []
 room:eG k X.A
theorem Vn.pin{p:BM}(h:QaY):Vn (X.pinned p) i x:=⟨h.hi,h.hv,h.hd,h.kN⟩
theorem OE.pin{p:BM}{k n:Nat}{A:Type}{arg:Qak}{Pre:Q1}{exc:A->Str}(F:OE X CL x k n arg Pre exc):OE (X.pinned p) CL x k n arg Pre exc:=⟨F.ex,F.room⟩
end
end L3
namespace L2
open PySem PySem.Spec PyProof.Rows
structure abG(K:Frag)(D:Addr):Prop where
 ga:findIn K Qeg "__getattribute__" = some (some (.builtin "BaseException.__getattribute__"))
 gn:findIn K Qeg "__getattr__" = some none
 hd:hasDictIn K D=true
 fi:findIn K Qeg "__class__" = some (some QiB)
 sp:specialIn K QiB "__get__" = some (some (.builtin "getset_descriptor.__get__"))
 tk:PySem.W.takesIn K QiB=some true
 mr:mroIn K D (.type "object")=some true
 mb:mroIn K D (.type "BaseException")=some true
section
variable{s:Qb}{K:Frag}{D:Addr}
open PySem.W in
open PySem PySem.Calls PyProof.Rows Builtin Builtin.ObjectAttr Builtin.Getset_descriptor PySem.W PySem.Builtin.ObjectAttr in
theorem abG.there(O:abG K D):∃c d cd sl,K.lookup D=some ⟨c,d,.cls cd,sl⟩:=by
 obtain⟨cd,q,_⟩:=any_some O.hd;unfold PySem.W.clsIn at q;split at q
 .rename_i c d a sl e;exact⟨c,d,a,sl,e⟩
 .cases q
end
end L2
namespace L3
open PySem PySem.Spec PyProof.Rows L2
def abH(l q:Addr)(xs ys:CS)(n m:Nat)(f:Do)(sq:Cn)(j:Qj7)(c:xs.size<=sizeLine)(b:xs.size+ys.size<=sizeLine+1) :
  PySem.Meets (Builtin.«list.extend» ⟨[.ref l,.ref q],[]⟩) (λ_ R s=>s.heap.get? l=some {cls:=.type "list",dict:=none,data:=.seq xs n,slots:=#[]}/\s.heap.get? q=some {cls:=.type "list",dict:=f,data:=.seq ys m,slots:=sq} ∧
   R (.ok (.ret Value.none)) {s with heap:=s.heap.update l (Obj.mapSeq λx=>x++ys),toks:=s.toks}):=
 PySem.Meets.of_wp λprog w A R s h=>by
  obtain⟨i,g,d,tk,os⟩:=s;obtain⟨a,e,h⟩:=h;have f1:=AutoSeq1.idx_int;have o:=AutoSeq1.sub_list_list;have f4:=AutoSeq1.sub_tuple_list;have k:=AutoSeq1.sub_list_tuple;have hz:(xs++ys).size<=sizeLine+1:=by
   rw[Array.size_append];exact b
  wp_walk using Qkt,wpAny_loadPart' a,wpAny_loadPart' e
  exact⟨_,rfl,h⟩
def TM(K:Frag):V->BY->Hp->VK->Prop:=λx vs H Q=>∃l q xs zs,x=.ref l/\vs=[.ref q]/\H l=some Qa2/\nS K H q zs/\xs.length+zs.length<=sizeLine/\Q .non (upd H l (.lst (xs++zs)))
variable{X:Cx}
theorem ago:y4 X "list.extend" (TM X.K):=by
 intro pins s σ H x vs v us Q I d f h;obtain⟨l,q,xs,zs,rfl,rfl,b,m,hz,k⟩:=h;cases d;obtain⟨u,rfl,g⟩:=f.one;cases g;obtain⟨z,its,n,r,y,e⟩:=I.Fs b;obtain⟨c,a,⟨⟨A,d2,o,s2⟩,i,e2,t,_,hd2⟩,w⟩:=I.list m;cases t;cases hd2;have j:=a.length;have hsz:its.toArray.size+c.toArray.size<=sizeLine:=by grind
 have p:¬ (!its.toArray.isEmpty&&Builtin.List.listTooLong (its.toArray.size+c.toArray.size))=true:=by
  rw[EK hsz,FX];decide
 refine tw F.slot_list_extend ⟨_,e,rfl⟩ F.entry_list_extend (F.args_list_extend_2 _ _) (abH l q _ _ n i d2 s2 p WF We) ⟨e,e2,?_⟩;refine⟨.non,_,I.Fu b e WA (r.append a) ?_,rfl,k⟩;simp_all
variable{i:Nat}
theorem Ln.pin{x:Str}{p:BM}(h:QbT):Ln (X.pinned p) i x:=⟨⟨h.hi,h.hv,h.hd,h.kN⟩,h.loc,h.hf⟩
inductive Fd where
 | ix (j:Nat)|fld (f:Str)|key (k:EM)
noncomputable def Yb{α:Type}(k:EM)(t:α):List Qd6->List Qd6
 | []=>[]
 | (x,u)::r=>if x=k then(x,t)::r else(x,u)::Yb k t r
noncomputable def T.core:T->T
 | .pin _ t=>t
 | t=>t
noncomputable def T.yT:T->T->T
 | .pin y _,u=>.pin y u
 | _,u=>u
def T.Yc:Fd->T->ES
 | .ix j,.lst ts=>ts[j]?
 | .ix j,.tup ts=>ts[j]?
 | .fld f,.ins _ fs=>fs.lookup f
 | .key k,.dct kvs=>OQ kvs k
 | _,_=>none
def T.K9:Fd->T->T->T
 | .ix j,.lst ts,u=>.lst (ts.set j u)
 | .ix j,.tup ts,u=>.tup (ts.set j u)
 | .fld f,.ins c fs,u=>.ins c (yN f u fs)
 | .key k,.dct kvs,u=>.dct (Yb k u kvs)
 | _,t,_=>t
def T.nT:List Fd->T->ES
 | [],t=>some t.core
 | s::p,t=>(t.core.Yc s).bind (T.nT p)
def T.uU:List Fd->T->T->T
 | [],u,t=>t.yT u
 | s::p,u,t=>match t.core.Yc s with
  | some k=>t.yT (t.core.K9 s (T.uU p u k))
  | none=>t
def si(H:Hp)(v:V):Fd->V->Prop
 | .ix j,w=>∃a us,v=.ref a/\(H a=some QcE\/H a=some Qd8)/\us[j]? = some w
 | .fld f,w=>∃a C dx gs,v=.ref a/\H a=some (.ins C dx gs)/\gs.lookup f=some w
 | .key k,w=>∃a gs,v=.ref a/\H a=some Qef/\vd gs k=some w
def D8(H:Hp):V->List Fd->V->Prop
 | v,[],w=>v=w
 | v,s::p,w=>∃u,si H v s u/\D8 H u p w
variable{H:Hp}{s:Fd}
theorem si.mono{H':Hp}(e:aB H H'){v w:V}(h:si H v s w):si H' v s w:=by
 cases s with
 | ix j=>obtain⟨a,us,h1,h2,b⟩:=h;exact⟨a,us,h1,h2.imp (e _ _) (e _ _),b⟩
 | fld f=>obtain⟨a,C,dx,gs,h1,h2,b⟩:=h;exact⟨a,C,dx,gs,h1,e _ _ h2,b⟩
 | key k=>obtain⟨a,gs,h1,h2,b⟩:=h;exact⟨a,gs,h1,e _ _ h2,b⟩
theorem si.inj{v w i:V}(h:si H v s w)(q:si H v s i):w=i:=by
 cases s with
 | ix j=>
  obtain⟨a,us,h1,h2,m⟩:=h;obtain⟨n,c,d,b,l⟩:=q;subst h1;cases d;have e:us=c:=by
   obtain h2|h2:=h2<;>obtain b|b:=b<;>rw[h2]at b<;>cases b<;>rfl
  simp_all
 | fld f=>
  obtain⟨a,C,dx,gs,h1,h2,m⟩:=h;obtain⟨n,p,o,g,d,b,l⟩:=q;grind
 | key k=>
  obtain⟨a,gs,h1,h2,m⟩:=h;obtain⟨n,g,d,b,l⟩:=q;simp_all
theorem D8.mono{H H':Hp}(e:aB H H'):∀{p:QcN} {v w:V},D8 H v p w->D8 H' v p w
 | [],_,_,h=>h
 | _::_,_,_,⟨u,h,q⟩=>⟨u,h.mono e,D8.mono e q⟩
theorem D8.inj{H:Hp}:∀{p:QcN} {v w a:V},D8 H v p w->D8 H v p a->w=a
 | [],_,_,_,h,q=>h.symm.trans q
 | _::_,_,_,_,⟨_,h1,h2⟩,⟨_,c,b⟩=>by
  have:=h1.inj c;subst this;exact D8.inj h2 b
theorem D8.snoc{H:Hp}{s:Fd}:∀{p:QcN} {v w z:V},D8 H v p w->si H w s z->D8 H v (p++[s]) z
 | [],_,_,z,h,q=>by
  have h':=h;subst h';exact⟨z,q,rfl⟩
 | _::_,_,_,_,⟨u,h1,h2⟩,q=>⟨u,h1,D8.snoc h2 q⟩
variable{K:Frag}{CL:BC}{b:Bx}{H' Z Z':Hp}{δ:BB}{σ:L2.St}{ts tl:B2}{vs us:BY}{t u t0:T}{v v0 w:V}{fp:BN}{p:QcN}
theorem bL.RX(h:QfB):bL K CL H Z t.core v fp/\∀{H' Z':Hp} {u:T} {g:BN},bL K CL H' Z' u v g->bL K CL H' Z' (t.yT u) v g:=by
 cases h with
 | pin r=>exact⟨r,.pin⟩
 | sh r=>exact⟨.sh r,λq=>q⟩
 | tup r q=>exact⟨.tup r q,λq=>q⟩
 | lst r q=>exact⟨.lst r q,λq=>q⟩
 | ins r q=>exact⟨.ins r q,λq=>q⟩
 | qw r q=>exact⟨.qw r q,λq=>q⟩
 | dct r q=>exact⟨.dct r q,λq=>q⟩
 | DI r q p=>exact⟨.DI r q p,λq=>q⟩
theorem dz.at{f:Str}:∀(fs:BS) {gs:CA} {fp:BN},dz K CL H Z fs gs fp->fs.lookup f=some t->∃w f1 f2 c,gs.lookup f=some w/\fp=f1++(f2++c)/\bL K CL H Z t w f2 ∧
  ∀{H':Hp} {t':T} {g:BN},(∀a∈f1++c,H' a=H a)->bL K CL H' Z t' w g->dz K CL H' Z (yN f t' fs) gs (f1++(g++c)):=by
 intro fs
 induction fs with
 | nil=>intro gs fp h e;cases e
 | cons p fs k=>
  obtain⟨x,t0⟩:=p;intro gs fp h e;cases h with
  | @cons _ _ v _ vs f0 g0 r rs=>
   rw[mf]at e;cases b:f==x with
   | true=>
    rw[b]at e;cases e;have i:=(tF.1 b).symm;refine⟨v,[],f0,g0,by rw[mf,b],rfl,r,λ{H' t' g} kk d=>?_⟩;rw[yN,di i];exact dz.cons (fp:=g) d (rs.mono Qr λa j=>kk a (‹_›))
   | false=>
    rw[b]at e;obtain⟨w,f1,f2,c,h1,h2,m,l⟩:=k rs e;subst h2;refine⟨w,f0++f1,f2,c,by rw[mf,b];exact h1,WA,m,λ{H' t' g} kk d=>?_⟩;rw[yN,cq (λz=>by grind),jc];exact .cons (r.mono Qr λa j=>kk a WF) (l (λa j=>kk a (by rw[jc];exact i5 _ j)) d)
theorem fX.Yc{k:EM}{kvs:Cf}{gs:Bn}(h:Qjn)(c:OQ kvs k=some t) :
  ∃v f1 f2 b,vd gs k=some v/\fp=f1++(f2++b)/\bL K CL H Z t v f2 ∧
   ∀{H':Hp} {t':T} {g:BN},(∀a∈f1++b,H' a=H a)->bL K CL H' Z t' v g->fX K CL H' Z (Yb k t' kvs) gs (f1++(g++b)):=by
 refine fX.ind (P:=λkvs gs fp=>OQ kvs k=some t->∃v f1 f2 b,vd gs k=some v/\fp=f1++(f2++b)/\bL K CL H Z t v f2 ∧
   ∀{H':Hp} {t':T} {g:BN},(∀a∈f1++b,H' a=H a)->bL K CL H' Z t' v g->fX K CL H' Z (Yb k t' kvs) gs (f1++(g++b))) (λe=>by cases e) (λ{x t0 v0 ts vs fp gp} r f i c=>?_) h c
 by_cases e:x=k
 .rw[abC e]at c;cases c;refine⟨v0,[],fp,gp,ve e,rfl,r,λ{H' t' g} d q=>?_⟩;rw[Yb,di e];exact(show fX K CL H' Z _ _ (g++gp) from .cons q (f.mono Qr d))
 .rw[abD e]at c;obtain⟨v,f1,f2,b,h1,h2,m,l⟩:=i c;refine⟨v,_,f2,b,by rw[r6 e];exact h1,by rw[h2,jc],m,λ{H' t' g} d q=>?_⟩;rw[Yb,cq e,jc];exact .cons (r.mono Qr λa j=>d a WF) (l (λa j=>d a (by rw[jc];grind)) q)
theorem bL.Yc{k:T}(zh:aB Z H)(h:QfB)(i:t.Yc s=some k):∃w f1 f2 d,si H v s w/\fp=f1++(f2++d)/\bL K CL H Z k w f2 ∧
  ∀{H':Hp} {n:T} {g:BN},(∀c∈f1++d,H' c=H c)->bL K CL H' Z n w g->bL K CL H' Z (t.K9 s n) v (f1++(g++d)):=by
 cases s with
 | ix j=>
  cases h with
  | @lst a us ts g b rs=>
   obtain⟨w,f1,f2,d,h1,h2,m,l⟩:=rs.at i;subst h2;refine⟨w,a::f1,f2,d,⟨a,us,rfl,.inl b,h1⟩,rfl,m,λ{H' n g} kk e=>?_⟩;have q:=l Qi1 e;rw[ig h1]at q;exact .lst ((kk a gj).trans b) q
  | @tup a us ts g b rs=>
   obtain⟨w,f1,f2,d,h1,h2,m,l⟩:=rs.at i;subst h2;refine⟨w,f1,f2,d,⟨a,us,rfl,.inr (zh _ _ b),h1⟩,rfl,m,λ{H' n g} kk e=>?_⟩;have q:=l kk e;rw[ig h1]at q;exact .tup b q
  | _=>cases i
 | fld f=>
  cases h with
  | @ins a dx c gs fs g b rs=>
   obtain⟨w,f1,f2,d,h1,h2,m,l⟩:=dz.at fs rs i;subst h2;refine⟨w,a::f1,f2,d,⟨a,_,dx,gs,rfl,b,h1⟩,rfl,m,λ{H' n g} kk e=>?_⟩;exact .ins ((kk a gj).trans b) (l Qi1 e)
  | _=>cases i
 | key x=>
  cases h with
  | @dct a gs kvs g b rs=>
   obtain⟨w,f1,f2,d,h1,h2,m,l⟩:=rs.Yc i;subst h2;refine⟨w,a::f1,f2,d,⟨a,gs,rfl,b,h1⟩,rfl,m,λ{H' n g} kk e=>?_⟩;exact .dct ((kk a gj).trans b) (l Qi1 e)
  | _=>cases i
theorem bL.focus(zh:aB Z H):∀(p:QcN) {t u:T} {v:V} {fp:BN},bL K CL H Z t v fp->T.nT p t=some u->∃w f1 f2 a,D8 H v p w/\fp=f1++(f2++a)/\bL K CL H Z u w f2 ∧
  ∀{H':Hp} {u':T} {g:BN},(∀c∈f1++a,H' c=H c)->bL K CL H' Z u' w g->bL K CL H' Z (T.uU p u' t) v (f1++(g++a))
 | [],t,u,v,fp,h,e=>by
  obtain⟨h1,h2⟩:=h.RX;cases e;exact⟨v,[],fp,[],rfl,WA,h1,λ{H' u' g} _ r=>by rw[j2];exact h2 r⟩
 | s::p,t,u,v,fp,h,e=>by
  obtain⟨h1,h2⟩:=h.RX;rw[T.nT]at e;cases b:t.core.Yc s with
  | none=>rw[b]at e;cases e
  | some k=>
   rw[b]at e;obtain⟨d,a1,a2,a3,y,x,o,n⟩:=h1.Yc zh b;obtain⟨w,f1,f2,a,l,j,i,f⟩:=bL.focus zh p o e;subst x j;refine⟨w,a1++f1,f2,a++a3,⟨d,y,l⟩,WA,i,λ{H' u' g} kk m=>?_⟩;rw[T.uU,b];have q:=h2 (n (λc z=>kk c WF) (f (λc z=>kk c WF) m));simpa [List.append_assoc] using q
theorem bH.B8(S:Qap)(ev:σ[i]? = some QcF)(hi:δ[i]? = some Qbj)(M:T.nT p t0=some u)(D:Qd3):∃f2 gp,bL K CL H Z u w f2/\aU K CL H Z ts vs gp/\(f2++gp).Nodup ∧
  ∀{a:Addr} {o:HO} {u':T} {l:B2} {j:BY} {g m:BN},w=.ref a->a∈f2->kQ o=false->bL K CL QbJ Z u' w g->aU K CL QbJ Z l j m->(g++m).Nodup->(∀c∈g++m,c∈f2++gp) →
   bH K CL b QbJ Z (δ.set i (some (T.uU p u' t0))) σ l j:=by
 obtain⟨fp,gp,e,r,nd,k⟩:=S.rep;obtain⟨v1,e1,e2,e3,hv,E,rt,put,_⟩:=e.get hi;rw[ev]at hv;cases hv;obtain⟨N,f1,f2,s,at',hf,F,put2⟩:=rt.focus S.zh p M;have hw:=at'.inj D;subst hw;subst hf;subst E;have q:((e1++((f1++(f2++s))++e3))++gp).Perm ((e1++(f1++(s++e3)))++(f2++gp)):=wq.2 λc=>by
  simp only[Hm];lia
 have y:=q.nodup_iff.1 nd;have x:=lj.1 y;refine⟨f2,gp,F,r,x.2.1,λ{a o u' l j g m} I C hm J L A v=>?_⟩;have n:∀c∈e1++(f1++(s++e3)),upd H a o c=H c:=λc f=>au λz=>x.2.2 c f a (ka _ C) z;have G:=put2 (H':=upd H a o) (λc f=>n c (by
  obtain h|h:=gY.1 f
  .simp[h]
  .simp[h])) J
 have B:=put (H':=upd H a o) Qr (λc f=>n c (by
  obtain h|h:=gY.1 f
  .simp[h]
  .simp[h])) G
 rw[ig ev]at B;have t:((e1++((f1++(g++s))++e3))++m).Perm ((e1++(f1++(s++e3)))++(g++m)):=wq.2 λc=>by
  simp only[Hm];lia
 refine S.Rr hm k (by simp[C]) B L (t.nodup_iff.2 (lj.2 ⟨x.1,A,λc f d hd=>x.2.2 c f d (v d hd)⟩)) λc f=>?_;refine q.mem_iff.2 ?_;obtain h|h:=gY.1 (t.mem_iff.1 f)
 .exact ka _ h
 .exact i5 _ (v c h)
theorem bH.Fn(S:Qap)(ev:σ[i]? = some QcF)(hi:δ[i]? = some Qbj)(d:T.nT p t0=some u):∃w f2,D8 H v0 p w/\bL K CL H Z u w f2:=by
 obtain⟨fp,gp,e,r,nd,k⟩:=S.rep;obtain⟨v1,e1,e2,e3,hv,f,rt,put,_⟩:=e.get hi;rw[ev]at hv;cases hv;obtain⟨a,f1,f2,g,at',hf,c,put2⟩:=rt.focus S.zh p d;exact⟨a,f2,at',c⟩
theorem bH.agq(S:Qci)(ev:σ[i]? = some QcF)(hi:δ[i]? = some Qbj)(n:T.nT p t0=some Qcw)(h:Qd3) :
  ∃a us,w=.ref a/\H a=some QcE/\us.length=tl.length/\bH K CL b (upd H a (.lst (us++[v]))) Z (δ.set i (some (T.uU p QfI t0))) σ ts vs:=by
 obtain⟨f2,gp,j,k,nd,go⟩:=S.B8 ev hi n h;obtain⟨a,us,g,rfl,rfl,o,rs⟩:=j.gV;cases k with
 | @cons _ _ _ _ f e m l=>
  have ne:∀c∈g++(f++e),c≠a:=λc d z=>by subst z;simp_all
  have pm:((a::(g++(f++[])))++e).Perm ((a::g)++(f++e)):=wq.2 λc=>by simp
  exact⟨a,us,rfl,o,rs.length.symm,go rfl gj rfl (.lst aW (aU.app (rs.mono Qr λc d=>au (ne c (by simp[d]))) (.cons (m.mono Qr λc d=>au (ne c (by simp[d]))) .nil)))
   (l.mono Qr λc d=>au (ne c (by simp[d]))) (pm.nodup_iff.2 nd) λc d=>pm.mem_iff.1 d⟩
theorem bH.abJ{ds:BA}(S:Qap)(j:QfP)(ev:σ[i]? = some QcF)(hi:δ[i]? = some Qbj)(k:T.nT p t0=some Qcw)(e:Qd3) :
  ∃a ws,w=.ref a/\H a=some (.lst ws)/\ws.length=tl.length/\bH K CL b (upd H a (.lst (ws++us))) Z (δ.set i (some (T.uU p (.lst (tl++ds.map T.sh)) t0))) σ ts vs:=by
 obtain⟨f2,gp,f,h,nd,go⟩:=S.B8 ev hi k e;obtain⟨a,ws,g,rfl,rfl,l,rs⟩:=f.gV;have ne:∀c∈g++gp,c≠a:=λc d z=>by subst z;simp_all
 exact⟨a,ws,rfl,l,rs.length.symm,go rfl gj rfl (.lst aW (aU.app (rs.mono Qr λc d=>au (ne c (by simp[d]))) (aU.LL j)))
  (h.mono Qr λc d=>au (ne c (by simp[d]))) (by rw[j2];exact nd) λc d=>by rw[j2]at d;exact d⟩
variable{j:Nat}
theorem bH.alZ(S:Qci)(ev:σ[i]? = some QcF)(hi:δ[i]? = some Qbj)(r:T.nT p t0=some Qcw)(l:Qd3)(s:j<tl.length) :
  ∃a us,w=.ref a/\H a=some QcE/\us.length=tl.length/\bH K CL b (upd H a (.lst (us.set j v))) Z (δ.set i (some (T.uU p (.lst (tl.set j t)) t0))) σ ts vs:=by
 obtain⟨f2,gp,m,n,nd,go⟩:=S.B8 ev hi r l;obtain⟨a,us,g,rfl,rfl,u,rs⟩:=m.gV;cases n with
 | @cons _ _ _ _ f e q o=>
  obtain⟨w0,g1,g2,g3,h1,h2,y,x⟩:=rs.at (ma s);subst h2;have ne:∀c∈(g1++(g2++g3))++(f++e),c≠a:=λc d z=>by subst z;simp_all
  have k:((a::(g1++g3))++(f++e)).Sublist ((a::(g1++(g2++g3)))++(f++e)):=by simp
  have pm:((a::(g1++(f++g3)))++e).Perm ((a::(g1++g3))++(f++e)):=wq.2 λc=>by simp[Hm,List.count_cons];lia
  exact⟨a,us,rfl,u,rs.length.symm,go rfl gj rfl (.lst aW (x (λc d=>au (ne c (by
    obtain h|h:=gY.1 d
    .simp[h]
    .simp[h]))) (q.mono Qr λc d=>au (ne c (by simp[d])))))
   (o.mono Qr λc d=>au (ne c (by simp[d]))) (pm.nodup_iff.2 (nd.sublist k)) λc d=>k.subset (pm.mem_iff.1 d)⟩
theorem bH.aqc(S:Qap)(ev:σ[i]? = some QcF)(hi:δ[i]? = some Qbj)(l:T.nT p t0=some (.lst (t::tl)))(e:Qd3) :
  ∃a us x,w=.ref a/\H a=some (.lst (x::us))/\bH K CL b (upd H a QcE) Z (δ.set i (some (T.uU p Qcw t0))) σ (t::ts) (x::vs):=by
 obtain⟨f2,gp,f,h,nd,go⟩:=S.B8 ev hi l e;obtain⟨a,us,g,rfl,rfl,m,rs⟩:=f.gV;cases rs with
 | @cons _ x _ us g2 g1 j k=>
  have ne:∀c∈(g2++g1)++gp,c≠a:=λc d z=>by subst z;simp_all
  have pm:((a::g1)++(g2++gp)).Perm ((a::(g2++g1))++gp):=wq.2 λc=>by simp[List.count_cons];lia
  exact⟨a,us,x,rfl,m,go rfl gj rfl (.lst aW (k.mono Qr λc d=>au (ne c (by simp[d]))))
   (.cons (j.mono Qr λc d=>au (ne c (by simp[d]))) (h.mono Qr λc d=>au (ne c (by simp[d])))) (pm.nodup_iff.2 nd) λc d=>pm.mem_iff.1 d⟩
theorem bH.Yd{c f:Str}{fs:BS}(S:Qci)(ev:σ[i]? = some QcF)(hi:δ[i]? = some Qbj)(r:T.nT p t0=some Qbu)(l:Qd3) :
  ∃a dx gs,w=.ref a/\H a=some QeB/\gs.length=fs.length/\bH K CL b (upd H a QiM) Z (δ.set i (some (T.uU p (.ins c (yN f t fs)) t0))) σ ts vs:=by
 obtain⟨f2,gp,m,n,nd,go⟩:=S.B8 ev hi r l;obtain⟨a,dx,gs,g,rfl,rfl,s,rs⟩:=m.HK;cases n with
 | @cons _ _ _ _ h e q o=>
  have ne:∀c∈g++(h++e),c≠a:=λc d z=>by subst z;exact(nP.1 nd).1 d
  obtain⟨g',k,h1,h2,u⟩:=dz.put (f:=f) (q.mono (H':=upd H a QiM) Qr λc d=>au (ne c (by simp[d]))) (rs.mono (H':=upd H a QiM) Qr λc d=>au (ne c (by simp[d])));have j:((a::k)++(h++e)).Sublist ((a::g)++(h++e)):=pE (List.Sublist.cons₂ _ h2) (n7 _);have pm:((a::g')++e).Perm ((a::k)++(h++e)):=((u.cons a).append_right e).trans (wq.2 λc=>by simp only[Hm,List.count_cons];lia);exact⟨a,dx,gs,rfl,s,rs.length.symm,go rfl gj rfl (.ins aW h1) (o.mono Qr λc d=>au (ne c (by simp[d]))) (pm.nodup_iff.2 (nd.sublist j)) λc d=>j.subset (pm.mem_iff.1 d)⟩
theorem bH.aqd(S:Qap)(ev:σ[i]? = some QcF)(hi:δ[i]? = some Qbj)(j:T.nT p t0=some u)(f:Qd3):bH K CL b H Z (δ.set i (some (T.uU p (.sh .any) t0))) σ (u::ts) (w::vs):=by
 obtain⟨fp,gp,e,r,nd,k⟩:=S.rep;obtain⟨v1,e1,e2,e3,hv,g,rt,put,_⟩:=e.get hi;rw[ev]at hv;cases hv;obtain⟨m,f1,f2,d,at',hf,h,put2⟩:=rt.focus S.zh p j;have hw:=at'.inj f;subst hw;subst hf;subst g;have a:=put Qr Qda (put2 Qda (.sh (.any _)));rw[ig ev]at a;have pm:((e1++((f1++([]++d))++e3))++(f2++gp)).Perm ((e1++(QeS++e3))++gp):=wq.2 λc=>by simp[Hm,List.count_nil];lia
 exact⟨⟨_,_,a,.cons h r,pm.nodup_iff.2 nd,λc l=>k c (pm.mem_iff.1 l)⟩,S.bh,S.zz,S.zh,S.new,S.tp,S.tab⟩
section
variable{δ1:BB}{e e0 e2:Expr}{t1:T}{tl0:B2}{d:L3.D}{D:gA}{pos pa pb ps:Pos}{x c f:Str}{gP:Co}{fs:BS}
def ZK(X:Cx)(CL:BC)(b:Bx)(e:Expr)(δ:BB)(i:Nat)(p:QcN):Prop:=
 ∀(H Z:Hp) (σ:L2.St) (ts:B2) (vs:BY) (Q:VK),bH X.K CL b H Z δ σ ts vs->(∀v0 v H' Z',aB Z Z'->aB H H'->bH X.K CL b H' Z' δ σ ts vs->σ[i]? = some QcF->D8 H' v0 p v->Q v H')->HL X e σ H Q
def c6(n:QaY)(h:δ[i]? = some Qar):ZK X CL b Qav δ i []:=λH Z σ ts vs Q S k=>by
 obtain⟨v,hv,_⟩:=S.look h;exact cI QcV ⟨v,hv,k v v H Z Qr Qr S hv rfl⟩
def RZ(q:QdV)(n:QhR)(h:QfC)(hi:δ[i]? = some Qar)(o:T.nT p t=some Qbu)(m:fs.lookup f=some u)(x:AS X e f:=by rfl) :
  ZK X CL b Qfv δ i (p++[.fld f]):=λH Z σ ts vs Q S k=>
 cI (Q0 dQ x) (h H Z σ ts vs _ S λv0 v H' Z' z s l ev d=>by
  obtain⟨w,f2,at',r⟩:=l.Fn ev hi o;have:=at'.inj d;subst this;obtain⟨a,dx,gs,g,rfl,rfl,j,rs⟩:=r.HK;obtain⟨w,_,_,_,hw,_,_,_⟩:=dz.at fs rs m;exact⟨a,CL c,dx,gs,w,rfl,j,q,n,hw,k v0 w H' Z' z s l ev (d.snoc ⟨a,_,dx,gs,rfl,j,hw⟩)⟩)
def R1{z:Int}(h:QfC)(hi:δ[i]? = some Qar)(u:T.nT p t=some Qcw)(h2:dR X CL b e2 δ (.int z) δ)(c:HB tl.length z=some j)(q:qx e2:=by exactλ_ _=>rfl) :
  ZK X CL b (.Subscript e e2 pos) δ i (p++[.ix j]):=λH Z σ ts vs Q S k=>
 cI (EJ D3 dQ dQ q) (h H Z σ ts vs _ S λv0 v H' Z' m s1 x ev n=>h2 H' Z' σ ts vs _ x λv2 H2 Z2 l s2 f o=>by
  have at2:=n.mono s2;obtain⟨w,f2,at',r⟩:=f.Fn ev hi u;have:=at'.inj at2;subst this;obtain⟨a,us,g,rfl,rfl,d,rs⟩:=r.gV;have s:=(z9 c).2.1;obtain⟨w,_,_,_,hw,_,_,_⟩:=rs.at (ma s);refine⟨a,us,z,w,rfl,o.sc rfl,nS.of d,?_,k v0 w H2 Z2 (m.trans l) QhY f ev (at2.snoc ⟨a,us,rfl,.inl d,hw⟩)⟩;unfold wV;rw[← rs.length,c];exact hw)
def lU{z:Int}(h:QfC)(hi:δ[i]? = some Qar)(s:T.nT p t=some (.tup tl))(h2:dR X CL b e2 δ (.int z) δ)(d:HB tl.length z=some j)(o:qx e2:=by exactλ_ _=>rfl) :
  ZK X CL b (.Subscript e e2 pos) δ i (p++[.ix j]):=λH Z σ ts vs Q S k=>
 cI (EJ Q9 dQ dQ o) (h H Z σ ts vs _ S λv0 v H' Z' l s1 u ev m=>h2 H' Z' σ ts vs _ u λv2 H2 Z2 g s2 c n=>by
  have at2:=m.mono s2;obtain⟨w,f2,at',r⟩:=c.Fn ev hi s;have:=at'.inj at2;subst this;obtain⟨a,us,rfl,f,rs⟩:=r.Rf;have q:=(z9 d).2.1;obtain⟨w,_,_,_,hw,_,_,_⟩:=rs.at (ma q);refine⟨a,us,z,w,rfl,n.sc rfl,zY.of (c.zh _ _ f),?_,k v0 w H2 Z2 (l.trans g) QhY c ev (at2.snoc ⟨a,us,rfl,.inr (c.zh _ _ f),hw⟩)⟩;unfold wV;rw[← rs.length,d];exact hw)
def D9(h:QfC)(hi:δ[i]? = some Qar)(f:T.nT p t=some (.sh d)):cL X CL b e δ (.sh d) δ:=λH Z σ ts vs Q S k=>
 h H Z σ ts vs _ S λv0 v H' Z' z s a ev c=>by
  obtain⟨w,f2,at',r⟩:=a.Fn ev hi f;have:=at'.inj c;subst this;replace r:=r.KD;obtain⟨rfl,r⟩:=r;exact k _ H' Z' z s (a.push r)
noncomputable def jD(h:QfC)(hi:δ[i]? = some Qar)(c:T.nT p t=some u):cL X CL b e δ u (δ.set i (some (T.uU p (.sh .any) t))):=λH Z σ ts vs Q S k=>
 h H Z σ ts vs _ S λv0 v H' Z' z s d ev a=>k v H' Z' z s (d.aqd ev hi c a)
def abK(u:ZK X CL b e0 δ i p)(h0:δ[i]? = some Qbj)(d:T.nT p t0=some (.lst tl0))(h:QaL)(h1:δ1[i]? = some (some t1))(y:T.nT p t1=some Qcw)(s:tl.length<=1000000)(k:fh X CL b gP (δ1.set i (some (T.uU p QfI t1))) D)
  (o:attributeBase e0 "append" X.env (eval e0 X.env)=eval e0 X.env:=by rfl)
  (n:AB X pb e:=by rfl)
  (c:Qfl:=by rfl) (hs:Qad:=by exact bq rfl) (G:swapsWith QkB none pos.line X.env=pure false:=by rfl) :
  fh X CL b (.Expr QkB pos::gP) δ D:=cN λH Z σ ts vs E S M=>
 r9 (zZ (JB He PySem.F.slot_list_append PySem.F.type_list_append BR dQ QaF o n c hs rfl) G) (u H Z σ ts vs _ S λv0 v C z m s0 j ev g=>by
  obtain⟨w,f2,at',r⟩:=j.Fn ev h0 d;have:=at'.inj g;subst this;refine⟨?_,h C z σ ts vs _ j λv2 H1 Z1 l k1 B=>?_⟩
  .obtain⟨_,_,_,rfl,rfl,f,_⟩:=r.gV;exact .inl ⟨rfl,_,nS.of f⟩
  .obtain⟨a,us,x,f,q,A⟩:=B.agq ev h1 y (g.mono k1);exact⟨a,us,v2,x,rfl,f,by rw[q];exact ri s Wp,M.nx _ σ _ Z1 (m.trans l) A k⟩)
def B9{z:Int}(h:QaL)(u:ZK X CL b e0 δ1 i p)(h2:dR X CL b e2 δ1 (.int z) δ1)(h1:δ1[i]? = some (some t1))(y:T.nT p t1=some Qcw)(f:HB tl.length z=some j)(kk:fh X CL b gP (δ1.set i (some (T.uU p (.lst (tl.set j t)) t1))) D)
  (s:∀v,assign (.Subscript e0 e2 ps) X.env v=(do
   let I ← holding [v] (eval e0 X.env)
   let U ← holding [v,I] (eval e2 X.env)
   standAt ps
   holding [v,I,U] (setItem I U v)
   release [v,I,U] []):=by intro _;rfl)
  (hs:swapsWithSole [.Subscript e0 e2 ps] e pos.line X.env=pure false:=by rfl) (hw:swappedStores [.Subscript e0 e2 ps] e X.env=pure none:=by rfl) (c:(assignEach [.Subscript e0 e2 ps] X.env).map (·.2)=[assign (.Subscript e0 e2 ps) X.env]:=by rfl) :
  fh X CL b (.Assign [.Subscript e0 e2 ps] e pos::gP) δ D:=by
 refine cN λH Z σ ts vs E S M=>r9 (akC dQ (akB dQ dQ set_list s) hs hw c) (h H Z σ ts vs _ S λv H1 Z1 l k1 F=>?_);have r:=(z9 f).2.1;refine u H1 Z1 σ _ _ _ F λv0 w H2 Z2 k k2 C ev m=>h2 H2 Z2 σ _ _ _ C λv2 G Z3 g o B n=>?_;obtain⟨a,us,x,d,q,A⟩:=B.alZ ev h1 y (m.mono o) r;exact⟨a,us,z,j,x,n.sc rfl,d,q▸f,M.nx _ σ _ Z3 (l.trans (k.trans g)) A kk⟩
def abL{kj:Nat}{pc:Pos}(m:ZK X CL b e0 δ i p)(h:δ[i]? = some Qbj)(l:T.nT p t0=some (.lst (t::tl)))(j:attributeBase e0 "pop" X.env (eval e0 X.env)=eval e0 X.env:=by rfl)
  (g:((backTo pos (starEach [.Constant Qeh kj pc] X.env)).all QfT&&(backToKw pos Qfa).all Qfu&&decide ([Expr.Constant Qeh kj pc].length+([]:EO).length+Qfc<30))=true:=by rfl)
  (c:(pa.endLine==pos.line)=true:=by rfl) (hs:starEach [.Constant Qeh kj pc] X.env=(false,eval (.Constant Qeh kj pc) X.env)::starEach [] X.env:=by exact bq rfl) :
  mS X CL b (.Call (.Attribute e0 "pop" pa) [.Constant Qeh kj pc] [] pos) δ t (δ.set i (some (T.uU p Qcw t0))):=λH Z σ ts vs Q S k=>
 cI (JB He PySem.F.slot_list_pop PySem.F.type_list_pop aaz dQ (bZ ZX dW hs) j g c hs rfl) (m H Z σ ts vs _ S λv0 w s o e s0 r ev f=>by
  obtain⟨a,us,x,n,d,q⟩:=r.aqc ev h l f;subst n;refine⟨.inl ⟨rfl,_,.inl (.inl d)⟩,a,_,0,0,x,rfl,rfl,d,Wp,Wp,?_,rfl,?_⟩
  .unfold seqIndex?;simp
  .exact k x _ o e q)
end
theorem dz.none{m:Str}:∀{fs:BS} {gs:CA} {fp:BN},dz K CL H Z fs gs fp->fs.lookup m=none->gs.lookup m=none:=by
 intro fs
 induction fs with
 | nil=>intro gs fp r _;cases r;rfl
 | cons p fs a=>
  intro gs fp r h;cases r with
  | cons q r=>
   rw[mf]at h ⊢;split at h
   .cases h
   .exact a r h
section
variable{δ1:BB}{e o:Expr}{es:CU}{pos pp apos:Pos}{x c m:Str}{is:CO}{fx:BN->Prop}{al:BN->B2}{y:Addr}{fs:BS}{A:Type}{k n:Nat}{f:Addr}{fd:QaG}{ps:At}{arg:Qam}{Pre:Q1}{res:Qaa}{out:Qam}
theorem JS{H1 Z1:Hp}{al:B2}{ys:BN}{ns:B2}{Q:VK}{E:XK}(a:A)(j:arg a=al)(h:QbS)(x:Pre a)(e:res a=t)(f:yj QcM ys ns)(G:LH σ is ys)(F:∀i∈is,i<δ1.length)(y:us.length=al.length)
  (l:bH X.K CL b H1 Z1 δ1 σ (al.reverse++ts) QdJ) (kk:∀v H' Z',aB Z1 Z'->bH X.K CL b H' Z' (XW δ1 is ns) σ (t::ts) QaX->Q v H'):ph X.K CL n arg Pre res out us H1 Q E:=by
 obtain⟨g,r,nd,k⟩:=l.cut WF;obtain⟨g',m,pm⟩:=r.rev;have C:yR H1 g=yR H1 g':=funext λc=>by
  by_cases d:c∈g
  .rw[tQ d,tQ (pm.mem_iff.2 d)]
  .rw[kY d,kY (λz=>d (pm.mem_iff.1 z))]
 rw[C]at k;rw[← j]at m;refine⟨Z1,a,g',k.zh,l.tp,m,pm.nodup_iff.2 nd,h,x,l.Ri,λv H' W' fp B ww u nw tp rt D own=>?_⟩;cases rt with
 | @cons _ _ _ _ f1 f2 w o=>
  have p:(f2++(f1++[])).Perm (f1++f2):=by rw[j2];exact nt
  have s:=k.NI B ww u nw tp (aU.app o (.cons w .nil)) (p.nodup_iff.2 D) λc d=>own c (p.mem_iff.1 d);rw[jc,jc]at s;have q:=s.RY o.length G f F;rw[e]at q;exact kk v H' W' ww q
inductive Recv(δ:BB)(i:Nat)(c:Str)(fs:BS):(Addr->Prop)->Prop where
 | own:δ[i]? = some (some Qbu)->Recv δ i c fs (λ_=>True)
 | pin {y:Addr}:δ[i]? = some (some (.pin y Qbu))->Recv δ i c fs (λz=>z=y)
theorem bH.recv{g:Addr->Prop}(S:QiT)(h:Recv δ i c fs g):∃y dx gs,g y/\σ[i]? = some (some Qdw)/\H y=some QeB/\(∀m,fs.lookup m=none->gs.lookup m=none)/\bH X.K CL b H Z (δ.set i none) σ (.pin y Qbu::ts) (.ref y::vs):=by
 cases h with
 | own h=>
  obtain⟨v,e,k⟩:=S.move h;obtain⟨y,rfl,f⟩:=k.alP rfl;obtain⟨fp,gp,_,r,_,_⟩:=f.rep;cases r with
  | cons r _=>
   replace r:=r.Rg;obtain⟨a,r⟩:=r;cases a;obtain⟨_,_,_,_,a,d,j,rs⟩:=r.HK;cases a;cases d;exact⟨y,_,_,trivial,e,j,λm hm=>rs.none hm,f⟩
 | @pin y h=>
  obtain⟨v,e,f⟩:=S.move h;obtain⟨fp,gp,_,r,_,_⟩:=f.rep;cases r with
  | cons r _=>
   replace r:=r.Rg;obtain⟨rfl,r⟩:=r;obtain⟨_,_,_,_,a,d,j,rs⟩:=r.HK;cases a;cases d;exact⟨y,_,_,rfl,e,j,λm hm=>rs.none hm,f⟩
theorem abM{pl:QcL}{g:Addr->Prop}(a:Addr->BN->A)(ns:B2)(L:QdV)(hm:Meth X.K (CL c) m f)(F:Qku)(s:QbA)(B:Qc3)
  (nm:QaY) (hi:Recv δ i c fs g) (hf:QeF) (h:o1 X CL b Qab (δ.set i none) is fx al δ1)
  (C:∀y ys,g y->ys.length=is.length->fx ys->arg (a y ys)=.pin y Qbu::al ys/\(arg (a y ys)).length=n/\Pre (a y ys)/\res (a y ys)=t/\yj (out (a y ys)) (y::ys) ns) (O:∀j∈i::is,j<δ1.length)
  (he:Qaf:=by exact bq rfl) (hpl:Qaw:=by rfl)
  (r:eval Qem X.env=(do
   let I ← eval QaA X.env
   standAt apos.atName
   let (f,first) ← holding [I] QdM
   callWith pos f first (backTo pos QcX) Qbp):=by rfl) :
  mS X CL b Qem δ t (XW δ1 (i::is) ns):=λH Z σ ts vs Q S kk=>by
 obtain⟨y,dx,gs,q,ev,D,u,M⟩:=S.recv hi;refine cI (Vf (kP nm.hi nm.hv nm.hd nm.kN) L hm F s B .nil u9 HM he hpl r) ⟨_,ev,y,dx,gs,rfl,D,u m hf,h H Z σ _ _ _ M λys us H1 Z1 d P o l p k1 R=>?_⟩;obtain⟨h1,h2,J,G,E⟩:=C y ys q d o;refine JS (is:=i::is) _ h1 h2 J G E ⟨ev,P⟩ O (by simp[l]) ?_ λv H' Z' z N=>kk v H' Z' (p.trans z) N;simp_all
structure LG(X:Cx)(CL:BC)(c m:Str)(k n:Nat){A:Type}(arg:Qam)(Pre:Q1)(res:Qaa)(out:Qam):Prop where
 ex:∃f fd ps,Meth X.K (CL c) m f/\fj X.prog X.w X.K X.mg X.base lR k f fd ps Qgx/\Binds X.K fd ps []
 room:eG k X.A
 cls:jJ X.K (CL c)
theorem qM{pl:QcL}{g:Addr->Prop}{dl:BA}(a:Addr->A)(l:T)(F:LG X CL c m k n arg Pre res out)(nm:QaY)(hi:Recv δ i c fs g)(h:KL X CL b Qab (δ.set i none) (dl.map T.sh) δ1)(q:∀y,g y->Pre (a y))(C:∀y,g y->res (a y)=t)(B:∀y,g y->yj (out (a y)) [y] [l])
  (hf:QeF:=by rfl) (w:∀y,g y->arg (a y)=.pin y Qbu::dl.map T.sh:=by intros;rfl) (hlen:∀y,(arg (a y)).length=n:=by intros;rfl) (E:QbB:=by exact jj rfl)
  (he:Qaf:=by exact bq rfl) (hpl:Qaw:=by rfl)
  (p:eval Qem X.env=(do
   let I ← eval QaA X.env
   standAt apos.atName
   let (f,first) ← holding [I] QdM
   callWith pos f first (backTo pos QcX) Qbp):=by rfl) :
  mS X CL b Qem δ t (δ1.set i (some l)):=by
 obtain⟨⟨f,fd,ps,M,G,bd⟩,r,u⟩:=F;have h':o1 X CL b _ _ [] (λ_=>True) (λ_=>dl.map T.sh) δ1:=λH Z σ ts vs Q S k=>h H Z σ ts vs Q S λus H' Z' o z s v=>k [] us H' Z' rfl trivial trivial o z s v;exact abM (λy _=>a y) [l] u M G r bd nm hi hf h' (λy ys d o _=>by
  cases List.length_eq_zero_iff.1 o;exact⟨w y d,hlen y,q y d,C y d,B y d⟩) (λj D=>by simp_all) he hpl p
end
end L3
namespace L2
open PySem PySem.Spec PyProof.Rows
section
variable{X:Cx}{CX:ZE}{k:Nat}{f C:Addr}{fd:QaG}{ps:At}{sp:Sp}{D0:BY}{ds:B1}{E:XK}{x m:Str}{p pos apos:Pos}{e:Expr}{es:CU}{t:TA}
structure TK(K:Frag)(C:Addr)(m:Str)(f:Addr):Prop where
 ga:specialIn K QaI "__getattribute__" = some QkD
 rd:readsIn K C QhP=true
 fnd:findCls K QaI QhP m=some (.val Q3)
 kp:keepIn K Q3=true
def abN{pl:QcL}(a:TK X.K C m f)(F:QcP)(q:QbA)(y:Qao)(b:X.mg x=some QaI)(z:Qc2)(hd:Qdo)(n:Qdd)(B:Qd0)
  (g:AD x:=by decide) (l:Qaf:=by rfl) (hpl:Qaw:=by rfl)
  (o:eval Qki X.env=(do
   let U ← eval (.Name x p) X.env
   standAt apos.atName
   let (f,first) ← holding [U] Qhy
   callWith pos f first (backTo pos QcX) Qbp):=by rfl) :
  PE X Qki (NM sp D0 E t):=by
 intro pins s σ H Q I h;refine KI (fY (Ku (v:=.ref C) y b rfl g pins s σ H (λv H1=>v=.ref C/\H1=H) I ⟨rfl,rfl⟩) λu s1 ⟨x,H1,c,i,ex,D⟩=>?_) o;subst ex;subst D;obtain rfl:u=Value.ref C:=i;refine PySem.W.method_cls c.Nt a.ga (PySem.W.cls_value c.Nt a.rd a.fnd rfl ?_);have G:=c.tok (s1.toks+1);refine Ki I.ok.mod.xt a.kp (fY (B pos pins _ σ H1 _ G h) λus s2 ⟨vs,H2,d,r,j⟩=>⟨d.Nt,?_⟩) l hpl;exact EH F q z hd n d r j
end
end L2
namespace L3
open PySem PySem.Spec PyProof.Rows L2
section
variable{X:Cx}{CL:BC}{b:Bx}{δ δ1:BB}{e:Expr}{es:CU}{t:T}{pos pp apos:Pos}{i:Nat}{x m:Str}{is:CO}{fx:BN->Prop}{al:BN->B2}{y:Addr}{A:Type}{k n:Nat}{arg:Qam}{Pre:Q1}{res:Qaa}{out:Qam}
structure FkM(X:Cx)(CL:BC)(x m:Str)(k n:Nat){A:Type}(arg:Qam)(Pre:Q1)(res:Qaa)(out:Qam):Prop where
 ex:∃f fd ps,TK X.K (CL x) m f/\fj X.prog X.w X.K X.mg X.base lR k f fd ps Qgx/\X.mg x=some (.ref (CL x))/\Binds X.K fd ps []
 room:eG k X.A
theorem kM1{pl:QcL}(a:Addr->A)(o:T)(F:FkM X CL x m k n arg Pre res out)(w:Qao)(h:o1 X CL b Qab δ [i] fx al δ1)(u:∀y,fx [y]->Pre (a y))(J:∀y,fx [y]->res (a y)=t)(E:∀y,fx [y]->yj (out (a y)) [y] [o])
  (D:∀y,fx [y]->arg (a y)=al [y]:=by intros;rfl) (hlen:∀y,(arg (a y)).length=n:=by intros;rfl) (L:QbB:=by exact jj rfl)
  (q:AD x:=by decide) (he:Qaf:=by exact bq rfl) (hpl:Qaw:=by rfl)
  (s:eval Qem X.env=(do
   let I ← eval QaA X.env
   standAt apos.atName
   let (f,first) ← holding [I] QdM
   callWith pos f first (backTo pos QcX) Qbp):=by rfl) :
  mS X CL b Qem δ t (δ1.set i (some o)):=λH Z σ ts vs Q S kk=>by
 obtain⟨⟨f,fd,ps,C,G,mg,bd⟩,r⟩:=F;refine cI (abN C G r w mg bd .nil u9 HM q he hpl s) (h H Z σ ts vs _ S λys us H1 Z1 d l hf c p k1 g=>?_);rw[j2]
 match ys,d,hf,l,g,c with
 | [y],_,hf,l,g,c=>exact JS _ (D y hf) (hlen y) (u y hf) (J y hf) (E y hf) l (λj K=>by simp_all) c g λv H' Z' z B=>kk v H' Z' (p.trans z) B
end
theorem nh.none{K:Frag}{CL:BC}{Z:Hp}{m:Str}:∀{fs:Db} {gs:CA},nh K CL Z fs gs->fs.lookup m=none->gs.lookup m=none:=by
 intro fs
 induction fs with
 | nil=>intro gs r _;cases r;rfl
 | cons p fs a=>
  intro gs r h;cases r with
  | cons q r=>
   rw[mf]at h ⊢;split at h
   .cases h
   .exact a r h
section
abbrev _root_.EU:=List (Str×L3.D)
variable{X:Cx}{CL:BC}{b:Bx}{δ δ1 δ2:BB}{e e1 e2 o:Expr}{es:CU}{pos apos pos':Pos}{i:Nat}{x c m:Str}{fs:EU}{ds:BA}{D:gA}{gP:Co}{A:Type}{k n:Nat}{arg:Qak}{Pre:Q1}{res:Qaa}
def q_{pl:QcL}(a:A)(F:Fq X CL c m k n arg Pre res)(i:QgP)(hf:QeF)(h:Xo X CL b Qab δ1 ds δ2)(q:arg a=.ins c fs::ds)(g:Pre a)(l:QdO)(j:QbS:=by rfl)
  (he:Qaf:=by exact bq rfl) (hpl:Qaw:=by rfl)
  (d:eval Qer X.env=(do
   let I ← eval o X.env
   standAt apos.atName
   let (f,first) ← holding [I] QdM
   callWith pos f first (backTo pos QcX) Qbp):=by rfl) :
  cL X CL b Qer δ (res a) δ2:=by
 obtain⟨⟨f,fd,ps,M,G,bd⟩,r,p⟩:=F;exact afW a p M G r bd i hf h q j g l he hpl d
def q0_{pl:QcL}(a:A)(F:Fq X CL c m k n arg Pre res)(g:QgP)(hf:QeF)(l:arg a=[.ins c fs])(e:Pre a)(i:QdO)(h:QbS:=by rfl)
  (d:eval Qeu X.env=(do
   let I ← eval o X.env
   standAt apos.atName
   let (f,first) ← holding [I] QdM
   callWith pos f first (backTo pos Qfx) Qbp):=by rfl) :
  cL X CL b Qeu δ (res a) δ1:=by
 obtain⟨⟨f,fd,ps,M,G,bd⟩,r,j⟩:=F;exact aa1 a j M G r bd g (λq=>q.none hf) l h e i d
theorem al1{z w:Int}(g:Gx X)(nm:QbT)(d:δ[i]? = some (some (.sh (.int z))))(h:dR X CL b e δ (.int w) δ)(k:fh X CL b gP (δ.set i (some (.sh (.int (z+w))))) D) :
  fh X CL b (.AugAssign QdB .Add e pos::gP) δ D:=cN λH Z σ ts vs E S M=>
 r9 (akD g.nd nm.hi nm.loc dQ akE nm.hf) (by
  obtain⟨v,hv,r⟩:=S.Vm d;cases r;refine⟨_,hv,h H Z σ ts vs _ S λv2 H1 Z1 a k1 j c=>?_⟩;cases c;have f:i<δ.length:=by
   obtain h|h:=Nat.lt_or_ge i _
   .exact h
   simp_all
  exact⟨z,w,rfl,rfl,M.nx _ _ H1 Z1 a ((j.push Qbx).set f) k⟩)
theorem agr{Xv:BA}(h1:cL X CL b e1 δ (.lst Qa7) δ1)(h2:mS X CL b e2 δ1 (.lst (Xv.map T.sh)) δ2)(hz:ds.length+Xv.length<=sizeLine) :
  mS X CL b Qev δ (.lst ((ds++Xv).map T.sh)) δ2:=λH Z σ ts vs Q S k=>
 cI (NT Vv dQ dQ) (h1 H Z σ ts vs _ S λv1 H1 Z1 i k1 s=>h2 H1 Z1 σ _ _ _ s λv2 H2 Z2 h g=>by
  obtain⟨fp,gp,_,r,_,_⟩:=g.rep;cases r with
  | cons m r=>
   cases r with
   | cons n _=>
    obtain⟨a2,j,g2,rfl,rfl,e,a⟩:=m.gV;obtain⟨a1,l,g1,rfl,rfl,f,d⟩:=n.gV;have f1:=(aU.toF d).1;have f2:=(aU.toF a).1;refine⟨_,_,_,_,rfl,rfl,nS.of f,nS.of e,by rw[← f1.length,← f2.length];exact hz,λp o=>?_⟩;have rc:=ay.app f1 f2;obtain⟨c,q⟩:=(bH.oA rc g.pop.pop).j8 (g0:=[]) (by simp[f1.length,f2.length]) o;exact k _ _ _ (i.trans h) q)
end
theorem nU{p:T}{δ:BB}{ds:BA}:Keeps (some p::δ) (p::ds.map T.sh):=λj y t h=>by
 cases j with
 | zero=>cases h;rfl
 | succ j=>
  simp_all
end L3
namespace L2
open PySem PySem.Spec PyProof.Rows
noncomputable def oJ{α:Type}(xs:QR)(lo hi st:Ch):List α:=
 (sliceRange (sliceBounds lo hi st xs.length).1 (sliceBounds lo hi st xs.length).2.1 (sliceBounds lo hi st xs.length).2.2).filterMap (xs[·]?)
theorem JT(its:B1)(lo hi st:Ch):slicePick its.toArray lo hi st=(oJ its lo hi st).toArray:=by
 unfold slicePick oJ;simp_all
theorem abO{α:Type}(f:α->Value)(xs:QR)(lo hi st:Ch):(oJ xs lo hi st).length<=xs.length:=by
 have h:=slicePick_size_le (xs.map f).toArray lo hi st;rw[JT]at h;have e:(oJ (xs.map f) lo hi st)=(oJ xs lo hi st).map f:=by
  unfold oJ;rw[List.map_filterMap];simp_all
 simp_all
theorem Vals.oJ{xs:BY}{us:B1}(r:Qdn)(lo hi st:Ch):Vals (oJ xs lo hi st) (oJ us lo hi st):=by
 unfold L2.oJ;rw[r.length];generalize sliceRange _ _ _=l
 induction l with
 | nil=>exact .nil
 | cons i l b=>
  rw[nH,nH];cases e:xs[i]? with
  | none=>
   have e2:us[i]? = none:=v3 (by
    have:=r.length;simp_all)
   simp_all
  | some x=>
   obtain⟨u,e2,a⟩:=r.get e;rw[e2];exact .cons a b
variable{X:Cx}{e st:Expr}{lo hi:Qd2}{te:TE}{tl th tk:TO}{pos p2:Pos}
theorem Ye(he:QbQ)(E:PO X lo tl)(D:PO X hi th)(F:PO X (some st) tk):PE X QkA (λσ H Q=>te σ H λx H1=>tl σ H1 λl H2=>th σ H2 λu g=>tk σ g λk c=>∃a xs,x=.ref a/\nS X.K c a xs/\k≠some 0/\∀p,c p=none->Q Qdv (upd c p (.lst (oJ xs l u k)))):=by
 intro pins s σ H Q I h;refine Subscript_ (fY QbE λv s1 ⟨x,H1,N,o,z⟩=>?_);refine wpAny_Slice (fY (E pins s1 σ H1 _ N z) λm s2 ⟨l,H2,M,pl,y⟩=>fY (D pins s2 σ H2 _ M y) λj s3 ⟨u,g,L,pu,w⟩=>fY (F pins s3 σ g _ L w) λn s4 ⟨k,c,J,A,t⟩=>?_);obtain⟨a,xs,rfl,C,d,q⟩:=t;cases o;have f:Inv X pins σ c {s4 with heap:=s4.heap.push {cls:=.type "slice",data:=.fields #[m,j,n]}}:=J.kept λb B q=>kx _ q;obtain⟨its,r,i,hz⟩:=f.list C;have hlen:=r.length;refine tail_any i.isList.typeIs slot_list_getitem.lookup ?_ (rfl);refine wpAny_getItem_list_slice i.isList (Heap.IsSliceOf.new ..) pl pu A d ?_ WF;rw[JT];have G:=abO (λ_=>Value.none) xs l u k;refine⟨.ref _,_,f.laid (λb B q=>kx _ q) (gZ _) ?_,rfl,q _ (f.fQ.fresh (gZ _))⟩;exact⟨kv G hz,_,0,r.oJ l u k,mv _ rfl⟩
end L2
namespace L3
open PySem PySem.Spec PyProof.Rows L2
theorem abP{α β:Type}{f:α->β}{l:QR}{lo hi st:Ch}:oJ Qdr lo hi st=(oJ l lo hi st).map f:=by
 unfold oJ;rw[List.map_filterMap];simp_all
variable{X:Cx}{CL:BC}{b:Bx}{δ δ1 δ2 δ3 δ4:BB}{e st:Expr}{lo hi:Qd2}{l u k:Ch}{ds:BA}{pos p2:Pos}
theorem ay.oJ{K:Frag}{Z:Hp}{us:BY}(r:QfP)(lo hi st:Ch):ay K CL Z (oJ ds lo hi st) (oJ us lo hi st):=by
 unfold L2.oJ;rw[r.length];generalize sliceRange _ _ _=l
 induction l with
 | nil=>exact .nil
 | cons i l b=>
  rw[nH,nH];cases e:ds[i]? with
  | none=>
   have e2:us[i]? = none:=v3 (by
    have:=r.length;simp_all)
   simp_all
  | some x=>
   obtain⟨u,e2,a⟩:=r.get e;rw[e2];exact .cons a b
def Yg(h1:Qck)(g:QbR)(h2:wM X CL b lo δ1 l δ2)(C:wM X CL b hi δ2 u δ3)(B:wM X CL b (some st) δ3 k δ4)(A:k≠some 0) :
  cL X CL b QkA δ (.lst ((oJ ds l u k).map T.sh)) δ4:=by
 intro H Z σ ts vs Q S kk;obtain⟨t2,f,w⟩:=h2;obtain⟨t3,d,t⟩:=C;obtain⟨K,a,s⟩:=B;refine cI (Ye dQ f d a) (h1 H Z σ ts vs _ S λv H1 Z1 q k1 I r=>w H1 Z1 σ ts vs _ I λH2 Z2 o k2 G=>t H2 Z2 σ ts vs _ G λJ Z3 n i F=>s J Z3 σ ts vs _ F λM L m h j=>?_);have r:=r.mono (k2.trans (i.trans h));obtain⟨_,_,rfl,y,x⟩:=r.gV;refine⟨_,_,rfl,y,A,λp z=>?_⟩;have rc:=(ay.tG j.tp g x).oJ l u k;obtain⟨c,E⟩:=(bH.oA rc j).j8 (g0:=[]) (by simp[rc.length]) z;exact kk _ _ _ (q.trans (o.trans (n.trans m))) (k1.trans (k2.trans (i.trans (h.trans c)))) E
section
variable{p q:Bool}{D:gA}{gP a c:Co}
def HC(X:Cx)(CL:BC)(b:Bx)(e:Expr)(δ:BB)(p:Bool)(δ':BB):Prop:=
 ∀(H Z:Hp) (σ:L2.St) (ts:B2) (vs:BY) (Q:Dx),bH X.K CL b H Z δ σ ts vs->(∀H' Z',aB Z Z'->bH X.K CL b H' Z' δ' σ ts vs->Q p H')->FF X e σ H Q
def Ll(X:Cx)(CL:BC)(b:Bx)(e:Expr)(δ:BB)(p:Bool)(δ':BB):Prop:=
 ∀(H Z:Hp) (σ:L2.St) (ts:B2) (vs:BY) (Q:Dx),bH X.K CL b H Z δ σ ts vs->(∀H' Z',aB Z Z'->bH X.K CL b H' Z' δ' σ ts vs->Q p H')->JI X e σ H Q
def Yh(h:QbW)(a:p=q):wX X CL b e δ q δ1:=a▸h
noncomputable def aqg(h:Ll X CL b e δ p δ1):HC X CL b e δ p δ1:=λH Z σ ts vs Q S k pins s I=>h H Z σ ts vs Q S k _ pins s I
theorem al2(h:QjK)(h1:p=true->fh X CL b a δ1 D)(h2:p=false->fh X CL b c δ1 D):Rl X CL b (.If e a c pos) δ D:=λH Z σ ts vs E S M=>
 r9 (S3 og ZG ZG) (h H Z σ ts vs _ S λH1 Z1 d f=>by
  cases p with
  | true=>exact N4 (h1 rfl H1 Z1 σ ts vs E f (M.mono d))
  | false=>exact Rb (h2 rfl H1 Z1 σ ts vs E f (M.mono d)))
def aqh(h:QjK)(h1:p=true->fh X CL b a δ1 {D with nx:=λδ2=>fh X CL b gP δ2 D})(h2:p=false->fh X CL b c δ1 {D with nx:=λδ2=>fh X CL b gP δ2 D}):fh X CL b (.If e a c pos::gP) δ D:=cN (al2 h h1 h2)
end
def Me{α:Type}:Nat->(List α->Prop)->Prop
 | 0,P=>P []
 | n+1,P=>∀a,Me n λr=>P (a::r)
variable{n:Nat}
def lV{α:Type}{P:List α->Prop}(h:Me n P):∀us:List α,us.length=n->P us:=by
 intro us b
 induction us generalizing n P with
 | nil=>subst b;exact h
 | cons a r c=>subst b;exact c (h a) rfl
abbrev InG(K:Frag)(x:Str)(f:Addr):Prop:=nsIn K mainGlobals x=some Qdg
structure FG(N P G:At)(sc:Scope):Prop extends cU N P sc where
 lc:QkE=true
 gb:Qkf=true
def fG{N P G:At}{sc:Scope}(h:cU N P sc:=by exact jC)(lc:QkE=true:=by decide +kernel)(gb:Qkf=true:=by decide +kernel):FG N P G sc:=⟨h,lc,gb⟩
variable{i:Nat}{x:Str}{N P G:At}
def gL(c:FG N P G X.env.scope)(j:Nat)(a:N[j]? = some x:=by rfl)(hi:X.N[i]? = some x:=by rfl)(hf:X.fn x=true:=by rfl)(hd:AD x:=by decide)(b:AE x:=by decide):Ln X i x:=OW hi (eq_of_beq (wd.1 c.lc _ (l6 a))) hf hd b
def gG(c:FG N P G X.env.scope)(j:Nat)(a:G[j]? = some x:=by rfl):Gl X x:=eq_of_beq (wd.1 c.gb _ (l6 a))
variable{e1 e2:Expr}{es:CU}{t:T}{d d1 d2:L3.D}{tl:B2}{pp:Pos}
def y3(X:Cx)(CL:BC)(b:Bx)(es:CU)(δ:BB)(tl:B2)(δ':BB):Prop:=
 ∀(H Z:Hp) (σ:L2.St) (ts:B2) (vs:BY) (Q:EN),bH X.K CL b H Z δ σ ts vs →
  (∀us H' Z',us.length=tl.length->aB Z Z'->bH X.K CL b H' Z' δ' σ (tl.reverse++ts) QdJ->Q us H')->Rh X es σ H Q
theorem KL.m(h:Qji):y3 X CL b es δ tl δ1:=λH Z σ ts vs Q S k=>h H Z σ ts vs Q S λv H' Z' l z _ a=>k v H' Z' l z a
def tS:y3 X CL b [] δ [] δ:=bA.m
theorem fJ(h1:QbX)(h2:y3 X CL b es δ1 tl δ2)(hs:Qaf:=by exact bq rfl):y3 X CL b Qab δ (t::tl) δ2:=λH Z σ ts vs Q S k=>
 HP (bZ dQ HM hs) (h1 H Z σ ts vs _ S λv H1 Z1 c f=>h2 H1 Z1 σ _ _ _ f λus H2 Z2 d a g=>k _ H2 Z2 (by simp[d]) Qb4 WE)
def La{op:Operator}{r:R2}{e c w:V}(l:QjH)(h1:mS X CL b e1 δ (.sh d1) δ1)(h2:mS X CL b e2 δ1 (.sh d2) δ2)(s1:pj d1=some e)(s2:pj d2=some c)(s3:pj d=some w)
  (j:∀(H:Hp) (Q:VK),Q w H->r e c H Q):mS X CL b (.BinOp e1 op e2 pos) δ (.sh d) δ2:=λH Z σ ts vs Q S k=>by
 refine cI (NT l dQ dQ) (h1 H Z σ ts vs _ S λv1 H1 Z1 g m=>h2 H1 Z1 σ _ _ _ m λv2 H2 Z2 f a=>?_);have h:=a.view;have i:=a.pop.view;rw[i.sc s1,h.sc s2];exact j H2 Q (k w H2 Z2 (g.trans f) (a.pop.pop.push (Vp s3)))
noncomputable def Ea{i j:Int}(h1:Qiz)(h2:mS X CL b e2 δ1 QcZ δ2):mS X CL b Qev δ (.sh (.int (i+j))) δ2:=La aaf h1 h2 rfl rfl rfl λ_ _ q=>⟨i,j,rfl,rfl,q⟩
noncomputable def Eb{i j:Int}(h1:Qiz)(h2:mS X CL b e2 δ1 QcZ δ2):mS X CL b (.BinOp e1 .Sub e2 pos) δ (.sh (.int (i-j))) δ2:=La aag h1 h2 rfl rfl rfl λ_ _ q=>⟨i,j,rfl,rfl,q⟩
noncomputable def abQ{y:Str}(h1:mS X CL b e1 δ (.sh Qbc) δ1)(h2:mS X CL b e2 δ1 (.sh (.str y)) δ2)(c:x.length+y.length<=sizeLine):mS X CL b Qev δ (.sh (.str (x++y))) δ2:=La EG h1 h2 rfl rfl rfl λ_ _ q=>⟨x,y,rfl,rfl,c,q⟩
def ags(h:QbX):mS X CL b e δ (.sh t.gT) δ1:=λH Z σ ts vs Q S k=>h H Z σ ts vs Q S λv H1 Z1 c f=>by
 obtain⟨Z2,a,d⟩:=f.KH;exact k v H1 Z2 Qb4 d
def agt{j:Nat}(h:y3 X CL b es δ tl δ1)(g:tl.length<=sizeLine):mS X CL b QhD δ (.tup tl) δ1:=λH Z σ ts vs Q S k=>
 cI (aal HM) (h H Z σ ts vs _ S λus H1 Z1 d e l=>⟨ d▸g,λp f=>by
  obtain⟨a,c,i⟩:=l.KP d f;exact k _ _ _ (e.trans a) i⟩)
theorem pR{j:Nat}(h:y3 X CL b es δ (ds.map T.sh) δ1)(a:QbG):mS X CL b QhD δ (.sh Qb6) δ1:=by
 have:=ags (agt (pos:=pos) (j:=j) h WE)
 rwa [T.gT,mQ]at this
def xj{k:Int}(h1:mS X CL b e1 δ (.sh Qdq) δ1)(h2:mS X CL b e2 δ1 QeI δ2)(j:QeT)(hs:qx e2:=by exactλ_ _=>rfl):mS X CL b Qfq δ (.sh d) δ2:=λH Z σ ts vs Q S kk=>
 cI (EJ D3 dQ dQ hs) (h1 H Z σ ts vs _ S λv1 H1 Z1 e l=>h2 H1 Z1 σ _ _ _ l λv2 H2 Z2 c a=>by
  have h:=a.view;obtain⟨fp,gp,_,r,_,_⟩:=a.pop.rep;cases r with
  | cons r _=>
   replace r:=r.KD;obtain⟨rfl,r⟩:=r;obtain⟨_,_,rfl,i,g⟩:=r.gV;obtain⟨v,hv,f⟩:=Ad g j;exact⟨_,_,k,v,rfl,h.sc rfl,a.zh.seq i,hv,kk v H2 Z2 Qf5 (a.pop.pop.push f)⟩)
def abR{i:Int}(hm:X.mg "str" = none)(d:Gl X "str")(h:mS X CL b e δ (.sh QaQ) δ1)(hi:i.natAbs.log2<1920)(hs:Qad:=by exact bq rfl) :
  mS X CL b Qla δ (.sh Qjs) δ1:=λH Z σ ts vs Q S k=>
 cI (kC z8 d hm boot_str QaF (he:=hs)) (h H Z σ ts vs _ S λv H1 Z1 c a=>by
  have r:=a.view;rw[r.sc rfl];exact⟨i,rfl,hi,k _ H1 Z1 c (a.pop.push (.str _))⟩)
def tf{A:Type}{k:Nat}{y:Addr}{al:BN->B2}{arg:Qam}{Pre:Q1}{res:Qaa}{out:Qam}(a:A)(c:T)(F:QiK)(g:Qao)(h:o1 X CL b Qab δ [i] (λys=>ys.headD 0=y/\True) al δ1)(f:Pre a)(m:res a=t)(l:yj QcM [y] [c])
  (j:arg a=al [y]:=by rfl) (hlen:QbS:=by rfl) (o:QbB:=by exact jj rfl)
  (d:AD x:=by decide) (he:Qaf:=by exact bq rfl) (hpl:Qaw:=by rfl) :
  mS X CL b Qbs δ t (δ1.set i (some c)):=
 cM1 _ c F g h (λ_ _=>f) (λ_ _=>m) (λz hz=>(show z=y from hz.1)▸l) (λz hz=>(show z=y from hz.1)▸j) (λ_=>hlen) o d he hpl
def Au(δ:BB)(ix:CO)(i:Nat)(t:T):BB:=ix.map λk=>if k=i then some t else vb δ[k]?
variable{K:Frag}{H H' Z Z':Hp}{σ:L2.St}{ts:B2}{vs:BY}{v:V}{fp:BN}{d:D}
def abS{ix:CO}(h:i∉ix):Au δ ix i t=BX δ ix:=nz λk a=>cq λ(e:k=i)=>h (e▸a)
theorem agu{o:Option ES}{w:Qcv}{r:BB}{σ':L2.St}(S:Qap)(zz:Qbm)(k:Nat)(a:fZ K CL H' Z' r σ' fp):fZ K CL H' Z' (vb δ[k]?::r) ((σ[k]?).getD none::σ') fp:=by
 cases e:δ[k]? with
 | none=>exact .skip a
 | some o=>
  cases o with
  | none=>exact .skip a
  | some t=>
   cases t with
   | sh d=>
    obtain⟨v,hv,c⟩:=S.Vm e;rw[hv];exact fZ.cons (fp:=[]) (.sh (c.mono zz)) a
   | _=>exact .skip a
theorem OS(S:Qap)(zz:Qbm)(hv:σ[i]? = some Qay)(rt:bL K CL H' Z' t v fp):∀{ix:CO},i∈ix->ix.Nodup->fZ K CL H' Z' (Au δ ix i t) (ix.map λk=>(σ[k]?).getD none) fp
 | [],h,_=>absurd h kA
 | k::r,h,nd=>by
  have nd:=nP.1 nd;show fZ K CL H' Z' ((if k=i then some t else vb δ[k]?)::Au δ r i t) (((σ[k]?).getD none)::r.map λk=>(σ[k]?).getD none) fp;by_cases e:k=i
  .subst e;rw[di rfl,hv,abS nd.1];have q:fZ K CL H' Z' (BX δ r) (r.map λk=>(σ[k]?).getD none) []:=(EW S r H').mono zz λa c=>absurd c kA;have:=fZ.cons (δ:=BX δ r) rt q
   rwa [j2]at this
  .rw[cq e];exact agu (o:=none) (w:=none) S zz k (OS S zz hv rt ((fV.1 h).resolve_left λz=>e z.symm) nd.2)
theorem Fe(hv:σ[i]? = some Qay):∀{ix:CO} {fp:BN},i∈ix->fZ K CL H Z (Au δ ix i t) (ix.map λk=>(σ[k]?).getD none) fp->∃a,bL K CL H Z t v a/\a.Sublist fp
 | [],_,h,_=>absurd h kA
 | k::r,fp,h,q=>by
  have q:fZ K CL H Z ((if k=i then some t else vb δ[k]?)::Au δ r i t) (((σ[k]?).getD none)::r.map λk=>(σ[k]?).getD none) fp:=q;by_cases e:k=i
  .subst e;rw[di rfl,hv]at q;cases q with
   | cons rt _=>exact⟨_,rt,NY _ _⟩
  .rw[cq e]at q;have hm:=(fV.1 h).resolve_left λz=>e z.symm;generalize vb δ[k]? = o at q;generalize (σ[k]?).getD none=w at q;cases q with
   | skip q=>exact Fe hv hm q
   | cons _ b=>
    obtain⟨a,h1,h2⟩:=Fe hv hm b;exact⟨a,h1,h2.trans (uu _ _)⟩
theorem bH.al4{D:Addr}(S:bH K CL b H Z δ σ (.sh d::.lst tl::ts) (v::.ref D::vs)):∃us,H D=some QcE/\us.length=tl.length/\bH K CL b (upd H D (.lst (us++[v]))) Z δ σ (.lst (tl++[.sh d])::ts) Qdj:=by
 obtain⟨fp,gp,e,r,nd,k⟩:=S.rep;cases r with
 | cons n h=>
  obtain⟨rfl,rd⟩:=n.KD;cases h with
  | cons h m=>
   obtain⟨a,us,g,j,i,o,rs⟩:=h.gV;cases j;cases i;rename_i l;rw[nN]at nd k;have pm:(fp++((D::g)++l)).Perm (D::(fp++(g++l))):=by
    rw[mT];exact List.perm_middle
   have ne:∀c∈fp++(g++l),c≠D:=λc f z=>by
    subst z;exact(nP.1 (pm.nodup_iff.1 nd)).1 f
   refine⟨us,o,rs.length.symm,S.Rr rfl k WA (e.mono Qr λc f=>au (ne c (by simp[f]))) (.cons (.lst aW (aU.app (rs.mono Qr λc f=>au (ne c (by simp[f]))) (.cons (.sh rd) .nil))) (m.mono Qr λc f=>au (ne c (by simp[f])))) ?_ λc f=>?_⟩
   .simpa using nd
   .simpa using f
variable{scope:Scope}{Nc:At}{ix:CO}{elt:Expr}{px pr pc:Pos}{y:Addr}
theorem abT(t:Nat->T)(d:Nat->L3.D)(sc:QeC)(a:QaK)(hm:Qc8)(hg:Qdi)(h:QiC)(hn:n<=1000)(hi:δ1[i]? = some Qjj)(VH:i∈ix)(aa:ix.Nodup)
  (inner:∀C s0 H0 f0 b' (j:Nat),j<n->mS QgY CL b' elt Qik (.sh (d j)) Qie)
  (nQ:Qgy) (HQ:Qad)
  {RR:Qil} {pins:BM} {s:Qb} (S:QiT) (I:Qbb)
  (fin:∀D C s' H' Z',(∃m,s'.heap.Ns C m)->(∃o,s'.heap.get? C=some o/\∀v,o.data ≠ .cell v)->H' C=none->(C≠X.env.locals/\C∉X.fs/\X.j1.heap.objs.size<=C/\(∀y c,X.env.cells.lookup y=some c->c≠C)/\∀q∈X.pn++pins,q.1≠C)->(∀h',Heap.SameBut C s'.heap h'->L2.Inv X pins σ H' {s' with heap:=h'})->aB Z Z'->bH X.K CL b H' Z' (δ1.set i Qhi) σ (.lst ((List.range n).map λj=>T.sh (d j))::ts) Qdj->RR Qeg C (.ok .next) s') :
  wpAny Qu X.A (eval Qfn X.env) (λv p=>wpAny Qu X.A (pyIter v) (λit l=>wpAny Qu X.A Qf0 (λacc k=>wpAny Qu X.A Qh4 (λOj g=>
   codeAny Qu X.A (.compStart Qei 0 it acc {Oj with scope:=relabel scope X.env}) (RR acc Oj.locals) g) X.xe k) X.xe l) X.xe p) X.xe s:=by
 refine fY ((Jw (tg:=.Name x px) hg hm (bZ dQ dW HQ) nQ) pins s σ H (λJ H1=>J=HH 0 n/\∃Z1,aB Z Z1/\bH X.K CL b H1 Z1 δ1 σ ts vs) I (h H Z σ ts vs _ S λv H1 Z1 O N=>?_)) λv s1 h1=>fY h1 λar s2 zz=>?_
 .have r:=N.view;rw[T.gT]at r;exact⟨n,by rw[r.sc rfl],We,We,by rw[ke],Z1,O,N.pop⟩
 obtain⟨it,fp,tn,J,H1,e0,I1,Tn,st,hf,rfl,Z1,O,N⟩:=zz;subst e0;have JQ:i<δ1.length:=by
  obtain h|h:=Nat.lt_or_ge i δ1.length
  .exact h
  .rw[v3 h]at hi;cases hi
 refine yO (xs:=[x]) (G:=λD H'=>∃Z',aB Z1 Z'/\bH X.K CL b H' Z' (δ1.set i Qhi) σ (.lst ((List.range n).map λj=>T.sh (d j))::ts) Qdj) (RR:=RR) (Fh sc) a I1 Tn st hf (λD hD=>?_) λD C' s' H' m io nC ch ci ⟨Z',M,S'⟩=>?_
 .refine⟨λj m H2=>m=n-j/\j<=n/\∃Z2,aB Z1 Z2/\bH X.K CL b H2 Z2 (δ1.set i (some Qg5)) σ (.lst ((List.range j).map λj=>T.sh (d j))::ts) Qdj,⟨n,rfl,kn _,Z1,.refl _,?_⟩,?_⟩
  .rw[ig hi];exact(bH.j8 (tl:=[]) (us:=[]) (g0:=[]) N rfl hD).2
  rintro j m H2 ⟨rfl,hj,Z2,z2,f⟩;by_cases U:j<n
  .refine .inr ⟨U,λH'=>∃Z2,aB Z1 Z2/\bH X.K CL b H' Z2 (δ1.set i (some (.pin y (t QA)))) σ (.lst ((List.range QA).map λj=>T.sh (d j))::ts) Qdj,λH' h=>⟨n-QA,We,rfl,U,h⟩,λxv L yy C s0 H0 f0 os ho=>?_⟩;obtain⟨o,rfl⟩:=List.length_eq_one_iff.1 ho;refine⟨Jv 0,tD sc.nd (by show Nc[0]? = some x;rw[sc.hd];rfl) (.inl (G1 sc.own)) (.inr (G1 sc.own)),[some xv],rfl,rfl,?_⟩;obtain⟨rfl,rfl⟩:=yy;unfold JE;dsimp only;rw[di rfl];obtain⟨v0,ev,Sm⟩:=f.move (yY JQ);have V:v0=.ref y:=by
    obtain⟨_,_,_,r,_,_⟩:=Sm.rep;cases r with
    | cons r _=>cases r;rfl
   subst V;rw[List.set_set]at Sm;obtain⟨gp,r,nd,Sc⟩:=bH.cut (tl:=[.pin y (t j)]) (us:=[.ref y]) Sm rfl;have ag:∀u:T,Au (δ1.set i (some Qg5)) ix i u=Au δ1 ix i u:=λu=>nz λq _=>by
    by_cases e:q=i
    .rw[di e,di e]
    .rw[cq e,cq e,G2 λz=>e z.symm]
   obtain⟨g1,P,ab⟩:∃g1,bL X.K CL L Z2 Qg5 Qdw g1/\gp=g1:=by
    cases r with
    | cons P r2=>
     cases r2;exact⟨_,P,by rw[j2]⟩
   subst ab;have zn:∀c∈gp,Z2 c=none:=λc a=>by
    cases q:Z2 c with
    | none=>rfl
    | some o=>exact absurd a (pG (Sc.zh c o q)).1
   have E:=OS (ix:=ix) f Qr ev P VH aa;rw[ag]at E;have S0:bH X.K CL ⟨yR L gp,Z2⟩ L Z2 (some (.sh QfS)::Au δ1 ix i Qg5) (yM σ ix (some (.int (0+(j:Int))))) [] []:=
    ⟨⟨[]++gp,[],.cons (by rw[rF];exact .sh Qbx) E,.nil,by rw[j2];exact nd,λc a=>by
     have a:c∈gp:=by simpa using a
     exact⟨zn c a,tQ a⟩⟩,λc o q=>(pG q).2,.refl _,f.zh,λc o q z=>(by have M:Z2 c=none:=z;rw[show Z2 c=some o from q]at M;cases M),f.tp,f.Ri⟩
   refine inner C s0 H0 f0 ⟨yR L gp,Z2⟩ j U L Z2 _ [] [] _ S0 λyv H5 Z5 z5 F=>?_;obtain⟨f1,g5,e1,r5,R,ae⟩:=F.rep;cases r5 with
   | cons B rn=>
    cases rn;replace B:=B.KD;obtain⟨rfl,B⟩:=B;cases e1 with
    | @cons _ _ _ _ f0 f2 rk e2=>
     obtain⟨f3,rp,sb⟩:=Fe ev VH e2;have nf:f2.Nodup:=by
      have:=(lj.1 R).1;exact(lj.1 this).2.1
     have S6:=Sc.NI (H':=H5) (W':=Z5) (tl:=[.pin y (t QA),.sh (d j)]) (us:=[.ref y,yv]) (fp:=f3++([]++[])) F.bh z5 F.zh F.new F.tp (.cons rp (.cons (.sh B) .nil)) (by simpa using nf.sublist sb) (λc a=>by
      have a:c∈f3:=by simpa using a
      exact ae c (ka _ (i5 _ (sb.subset a))))
     have S7:=bH.set (i:=i) S6 (by rw[oz];exact JQ);rw[ig ev,List.set_set]at S7;obtain⟨us,W,Y,S8⟩:=bH.al4 S7;refine⟨us,W,?_,Z5,z2.trans z5,?_⟩
     .rw[Y,d8,m3];have:=mx;exact my (show j<1000 by lia) (by rw[mx];decide)
     .rw[y0,jI];exact S8
  .have ej:j=n:=by lia
   subst ej;exact .inl ⟨gZ _,Z2,z2,f⟩
 .exact fin D C' s' H' Z' m io nC ch ci (O.trans M) S'
def JV(t:Nat->T)(d:Nat->L3.D)(sc:QeC)(p:QaK)(hm:Qc8)(o:Qdi)(h:QiC)(l:n<=1000)(hi:δ1[i]? = some Qjj)(u:i∈ix)(a:ix.Nodup)
  (inner:∀C s0 B f0 q (j:Nat),j<n->mS (cO X scope Nc C s0 B f0) CL q elt Qik (.sh (d j)) Qie)
  (g:Qgy:=by rfl) (z:Qad:=by exact bq rfl)
  (hs:∀x,foldedSetIterable Qfn X.env x=pure x:=by intro _;rfl) :
  mS X CL b Qei δ (.lst ((List.range n).map λj=>T.sh (d j))) (δ1.set i Qhi):=λH Z σ ts vs Q S k pins s I=>by
 rw[eval_ListComp];refine Hf (use:=none) rfl hs (EY sc I) sc.kind sc.names ?_;exact abT (RR:=λacc C=>compPost Qu X.A X.xe none Qa5 acc C) t d sc p hm o h l hi u a inner g z S I λD F s' H' Z' ⟨m,c⟩ io E ch ci f v=>⟨m,c,λh' r=>⟨.ref D,H',ci h' r,rfl,k _ H' Z' f v⟩⟩
def VJ{D:gA}{gP:Co}{c:Nat}{u:Str}{py G:Pos}(t:Nat->T)(l:Nat->L3.D)(g:Gx X)(nm:Ln X c u)(sc:QeC)(hm:Qc8)(U:Qdi)(h:QiC)(P:n<=1000)(hi:δ1[i]? = some Qjj)(W:i∈ix)(f:ix.Nodup)
  (inner:∀C s0 H0 f0 b' (j:Nat),j<n->mS QgY CL b' elt Qik (.sh (l j)) Qie)
  (kk:fh X CL b gP ((δ1.set i Qhi).set c (some (.lst ((List.range n).map λj=>T.sh (l j))))) D) (R:c<δ1.length)
  (k:swapsWith Qei (some (.Name u py)) G.line X.env=pure true\/swapsWith Qei (some (.Name u py)) G.line X.env=pure false)
  (N:Qgy:=by rfl) (HQ:Qad:=by exact bq rfl)
  (hs:∀x,foldedSetIterable Qfn X.env x=pure x:=by intro _;rfl):fh X CL b (.Assign [.Name u py] Qei G::gP) δ D:=by
 obtain k|k:=k
 case inr=>exact iM g nm (JV t l sc g.calm hm U h P hi W f inner N HQ hs) kk (by rw[oz];exact R) k
 refine cN λH Z σ ts vs E S M pins s I=>?_;rw[exec_Assign_Name_used _ _ _ _ k];refine i8 (FV (i8 ?_));show wpAny _ X.A (do let _ ← comprehension Qei scope X.env _ Qf0 false (eval Qfn X.env) (some QiS)) _ _ s;refine i8 (nq (Hf (use:=some QiS) (Q:=λ_ s'=>SP X pins E .next s') rfl hs (EY sc I) sc.kind sc.names ?_) (λ_ s' d=>kX (kX d)) λ_ _ e=>e);refine abT (RR:=λacc C=>compPost Qu X.A X.xe (some QiS) Qk7 acc C) t l sc g.calm hm U h P hi W f inner N HQ S I λD' p s' H' Z' m io nC ch ci z' S'=>?_;obtain⟨m,v⟩:=m;obtain⟨o,O,uL⟩:=io;have Y:L2.Inv X pins σ H' s':=ci s'.heap (.refl ..);have I2:L2.Inv X (pins++[(p,o)]) σ H' s':=Y.wR λq d=>by
  obtain z|z:=gY.1 d
  .exact Y.pin q (i5 _ z)
  .have e:q=(p,o):=by simpa using z
   subst e;exact⟨O,nC,ch.1,ch.2.1,uL⟩
 show wpAny _ X.A (assign (.Name u py) X.env QdX) _ _ s';refine fY ((tD g.nd nm.hi nm.loc nm.hf) _ s' σ H' QdX QdX (λa H8=>a=σ.set c QhZ/\H8=H') I2 rfl ⟨rfl,rfl⟩) λ_ L zz=>?_;obtain⟨a,H8,J,e8,F⟩:=zz;subst e8;subst F;obtain⟨B,r,_⟩:=J.pin (p,o) (i5 _ (i5 _ WA));refine⟨m,v.at' λo' V=>by rw[O]at V;cases V;exact B,λh' Xy=>?_⟩;have I9:L2.Inv X pins (σ.set c QhZ) _ L:=J.wR λq d=>J.pin q (i5 _ (ka _ d));have K:=I9.turned (it:=p) (h':=h') (t':=L.toks) (λb o hb e=>(Xy.2 b hb).trans e) r ch.1.symm.symm (.inr ch.2.2.1) ch.2.2.2.1 ch.2.2.2.2;exact⟨_,_,K,M.nx _ _ _ Z' z' (S'.set (by rw[oz];exact R)) kk⟩
def Ff{C:Addr}{s:Qb}{k:Nat}{A:Type}{arg out:Qam}{Pre:Q1}{res:Qaa}(F:QiK):QK Qa9 CL x k n arg Pre res out:=⟨F.ex,F.room⟩
def qX{t2:T}(h:QbX)(q:t=t2):mS X CL b e δ t2 δ1:=q▸h
def abU(hm:X.mg "tuple" = none)(h:mS X CL b e δ (.lst Qa7) δ1)(hi:QbR)(p:Gl X "tuple")(hs:Qad:=by exact bq rfl):mS X CL b QkW δ (.sh Qb6) δ1:=λH Z σ ts vs Q S k=>
 cI (kC yh p hm Dc QaF (he:=hs)) (h H Z σ ts vs _ S λv H1 Z1 m i=>by
  have r:=i.view;rw[T.gT,mQ]at r;have g:=i.pop;obtain⟨_,_,rfl,n,d⟩:=r.gV;refine⟨_,_,rfl,.inl ⟨n,λl o=>?_⟩⟩;obtain⟨a,c,q⟩:=(bH.oA (ay.tG g.tp hi d) g).KP (by simp[d.length]) o;obtain⟨Z3,j,f⟩:=q.KH;rw[T.gT,mQ]at f;exact k _ _ Z3 (m.trans (a.trans j)) f)
def Yi{h:Int}(h1:QgD)(a:QbR)(q:mS X CL b e2 δ1 (.sh (.int h)) δ2):mS X CL b (.Subscript e (.Slice none (some e2) none p2) pos) δ (.lst ((cutD ds none (some h)).map T.sh)) δ2:=λH Z σ ts vs Q S k=>by
 refine cI (NZ Vk dQ Vh (Vi dQ)) (h1 H Z σ ts vs _ S λv H1 Z1 j k1 t=>q H1 Z1 σ _ _ _ t λv2 H2 Z2 i f=>?_);have m:=f.view;refine⟨h,m.sc rfl,?_⟩;have r:=f.pop.view;have g:=f.pop.pop;obtain⟨_,_,rfl,n,l⟩:=r.gV;refine⟨_,_,rfl,n,λp o=>?_⟩;have rc:=ay.tG g.tp (g7 λd hd=>jr a d (Vu hd)) (l.cut none (some h));obtain⟨c,s⟩:=(bH.oA rc g).j8 (g0:=[]) (by simp[rc.length]) o;exact k _ _ _ (j.trans i) s
end L3
namespace L2
open PySem PySem.Spec PyProof.Rows
variable{X:Cx}{pins:BM}{σ:St}{H:Hp}{s:Qb}{a:Addr}
theorem Inv.told{u u0:HO}(I:QE)(f:H a=some u0)(j:g6 X.prog X.w (upd H a u) s.heap a u)(l:∀xs,u0 ≠ .tup xs)(hz:∀d q,X.nk a≠some (.gT d q))(r:∀ps,u0 ≠ .tbl ps)(hw:∀y,u0 ≠ .own y)(o:∀q,u0 ≠ .U4 q):Inv X pins σ (upd H a u) s:=by
 have ne:∀b,H b=none->b≠a:=λb e z=>by rw[z,f]at e;cases e
 have n1:∀b xs,H b=some Qa1->upd H a u b=some Qa1:=λb xs e=>by
  rw[au λz=>by rw[z,f]at e;cases e;exact l _ rfl];exact e
 refine⟨I.ok,I.os,I.bare,⟨I.base.keep,I.base.slot,λb d e n i=>?_,I.base.there,λb xs e=>n1 b xs (I.base.BK b xs e),λb d q e=>?_,λb ps e=>?_⟩,I.loc,I.cell,?_,λx c e=>?_,λp m=>?_,λb v q=>?_,I.len⟩
 .have:=I.base.free b d e n i;rw[au (ne b this)];exact this
 .rw[au λz=>by rw[z]at e;exact hz _ _ e];exact I.base.gU b d q e
 .obtain⟨more,q⟩:=I.base.BL b ps e;exact⟨more,by rw[au λz=>by rw[z,f]at q;cases q;exact r _ rfl];exact q⟩
 .rw[au (ne _ I.free)];exact I.free
 .rw[au (ne _ (I.rV x c e))];exact I.rV x c e
 .obtain⟨p1,p2,h⟩:=I.pin p m;exact⟨p1,by rw[au (ne _ p2)];exact p2,h⟩
 .by_cases e:b=a
  .subst e;rw[aW]at q;cases q;exact j
  .rw[au e]at q;exact(I.fQ b v q).DF (λ_ _ _ e=>e) (λc z=>by rw[au λg=>by rw[g,f]at z;cases z;exact hw _ rfl];exact z) n1 λc k z=>by rw[au λg=>by rw[g,f]at z;cases z;exact o _ rfl];exact z
end L2
namespace L3
open PySem PySem.Spec PyProof.Rows L2
def Conv(Z Z':Hp):Prop:=∀c o,Z c=some o->Z' c=some o\/(∃gs a,o=.dT gs/\Z' c=some (.gT a Qef))\/∃gs a,o=.gT a Qef/\Z' c=some Qef
variable{Z Z':Hp}{a:Addr}
theorem Conv.keep{o:HO}(e:Conv Z Z')(h:Z a=some o)(h1:∀gs,o ≠ .dT gs)(h2:∀gs b,o ≠ .gT b Qef):Z' a=some o:=by
 obtain q|⟨gs,b,q,_⟩|⟨gs,b,q,_⟩:=e a o h
 .exact q
 .exact absurd q (h1 gs)
 .exact absurd q (h2 gs b)
def T.Lb:List Fd->T->ES
 | [],t=>some t
 | s::p,t=>(t.core.Yc s).bind (T.Lb p)
def T.R3:List Fd->T->T->T
 | [],u,_=>u
 | s::p,u,t=>match t.core.Yc s with
  | some k=>t.yT (t.core.K9 s (T.R3 p u k))
  | none=>t
variable{K:Frag}{CL:BC}{b:Bx}{H:Hp}{δ:BB}{σ:L2.St}{ts:B2}{vs:BY}{t u t0:T}{v:V}{i:Nat}{p:QcN}{y:Addr}
theorem bL.raw(zh:aB Z H):∀(p:QcN) {t u:T} {v:V} {fp:BN},bL K CL H Z t v fp->T.Lb p t=some u->∃w f2,D8 H v p w/\bL K CL H Z u w f2/\∀{u':T},bL K CL H Z u' w f2->bL K CL H Z (T.R3 p u' t) v fp
 | [],t,u,v,fp,h,e=>by
  cases e;exact⟨v,fp,rfl,h,λr=>r⟩
 | s::p,t,u,v,fp,h,e=>by
  obtain⟨h1,h2⟩:=h.RX;rw[T.Lb]at e;cases a:t.core.Yc s with
  | none=>rw[a]at e;cases e
  | some k=>
   rw[a]at e;obtain⟨b,a1,a2,a3,m,l,j,i⟩:=h1.Yc zh a;obtain⟨w,f2,f,d,c⟩:=bL.raw zh p j e;refine⟨w,f2,⟨b,m,f⟩,d,λ{u'} g=>?_⟩;rw[T.R3,a,l];exact h2 (i Qda (c g))
theorem bH.loose(S:Qap)(hi:δ[i]? = some Qbj)(f:Qjk):bH K CL b H Z (δ.set i (some (T.R3 p u t0))) σ ts vs:=by
 obtain⟨fp,gp,e,r,nd,k⟩:=S.rep;obtain⟨v1,e1,e2,e3,hv,c,rt,put,_⟩:=e.get hi;obtain⟨w,f2,at',d,put2⟩:=rt.raw S.zh p f;have a:=put Qr Qda (put2 (by cases d with|pin r=>exact r));rw[ig hv]at a;subst c;exact⟨⟨_,gp,a,r,nd,k⟩,S.bh,S.zz,S.zh,S.new,S.tp,S.tab⟩
theorem bH.auK(S:Qap)(hi:δ[i]? = some Qar)(a:t.isRef=true):∃y,bH K CL b H Z (δ.set i QfD) σ ts vs:=by
 obtain⟨fp,gp,e,r,nd,k⟩:=S.rep;obtain⟨v1,e1,e2,e3,hv,d,rt,put,_⟩:=e.get hi;have:∃y,v1=.ref y:=by
  cases rt with
  | sh r=>cases a
  | tup r _=>cases a
  | pin r=>cases a
  | DI r _ _=>cases a
  | lst r q=>exact⟨_,rfl⟩
  | ins r q=>exact⟨_,rfl⟩
  | qw r q=>exact⟨_,rfl⟩
  | dct r q=>exact⟨_,rfl⟩
 obtain⟨y,rfl⟩:=this;have c:=put Qr Qda (bL.pin rt);rw[ig hv]at c;subst d;exact⟨y,⟨_,gp,c,r,nd,k⟩,S.bh,S.zz,S.zh,S.new,S.tp,S.tab⟩
section
variable{X:Cx}{δ1:BB}{e o:Expr}{d:L3.D}{D:gA}{pos:Pos}{m:Nat}{x c mm:Str}{gP:Co}
def Lc(h:δ[i]? = some Qar)(k:∀y,fh X CL b gP (δ.set i QfD) D)(a:t.isRef=true:=by rfl):fh X CL b gP δ D:=λH Z σ ts vs E S M=>by
 obtain⟨y,c⟩:=S.auK h a;exact k y H Z σ ts vs E c M
theorem abV(n:QaY)(h:δ[i]? = some QfD):cL X CL b Qav δ (.pin y t) (δ.set i (some (.sh (.val Qdw)))):=λH Z σ ts vs Q S k=>by
 have f:i<δ.length:=by
  obtain z|z:=Nat.lt_or_ge i _
  .exact z
  simp_all
 obtain⟨v,e,c⟩:=S.move h;have hv:v=.ref y:=by
  obtain⟨_,_,_,r,_,_⟩:=c.rep;cases r with
  | cons r _=>cases r;rfl
 subst hv;have a:=(c.push (d:=.val Qdw) (.val _)).set (i:=i) WE;rw[ig e,List.set_set]at a;exact cI QcV ⟨_,e,k _ H Z Qr Qr a⟩
def Yj(n:Vn X m x)(hm:δ[m]? = some (some (.sh (.val Qdw))))(hi:δ[i]? = some Qbj)(f:Qjk)(hd:u.gT=d):dR X CL b Qav δ d δ:=λH Z σ ts vs Q S k=>by
 obtain⟨v,hv,r⟩:=S.look hm;cases r;obtain⟨fp,gp,e,h,nd,kk⟩:=S.rep;obtain⟨v1,e1,e2,e3,c,g,rt,put,_⟩:=e.get hi;obtain⟨w,f2,at',a,_⟩:=rt.raw S.zh p f;replace a:=a.Rg;obtain⟨rfl,a⟩:=a;subst hd;exact cI QcV ⟨_,hv,k _ H Z Qr Qr S (a.gT S.zh λ_ _=>rfl)⟩
noncomputable def abW(p:QcN)(h:QaL)(hi:δ1[i]? = some Qbj)(c:Qjk):cL X CL b e δ t (δ1.set i (some (T.R3 p u t0))):=λH Z σ ts vs Q S k=>h H Z σ ts vs Q S λv H1 Z1 a k1 d=>k v H1 Z1 a k1 (d.loose hi c)
def aqj{δ2:BB}(h:QaL)(q:δ1=δ2):cL X CL b e δ t δ2:=q▸h
structure OC(X:Cx)(CL:BC)(c m:Str)(k n:Nat){A:Type}(arg:Qak)(Pre:Q1)(exc:A->Str):Prop where
 ex:∃f fd ps,Meth X.K (CL c) m f/\fj X.prog X.w X.K X.mg X.base (CX8 X.prog X.w) k f fd ps (OM X.K CL n arg Pre exc)/\Binds X.K fd ps []
 room:eG k X.A
 cls:jJ X.K (CL c)
theorem OC.pin{p:BM}{k n:Nat}{A:Type}{arg:Qak}{Pre:Q1}{exc:A->Str}(F:OC X CL c mm k n arg Pre exc):OC (X.pinned p) CL c mm k n arg Pre exc:=⟨F.ex,F.room,F.cls⟩
end
instance ayi:DecidableEq D:=λa b=>Classical.propDecidable (a=b)
mutual
inductive NV(h:Heap):D->Value->Prop where
 | int (i:Int) (t:Tok):NV h QaQ QfU
 | str (x:Str) (t:Tok):NV h Qbc (.str x t)
 | tup {a:Addr} {o:Obj} {its:CS} {m:Nat} {ds:BA}:h.get? a=some o->o.cls=.type "tuple"->o.data=.seq its m->p6 h ds its.toList->NV h Qb6 Qan
inductive p6(h:Heap):BA->B1->Prop where
 | nil:p6 h [] []
 | cons {d:D} {v:Value} {ds:BA} {vs:B1}:NV h d v->p6 h ds vs->p6 h (d::ds) QaX
end
variable{h:Heap}
theorem NV.inj{d:D}{v:Value}(q:NV h d v):∀d2,NV h d2 v->d=d2:=
 NV.rec (motive_1:=λd v _=>∀d2,NV h d2 v->d=d2) (motive_2:=λds vs _=>∀d2,p6 h d2 vs->ds=d2)
  (λi t d2 q=>by cases q;rfl) (λx t d2 q=>by cases q;rfl)
  (λe c l _ j d2 q=>by
   cases q with
   | tup k m f g=>
    cases e.symm.trans k;cases l.symm.trans f;rw[j _ g])
  (λd2 q=>by cases q;rfl) (λ_ _ i1 i2 d2 q=>by
   cases q with
   | cons a b=>rw[i1 _ a,i2 _ b]) q
theorem p6.snoc{ds:BA}{vs:B1}{d:D}{v:Value}(q:p6 h ds vs)(r:NV h d v):p6 h (ds++[d]) (vs++[v]):=
 p6.rec (motive_1:=λ_ _ _=>True) (motive_2:=λds vs _=>p6 h (ds++[d]) (vs++[v])) Qc0 Qc0 Qg4 (.cons r .nil) (λa _ _ b=>.cons a b) q
variable{ds:BA}{d:D}
theorem ay.snoc{ds:BA}{d:D}(h:QeG)(q:Qde):ay K CL Z (ds++[d]) (vs++[v]):=
 ay.ind (P:=λds vs=>ay K CL Z (ds++[d]) (vs++[v])) (.cons q .nil) (λa _ i=>.cons a i) h
section
variable{X:Cx}{pos:Pos}{x:Str}{d:D}
def ao{i:Int}{j:Nat}:dR X CL b Qi3 δ (.int i) δ:=aH bF
def bK{j:Nat}:dR X CL b QjE δ (.str x) δ:=aH fS
def aP{n:Nat}(h:Nat.ble n 1000=true:=by rfl):n<=sizeLine:=JH h
variable{α:Type}{l:QR}{u0 u1 u2 v:α}
def yV:wV (v::l) 0=some v:=dg rfl
def Fg:wV (u0::v::l) 1=some v:=dg rfl
def IM:wV (u0::u1::v::l) 2=some v:=dg rfl
def Pf:wV (u0::u1::u2::v::l) 3=some v:=dg rfl
section
variable{scope:Scope}{Nc:At}{C:Addr}{s:Qb}{fp:BN}(i:Nat)
def Fi(h1:Nc[i]? = some x:=by rfl)(h2:QgL:=by decide +kernel)(hd:AD x:=by decide)(kN:AE x:=by decide):Vn Qa9 i x:=aaV h1 h2 hd kN
def HX(h1:Nc[i]? = some x:=by rfl)(h2:QiJ:=by decide +kernel)(hd:AD x:=by decide)(kN:AE x:=by decide):Vn Qa9 i x:=aln h1 h2 hd kN
def kD(h:δ[i]? = some Qb0:=by rfl)(n:Vn Qa9 i x:=by exact Fi _):dR Qa9 CL b Qav δ d δ:=aH (v_ n h)
def gC(h:δ[i]? = some Qb0:=by rfl)(n:Vn Qa9 i x:=by exact HX _):dR Qa9 CL b Qav δ d δ:=aH (v_ n h)
def uV(h2:Qij:=by decide +kernel):Gl Qa9 x:=afQ h2
end
def auM{l:At}{od:Do}{its:CS}{n:Nat}{sl:Cn}(h1:X.mg x=some Qan)(h2:Qkq)(c:its.size<=sizeLine:=by exact JH rfl)(b:Vals QfV its.toList:=by repeat (first|exact .nil|refine .cons ⟨_,rfl⟩ ?_)):GT X x l:=apX h1 h2 c b
abbrev ni(X:Cx)(CL:BC)(b:Bx)(st:Stmt)(N:At){A:Type}(arg:Qak)(Pre:Q1)(res:Qaa):Prop:=∀ ⦃a:A⦄,Pre a->fh X CL b Qbk Qf6 {nx:=λ_=>res a=.sh .non,rt:=λc _=>c=res a}
end
abbrev nR(X:Cx)(s:Str):Prop:=X.mg s=none
abbrev yW(X:Cx)(s:Str):Prop:=X.env.kindOf s=some .cell
variable{X:Cx}{δ1 δ2:BB}{e e1 e2:Expr}{es:CU}{pos:Pos}
def abX{p:Bool}(h:QjK):Ll X CL b (.BoolOp .And [e] pos) δ p δ1:=λH Z σ ts vs Q S k=>Xp (U6 og) Qfp
def abY{q:Bool}(h:wX X CL b e δ true δ1)(h2:Ll X CL b (.BoolOp .And (e2::es) pos) δ1 q δ2):Ll X CL b (.BoolOp .And (e::e2::es) pos) δ q δ2:=λH Z σ ts vs Q S k=>
 Xp (ZY og LI) (h H Z σ ts vs _ S λH1 Z1 c k1 f=>N4 (h2 H1 Z1 σ ts vs _ f λH2 Z2 a d=>k H2 Z2 Qb4 d))
def agw{i j:Int}(h1:Qiz)(h2:Qbe):HC X CL b QiO δ (decide (j<i)) δ2:=λH Z σ ts vs Q S k=>
 HN (tE SU dQ dQ (qU _)) (h1 H Z σ ts vs _ S λv1 H1 Z1 d g=>h2 H1 Z1 σ _ _ _ g λv2 H2 Z2 c s2 a e=>by
  have f:=a.view;rw[f.sc rfl,e.sc rfl];exact⟨i,j,rfl,rfl,_,rfl,k H2 Z2 (d.trans c) a.pop⟩)
structure Wq(n:Nat)(p:Prop):Prop where
 h:p
structure lO(K:Frag)(x:Str)(st:Stmt)(f:Addr)(fd:QaG):Prop extends ZF K x x st f fd where
 m:InG K x f
structure ZM(K:Frag)(C:Addr)(x qual:Str)(st:Stmt)(f:Addr)(fd:QaG):Prop extends ZF K x qual st f fd where
 a:findIn K QaI x=some Qdg
 i:isFn K Q3=true
variable{A:Type}
abbrev r4(X:Cx)(CL:BC)(b:Bx)(st:Stmt)(N:At)(arg:Qam)(Pre:Q1)(res:Qaa)(out:Qam):Prop:=
 ∀a,Pre a->fh X CL b Qbk (RK N QbM) {nx:=λδ=>res a=.sh .non/\Keeps δ QcM,rt:=λc δ=>c=res a/\Keeps δ QcM}
section
variable{x qual:Str}{st:Stmt}{f C:Addr}{oc kV doc pm gR ct:Value}{od an:Do}{Q8:Cn}
def fn1(m:nsIn K mainGlobals x=some Qdg)(l:K.lookup f=some ⟨oc,od,.func QkZ,Q8⟩)(c:codeIn K gR x=true)(k:QhB):lO K x st f QkZ:=⟨aaB l c k,m⟩
def fn2(a:findIn K QaI x=some Qdg)(i:isFn K Q3=true)(l:QkT)(c:QjO)(k:QhB):ZM K C x qual st f Qgf:=⟨aaB l c k,a,i⟩
end
abbrev VL(x qual:Str)(st:Stmt)(ps:At):Prop:=∀(kV doc pm:Value) (an:Do) (gR ct:Value),Me ps.length λus=>bindArgs (W.fnOf x qual (oG st) Qbk QaJ Value.none kV doc pm an gR ct) {pos:=us}=pure Qe0
def aql(P:Qat)(w:World)(mg:Bi)(base:Heap){K:Frag}{h:Heap}(CL:BC)(l:K.In h)(G:h.Ns mainGlobals mg){x:Str}{st:Stmt}{f:Addr}{fd:QaG}{N ps:At}(k:Nat){A:Type}(arg:Qak)(Pre:Q1)(res:Qaa)(F:lO K x st f fd)(S:Qb2)
  (j:∀{gR:Value} {i:Qau} {outer:D1} {s:Qb} {H:Hp} {E:XK} {b:Bx} {a:A},eG k Qko->bI (rY lR P w K mg base N x QaJ f gR i outer s H E).Kv->Pre a →
   fh (rY lR P w K mg base N x QaJ f gR i outer s H E).Kv CL b Qbk Qf6 {nx:=λ_=>res a=.sh .non,rt:=λt _=>t=res a})
  (q:VL x x st ps:=by(repeat intro _);rfl) :
  ∃f fd g,fj P w K mg base lR Qaj f fd g QgJ/\mg x=some Q3/\keepIn K Q3=true/\Binds K fd g []:=⟨f,fd,ps,D5 F.1 S λ_ _ _ _ _ _ _ _ r p=>j r ⟨⟨S.nd,rfl,.never⟩,r.units⟩ p,mn l G F.m,F.kp,F.binds λa b c d e f=>lV QhN⟩
def aqm(P:Qat)(w:World)(mg:Bi)(base:Heap){K:Frag}{h:Heap}(CL:BC)(n:K.In h)(G:h.Ns mainGlobals mg){x:Str}{st:Stmt}{f:Addr}{fd:QaG}{N ps:At}(k:Nat){A:Type}(arg:Qam)(Pre:Q1)(res:Qaa)(out:Qam)(F:lO K x st f fd)(S:Qb2)
  (l:∀{gR:Value} {i:Qau} {outer:D1} {s:Qb} {H:Hp} {E:XK} {b:Bx},eG k Qko->bI (rY lR P w K mg base N x QaJ f gR i outer s H E).Kv →
   r4 (rY lR P w K mg base N x QaJ f gR i outer s H E).Kv CL b st N arg Pre res out)
  (j:∀a,XU QbM QcM:=by intro a;repeat (first|exact trivial|refine⟨rfl,?_⟩)) (q:VL x x st ps:=by(repeat intro _);rfl) :
  ∃f fd g,fj P w K mg base lR Qaj f fd g Qir/\mg x=some Q3/\keepIn K Q3=true/\Binds K fd g []:=⟨f,fd,ps,RL F.1 S (λa _=>j a) λ_ _ _ _ _ _ _ a r p=>l r ⟨⟨S.nd,rfl,.never⟩,r.units⟩ a p,mn n G F.m,F.kp,F.binds λa b c d e f=>lV QhN⟩
variable{x c:Str}{st:Stmt}{f:Addr}{fd:QaG}{N ps:At}
def NL(P:Qat)(w:World)(mg:Bi)(base:Heap)(CL:BC){qual:Str}(k:Nat)(arg:Qak)(Pre:Q1)(res:Qaa)(F:ZM K (CL c) x qual st f fd)(S:Qb2)
  (j:∀{gR:Value} {h:Qau} {outer:D1} {s:Qb} {H:Hp} {E:XK} {b:Bx} {a:A},eG k (h.deeper QcQ)->bI (rY lR P w K mg base N qual QaJ f gR h outer s H E).Kv->Pre a →
   fh (rY lR P w K mg base N qual QaJ f gR h outer s H E).Kv CL b Qbk Qf6 {nx:=λ_=>res a=.sh .non,rt:=λt _=>t=res a})
  (q:VL x qual st ps:=by(repeat intro _);rfl) :
  ∃f fd g,Meth K (CL c) x f/\fj P w K mg base lR Qaj f fd g QgJ/\Binds K fd g []:=⟨f,fd,ps,⟨F.a,F.i,F.kp⟩,D5 F.1 S λ_ _ _ _ _ _ _ _ r p=>j r ⟨⟨S.nd,rfl,.never⟩,r.units⟩ p,F.binds λa b c d e f=>lV QhN⟩
def ab1(P:Qat)(w:World)(mg:Bi)(base:Heap)(CL:BC){qual:Str}(k:Nat)(arg:Qam)(Pre:Q1)(res:Qaa)(out:Qam)(F:ZM K (CL c) x qual st f fd)(S:Qb2)
  (l:∀{gR:Value} {h:Qau} {outer:D1} {s:Qb} {H:Hp} {E:XK} {b:Bx},eG k (h.deeper QcQ)->bI (rY lR P w K mg base N qual QaJ f gR h outer s H E).Kv →
   r4 (rY lR P w K mg base N qual QaJ f gR h outer s H E).Kv CL b st N arg Pre res out)
  (j:∀a,XU QbM QcM:=by intro a;repeat (first|exact trivial|refine⟨rfl,?_⟩)) (q:VL x qual st ps:=by(repeat intro _);rfl) :
  ∃f fd g,Meth K (CL c) x f/\fj P w K mg base lR Qaj f fd g Qir/\Binds K fd g []:=⟨f,fd,ps,⟨F.a,F.i,F.kp⟩,RL F.1 S (λa _=>j a) λ_ _ _ _ _ _ _ a r p=>l r ⟨⟨S.nd,rfl,.never⟩,r.units⟩ a p,F.binds λa b c d e f=>lV QhN⟩
section
variable{scope:Scope}{y:Str}{Nc:At}{ix:CO}{elt:Expr}{px pc pos' pr pp:Pos}{D:gA}{gP:Co}{n:Nat}
theorem Fj{α:Type}(F:α->L3.D)(f:Nat->α)(g:Gx X)(l:QbT)(sc:QdN)(hm:Qc8)(q:Qdi)(h:dR X CL b e δ (.int n) δ1)(s:n<=1000)
  (inner:∀C s0 j f0 a (k:Nat),k<n->cL (cO X scope Nc C s0 j f0) CL a elt (some QeI::BX δ1 ix) (.sh (F (f k))) (some QeI::BX δ1 ix))
  (k:fh X CL b gP (δ1.set i (some (.lst ((((List.range n).map f).map F).map T.sh)))) D) (o:QbB:=by exact jj rfl)
  (r:∃c,swapsWith Qj3 Qf1 pos.line X.env=pure c:=by exact⟨_,rfl⟩) (hs:∀x,foldedSetIterable Qfn X.env x=pure x:=by intro _;rfl)
  (h1:AD y:=by decide) (h2:AE y:=by decide) (s1:Qgy:=by rfl) (s2:Qad:=by exact bq rfl) :
  fh X CL b (.Assign [.Name x pos'] Qj3 pos::gP) δ D:=by
 have e1:∀k:Nat,L3.D.int (0+(k:Int))=.int k:=λk=>by rw[rF]
 refine RJ (p:=λ_=>true) (gg:=λd=>T.sh (F (f d.yb.toNat))) g l sc (pN hm h We q s1 s2) QaH (λC s0 j f0 a d hd=>?_) (ml (cV (by simp[d9];lia))) ?_ o (vj r) hs h1 h2
 .obtain⟨k,m,rfl⟩:=j0.1 hd;have m:=mN.1 m;rw[e1];exact⟨rfl,λ_=>inner C s0 j f0 a k We⟩
 .have e2:((d9 0 (n:Int).toNat).filter λ_=>true).map (λd=>T.sh (F (f d.yb.toNat)))=(((List.range n).map f).map F).map T.sh:=by
   rw[List.filter_eq_self.2 λ_ _=>rfl];unfold d9;rw[kq,kq,kq,ke];exact nz λk _=>by show T.sh (F (f (L3.D.int (0+(k:Int))).yb.toNat))=_;rw[e1];rfl
  rw[e2];exact k
end
def agy:y4 X "list.extend" (λx vs H Q=>TM X.K x vs H Q\/T1 X.K x vs H Q):=by
 intro pins s σ H x vs v us Q I a b h;obtain h|h:=h
 .exact ago _ _ _ _ _ _ _ _ _ I a b h
 .exact age _ _ _ _ _ _ _ _ _ I a b h
section
variable{tl tl0:B2}{sq:BA->L3.D}{ds:BA}{D:gA}{pp pa pb pc:Pos}{f:Str}{gP:Co}{gs:BS}
def nV(n:QaY)(h0:δ[i]? = some (some (.lst tl0)))(h:dR X CL b e δ (sq ds) δ1)(v:L3.D.bR ds=true)(h1:δ1[i]? = some QhX)(q:tl.length+ds.length<=1000000)(k:fh X CL b gP (δ1.set i (some (.lst (tl++ds.map T.sh)))) D)
  (hd:sq=.lst\/sq=.tup:=by first|exact .inl rfl|exact .inr rfl) (u:attributeBase QaA "extend" X.env (eval QaA X.env)=eval QaA X.env:=by rfl)
  (s:AB X pb e:=by rfl)
  (d:Qfl:=by rfl) (hs:Qad:=by exact bq rfl) (w:swapsWith Qkr none pos.line X.env=pure false:=by rfl) :
  fh X CL b (.Expr Qkr pos::gP) δ D:=cN λH Z σ ts vs E S M=>
 r9 (zZ (JB He PySem.F.slot_list_extend PySem.F.type_list_extend agy QcV QaF u s d hs rfl) w) (by
  obtain⟨v0,e0,t⟩:=S.look h0;refine⟨v0,e0,?_,h H Z σ ts vs _ S λv2 H1 Z1 o k1 r c=>?_⟩
  .obtain⟨_,_,rfl,f,_⟩:=t.gV;exact .inl ⟨rfl,_,f⟩
  .have go:∀{us},ay X.K CL H1 ds us->_:=λ{us} c=>r.abJ (p:=[]) (ay.tG r.tp v c) e0 h1 rfl rfl;obtain rfl|rfl:=hd
   .replace c:=c.gV;obtain⟨_,_,rfl,f,c⟩:=c;obtain⟨a,ws,l,j,g,m⟩:=go c;exact .inl ⟨a,_,ws,_,l,rfl,j,f,by rw[g,← c.length];exact ml (ri q Wp),M.nx _ σ _ Z1 o m k⟩
   .replace c:=c.Rf;obtain⟨_,_,rfl,f,c⟩:=c;obtain⟨a,ws,l,j,g,m⟩:=go c;exact .inr ⟨a,_,ws,_,l,rfl,j,f,by rw[g,← c.length];exact ml (ri q Wp),M.nx _ σ _ Z1 o m k⟩)
def jM(l:QdV)(n:QhR)(nm:QaY)(h:QbX)(h1:δ1[i]? = some (some (.pin a (.ins c gs))))(j:gs.length<1000)(k:fh X CL b gP (δ1.set i (some (.pin a (.ins c (yN f t gs))))) D)
  (hs:swapsWith e (some (.Attribute (.Name x pa) f pb)) pc.line X.env=pure false:=by rfl):fh X CL b (.Assign [.Attribute (.Name x pa) f pb] e pc::gP) δ D:=cN λH Z σ ts vs E S M=>
 r9 (akP (kP nm.hi nm.hv nm.hd nm.kN) dQ hs) (h H Z σ ts vs _ S λv H' Z' z d=>by
  obtain⟨v0,e0,_⟩:=d.look h1;obtain⟨o,dx,ws,m,g,hlen,q⟩:=d.Yd (p:=[]) (f:=f) e0 h1 rfl rfl;exact⟨_,e0,o,CL c,dx,ws,m,g,l,n,hlen▸j,M.nx _ σ _ Z' z q k⟩)
end
theorem JW{α β:Type}(f:α->β):∀(l:QR) (j:Nat),(l.map f).eraseIdx j=(l.eraseIdx j).map f
 | [],_=>rfl
 | _::_,0=>rfl
 | x::l,j+1=>by rw[js,List.eraseIdx_cons_succ,JW f l j,List.eraseIdx_cons_succ,js]
theorem al5:y4 X "list.remove" (λx xs H Q=>∃(p:Addr) (l:AT) (y:Int) (j:Nat),x=.ref p/\xs=[.int y]/\H p=some Qh0/\l[j]? = some y/\(∀i,i<j->l[i]? ≠ some y)/\Q .non (upd H p (.lst ((l.eraseIdx j).map .int)))):=by
 intro pins s σ H x xs v us Q I g rs h;obtain⟨p,l,y,j,rfl,rfl,d,c,D,q⟩:=h;cases g;obtain⟨u,rfl,o⟩:=rs.one;obtain⟨t,rfl⟩:=o;obtain⟨z,its,n,r,B,e⟩:=I.Fs d;have A:=r.length;rw[d8]at A;have at':∀{i:Nat} (hi:i<its.toArray.size),∃k t,its.toArray[i]=.int k t/\l[i]? = some k:=λ{i} a=>by
  have C:i<its.length:=by simpa using a
  have B:i<l.length:=by lia
  obtain⟨u,e1,e2⟩:=r.get (i:=i) (x:=.int l[i]) WA;obtain⟨t,rfl⟩:=e2;simp_all
 have f:j<its.toArray.size:=by
  have h1:=(kO.1 c).1;simp;lia
 refine tw F.slot_list_remove ⟨_,e,rfl⟩ F.entry_list_remove (F.args_list_remove_2 _ _) (MeetsSeq.list_remove p its.toArray n (.int y t) (Pm y) (λw hw=>?eqs) j f ?hit (λm hm b=>?no) WE) ⟨e,?_⟩
 case hit=>
  obtain⟨k,t',e1,e2⟩:=at' f;rw[e1];rw[c]at e2;cases e2;exact yl y
 case no=>
  obtain⟨k,t',e1,e2⟩:=at' hm;rw[e1];exact yB.2 λz=>D m b (by rw[e2,z])
 case eqs=>
  obtain⟨i,a,rfl⟩:=Array.mem_iff_getElem.1 hw;obtain⟨k,t',e1,e2⟩:=at' a;rw[e1];exact MeetsSeq.EqGives.int k y t' t
 refine⟨.non,_,I.Fu (its':=its.eraseIdx j) d e ?_ ?_ ?_,rfl,q⟩
 .apply Array.toList_inj.1;simp[Array.toList_eraseIdxIfInBounds]
 .have:=r.eraseIdx j
  rwa [JW]at this
 .rw[d8];have:=BQ l j;rw[d8]at z;lia
section
variable{e3:Expr}{l:AT}{y:Int}{j:Nat}{D:gA}{pp pa pb:Pos}{gP:Co}{kvs:CC}{d0:L3.D}
theorem aqn(n:QaY)(h0:δ[i]? = some (some QgM))(h:dR X CL b e δ (.int y) δ)(G:l[j]? = some y)(L:∀q,q<j->l[q]? ≠ some y)(k:fh X CL b gP (δ.set i (some (.lst (((l.eraseIdx j).map .int).map T.sh)))) D)
  (A:attributeBase QaA "remove" X.env (eval QaA X.env)=eval QaA X.env:=by rfl)
  (u:AB X pb e:=by rfl)
  (d:Qfl:=by rfl) (hs:Qad:=by exact bq rfl) (N:swapsWith Qks none pos.line X.env=pure false:=by rfl) :
  fh X CL b (.Expr Qks pos::gP) δ D:=cN λH Z σ ts vs E S M=>
 r9 (zZ (JB He PySem.F.slot_list_remove PySem.F.type_list_remove al5 QcV QaF A u d hs rfl) N) (by
  obtain⟨v0,e0,s⟩:=S.look h0;refine⟨v0,e0,?_,h H Z σ ts vs _ S λv2 H1 Z1 t k1 K w=>?_⟩
  .rw[T.gT]at s;obtain⟨_,_,rfl,C,_⟩:=s.gV;exact .inl ⟨rfl,_,C⟩
  .cases w;obtain⟨f2,gp,v,rs,nd,go⟩:=K.B8 (p:=[]) e0 h0 rfl rfl;obtain⟨a,us,g,rfl,rfl,I,rt⟩:=v.gV;have B:=sf (OO rt);subst B;have ne:∀c∈gp,c≠a:=λc f z=>by subst z;simp_all
   have r:([a]++gp).Sublist ((a::g)++gp):=List.Sublist.cons₂ a (uu g gp);have m:=nd.sublist r;have J:=go (o:=.lst ((l.eraseIdx j).map .int)) (u':=.lst (((l.eraseIdx j).map .int).map T.sh)) rfl gj rfl (.lst aW (aU.LL (ints_rep _))) (rs.mono Qr λc f=>au (ne c f)) m λc f=>r.subset f;exact⟨a,l,y,j,rfl,rfl,I,G,L,M.nx _ σ _ Z1 t J k⟩)
theorem ab2(k:Key)(v:QeD)(n:QaY)(h0:δ[i]? = some (some (.qw kvs)))(h2:dR X CL b e2 δ (RC k) δ)(q:cL X CL b e3 δ (.sh d0) δ)(m:M2 X QaA "get" pa e2 e3 pos:=by exact⟨rfl,rfl,rfl,rfl⟩) :
  cL X CL b (.Call (.Attribute QaA "get" pa) [e2,e3] [] pos) δ (.sh ((su kvs k).getD d0)) δ:=λH Z σ ts vs Q S kk=>by
 obtain⟨fp,gp,e,r,nd,kp⟩:=S.rep;obtain⟨v0,f1,f2,w,hv,t,rt,put,_⟩:=e.get h0;cases rt with
 | @qw a gs _ h o=>
  refine cI (aaJ We QcV dQ dQ m) ⟨_,hv,a,rfl,.inl ⟨gs,.inl h⟩,h2 H Z σ ts vs _ S λv2 H2 Z2 d k2 s p=>q H2 Z2 σ ts vs _ s λu l Z3 c g j=>?_⟩;have f:=o.mono (d.trans c);refine⟨vd gs k,?_,?_⟩
  .rw[p.key];exact FO.k ((k2.trans g) _ _ h)
  .rcases f.val (k:=k) with⟨e1,e2⟩|⟨d',v',e1,e2,rd⟩
   .rw[e1]at kk;rw[e2];exact kk _ l Z3 (d.trans c) (k2.trans g) j
   .rw[e1]at kk;rw[e2];exact kk _ l Z3 (d.trans c) (k2.trans g) (j.pop.push rd)
end
end L3
namespace Law
open PySem L2 L3
noncomputable def top(i:Nat):Stmt:=PySem.Challenge.pw_moodtree_k71_whole_far_leads_back.main.body.getD i (.Pass ⟨0,0,0,0⟩)
noncomputable def Ec:Nat->AT->Int->AT
 | 0,_,_=>[]
 | n+1,es,k=>if k=-1 then [] else k::Ec n es (es.getD k.toNat 0)
def bz(es:AT)(m:Int):AT:=Ec QdT es Qfy
def e7(es:AT):Prop:=∀k:Nat,k<es.length->-1<=es.getD k 0/\es.getD k 0<k
variable{es:AT}{k:Int}
theorem e7.at(h:e7 es)(h0:0<=k)(h1:QcA):-1<=es.getD k.toNat 0/\es.getD k.toNat 0<k:=by
 have:=h k.toNat We;lia
noncomputable def cQ(ks:At)(es ss:AT):D:=.ins "Tree" [("kinds",.lst QdR),("elders",.lst Qcm),("starts",.lst QdS)]
variable{ks:At}{ss:AT}
def iO:List.lookup ("kinds":Str) [(("kinds":Str),D.lst QdR),("elders",.lst Qcm),("starts",.lst QdS)]=some (.lst QdR):=K0
def ju:List.lookup ("elders":Str) [(("kinds":Str),D.lst QdR),("elders",.lst Qcm),("starts",.lst QdS)]=some (.lst Qcm):=rfl
def Dk:List.lookup ("starts":Str) [(("kinds":Str),D.lst QdR),("elders",.lst Qcm),("starts",.lst QdS)]=some (.lst QdS):=rfl
def fz(ds:BA):T.gT (.lst Qa7)=.lst ds:=by rw[T.gT,mQ]
def aL(l:AT):(T.lst ((l.map D.int).map T.sh)).clean=true:=wY▸qA _
theorem R5(l:At):(T.lst ((l.map D.str).map T.sh)).clean=true:=by
 induction l with
 | nil=>rfl
 | cons x l a=>exact a
noncomputable def Av(ks:At)(es ss:AT):BS:=[("kinds",.lst ((ks.map .str).map T.sh)),("elders",.lst ((es.map .int).map T.sh)),("starts",.lst ((ss.map .int).map T.sh))]
def Yk(ks:At)(es ss:AT):T.gT (.ins "Tree" (Av ks es ss))=cQ ks es ss:=by
 unfold Av;rw[T.gT,T.uS,T.uS,T.uS,fz,fz,fz];rfl
def Dl(ks:At)(es ss:AT):T.f6 (Av ks es ss)=true:=by
 unfold Av;rw[T.f6,T.f6,T.f6,R5,aL,aL];rfl
theorem Ld{es:AT}(h:e7 es):∀(n:Nat) {k x:Int},-1<=k->k<es.length->x∈Ec n es k->0<=x/\x<=k
 | 0,k,x,_,_,a=>by cases a
 | n+1,k,x,h0,h1,a=>by
  rw[Ec]at a;split at a
  .cases a
  .have b:=h.at We h1;obtain rfl|a:=fV.1 a
   .lia
   .have:=Ld h n We We a;lia
theorem Fl{es:AT}(h:e7 es):∀(a b:Nat) {k:Int},-1<=k->k<es.length->k<a->k<b->Ec a es k=Ec b es k
 | 0,0,_,_,_,_,_=>rfl
 | 0,b+1,k,h0,_,e,_=>by
  rw[Ec,Ec,di We]
 | a+1,0,k,h0,_,_,d=>by
  rw[Ec,Ec,di We]
 | a+1,b+1,k,h0,h1,e,d=>by
  rw[Ec,Ec];split
  .rfl
  .have c:=h.at We h1;rw[Fl h a b c.1 We We We]
variable{m:Int}
theorem fK(h:e7 es)(h0:0<=m)(h1:QbC):bz es m=if es.getD m.toNat 0=-1 then [] else es.getD m.toNat 0::bz es Qfy:=by
 have hm:=h.at h0 h1;unfold bz;rw[Ec];split
 .rfl
 .rename_i b;have a:=h.at (k:=es.getD m.toNat 0) We We;rw[Fl h es.length QdT a.1 We We We]
variable{x:Int}
theorem bf(h:e7 es)(h0:0<=m)(h1:QbC)(a:x∈bz es m):0<=x/\x<m/\x<es.length:=by
 have hm:=h.at h0 h1;have:=Ld h _ hm.1 We a;lia
theorem sC{es:AT}(h:e7 es):∀(n:Nat) {m x:Int},0<=m->m<es.length->m<n->x∈bz es m->∃pre,bz es m=pre++x::bz es x/\∀y∈pre,y∈bz es m/\x∈bz es y
 | 0,m,x,h0,_,d,_=>by lia
 | n+1,m,x,h0,h1,d,a=>by
  have hm:=h.at h0 h1;have e:=fK h h0 h1;generalize f:es.getD m.toNat 0=k at hm e;by_cases c:k=-1
  .rw[e,di c]at a;cases a
  .rw[cq c]at e;rw[e]at a;obtain rfl|a:=fV.1 a
   .exact⟨[],by rw[e];rfl,λy b=>by cases b⟩
   .obtain⟨pre,p1,p2⟩:=sC h n (m:=k) We We We a;refine⟨k::pre,by rw[e,p1];rfl,λy b=>?_⟩;obtain rfl|b:=fV.1 b
    .exact⟨by rw[e];exact gj,a⟩
    .exact⟨by rw[e];exact i4 _ (p2 y b).1,(p2 y b).2⟩
variable{y:Int}
theorem lW(h:e7 es)(h0:0<=m)(h1:QbC)(b:x∈bz es m)(a:y∈bz es x):y∈bz es m:=by
 obtain⟨pre,p1,_⟩:=sC h (m.toNat+1) h0 h1 We b;exact p1▸i5 _ (i4 _ a)
theorem qE(h:e7 es)(h0:0<=m)(h1:QbC)(b:x∈bz es m)(a:y∈bz es m):x=y\/x∈bz es y\/y∈bz es x:=by
 obtain⟨pre,p1,p2⟩:=sC h (m.toNat+1) h0 h1 We b;rw[p1]at a;obtain a|a:=gY.1 a
 .exact .inr (.inl (p2 y a).2)
 .obtain e|a:=fV.1 a
  .exact .inl e.symm
  .exact .inr (.inr a)
theorem yX{es:AT}(h:e7 es):∀(n:Nat) {m:Int},0<=m->m<es.length->m<n->(bz es m).Pairwise (λa b=>b<a)
 | 0,m,h0,_,d=>by lia
 | n+1,m,h0,h1,d=>by
  have hm:=h.at h0 h1;rw[fK h h0 h1];split
  .exact .nil
  .have hs:=yX h n (m:=es.getD m.toNat 0) We We We;refine l9.2 ⟨λx c=>?_,hs⟩;have:=bf h We We c;lia
def JX(h:e7 es)(h0:0<=m)(h1:QbC)(a:es.getD m.toNat 0 ≠ -1):es.getD m.toNat 0∈bz es m:=by
 rw[fK h h0 h1,cq a];exact gj
def nj(es:AT):Prop:=e7 es/\∀k:Nat,k+1<es.length->es.getD Qaj 0=k\/es.getD Qaj 0∈bz es k
theorem nj.down(h:nj es){k:Nat}(c:k+1<es.length)(a:x∈bz es ((k+1:Nat):Int)):x=k\/x∈bz es k:=by
 have e:=fK h.1 (m:=((k+1:Nat))) We We;rw[ke]at e;have b:=h.2 k c;rw[e]at a;split at a
 .cases a
 .obtain a|a:=fV.1 a
  .obtain b|b:=b
   .exact .inl (a.trans b)
   .exact a ▸ .inr b
  .obtain b|b:=b
   .rw[b]at a;exact .inr a
   .exact .inr (lW h.1 We We b a)
def cR(es:AT)(u m:Int):AT:=(m::(bz es m).takeWhile QcT).reverse
def Aw(es:AT):Int->AT->Int->Prop
 | a,[],m=>a=m
 | a,x::l,m=>(0<=x/\x<es.length/\es.getD x.toNat 0=a)/\Aw es x l m
theorem Aw.snoc{es:AT}{m:Int}(h0:0<=m)(h1:QbC):∀{l:AT} {a:Int},Aw es a l Qfy->Aw es a (l++[m]) m
 | [],a,h=>⟨⟨h0,h1,Eq.symm h⟩,rfl⟩
 | x::l,a,h=>⟨h.1,Aw.snoc h0 h1 h.2⟩
variable{u:Int}
theorem DL(h:e7 es)(h0:0<=m)(h1:QbC)(c:u∈bz es m)(b:x∈(bz es m).takeWhile QcT):u∈bz es x:=by
 obtain⟨pre,p1,p2⟩:=sC h (m.toNat+1) h0 h1 We c;rw[p1]at b;have ne:∀y∈pre,decide (y≠u)=true:=λy a=>by
  have:=bf h (m:=y) (by have:=bf h h0 h1 (p2 y a).1;lia) (by have:=bf h h0 h1 (p2 y a).1;lia) (p2 y a).2;simp;lia
 have:(pre++u::bz es u).takeWhile QcT=pre:=by
  rw[Og ne,List.takeWhile_cons,cq WA,j2]
 rw[this]at b;exact(p2 x b).2
def Le(bC:Bz)(es:AT)(a b:Int):Int:=((bz es a).find? (λx=>bC x&&decide (x∈bz es b))).getD (-1)
theorem Fo{α:Type}{p:α->Bool}:∀{l:QR} {x:α},l.find? p=some x->∃pre a,l=pre++x::a/\p x=true/\∀y∈pre,p y=false
 | [],_,h=>by cases h
 | y::l,x,h=>by
  rw[rb]at h;cases e:p y with
  | true=>
   rw[e]at h;cases h;exact⟨[],l,rfl,e,WA ⟩
  | false=>
   rw[e]at h;obtain⟨pre,a,h1,h2,b⟩:=Fo h;refine⟨y::pre,a,WE,h2,λz hz=>?_⟩;obtain rfl|hz:=fV.1 hz
   .exact e
   simp_all
def VM(bC:Bz)(es:AT)(a b t:Int):Prop:=
 (t=-1/\∀x∈bz es a,x∈bz es b->bC x=false)\/(t∈bz es a/\t∈bz es b/\bC t=true/\∀x∈bz es a,x∈bz es b->bC x=true->x=t\/x∈bz es t)
variable{bC:Bz}
theorem agz(h:e7 es){a b:Int}(h0:0<=a)(h1:a<es.length):VM bC es a b (Le bC es a b):=by
 unfold Le;cases e:(bz es a).find? _ with
 | none=>
  refine .inl ⟨rfl,λx d k=>?_⟩;have:=List.find?_eq_none.1 e x d;simp_all
 | some t=>
  obtain⟨pre,i,p1,p2,j⟩:=Fo e;have g:t∈bz es a:=by simp_all
  simp at p2;refine .inr ⟨g,p2.2,p2.1,λx d k n=>?_⟩;obtain c|c|c:=qE h h0 h1 d g
  .exact .inl c
  .exact .inr c
  .exfalso;have hs:=yX h (a.toNat+1) h0 h1 We;rw[p1]at d hs;have m:=by
    have f:x∈bz es a:=p1▸d;have l:=bf h h0 h1 f;exact(bf h We We c).2.1
   obtain d|d:=gY.1 d
   .have:=j x d;lia
   .obtain e2|d:=fV.1 d
    .lia
    .have:=(l9.1 (yK.1 hs).2.1).1 x d;lia
variable{t:Int}
theorem VM.symm{a b:Int}(h:VM bC es a b t):VM bC es b a t:=by
 obtain⟨e,h⟩|⟨h1,h2,g,f⟩:=h
 .exact .inl ⟨e,λx d c=>h x c d⟩
 .exact .inr ⟨h2,h1,g,λx d c=>f x c d⟩
theorem VN{es:AT}{x:Int}(h:e7 es):∀(n:Nat) {k:Int},-1<=k->k<es.length->Ec n (es++[x]) k=Ec n es k
 | 0,_,_,_=>rfl
 | n+1,k,h0,h1=>by
  rw[Ec,Ec];split
  .rfl
  .have a:=h.at We h1;have e:(es++[x]).getD k.toNat 0=es.getD k.toNat 0:=by
    rw[la,N0 We,← la]
   rw[e,VN h n a.1 We]
def Fp{k:Nat}(h:QcA):(es++[x]).getD k 0=es.getD k 0:=by
 rw[la,N0 h,← la]
theorem agA(h:e7 es)(h0:0<=m)(h1:QbC):bz (es++[x]) m=bz es m:=by
 have hm:=h.at h0 h1;unfold bz;rw[Fp We,VN h _ hm.1 We,Fl h _ QdT hm.1 We WF We]
theorem e7.snoc(h:e7 es)(h0:-1<=x)(h1:QcB):e7 (es++[x]):=λk a=>by
 simp at a;by_cases e:k<es.length
 .exact Fp e▸h k e
 .have:k=es.length:=by lia
  simp_all
theorem nj.snoc(h:nj es){k:Nat}(d:k+1=es.length)(b:x=k\/x∈bz es k):nj (es++[x]):=by
 have a:-1<=x/\x<es.length:=by
  obtain e|e:=b
  .lia
  .have:=bf h.1 We We e;lia
 refine⟨h.1.snoc a.1 a.2,λj c=>?_⟩;simp at c;rw[agA h.1 We We];by_cases e:j+1<es.length
 .exact Fp e▸h.2 j e
 .have:j=k:=by lia
  simp_all
structure agB(es:AT)(m:Int)(L:Nat):Prop where
 le:m+1+L<=es.length
 iff:∀i:Nat,i<es.length->((m=-1\/m∈bz es i)↔m<i/\(i:Int)<m+1+L)
 eld:∀i:Nat,m<i->(i:Int)<m+1+L->m<=es.getD i 0
 beh:m+1+L=es.length\/es.getD (m+1+L).toNat 0<m
theorem R6(h:nj es)(h0:-1<=m)(h1:QbC):∃L,agB es m L:=by
 by_cases hm:m=-1
 .subst hm;refine⟨es.length,We,λi hi=>⟨λ_=>by lia,λ_=>.inl rfl⟩,λi hi d=>(h.1 i We).1,.inl We⟩
 .have h0:0<=m:=by lia
  have o:∀i:Nat,i<es.length->m∈bz es i->m<i:=λi hi b=>(bf h.1 We We b).2.1;have go:∀(r L:Nat),m+1+L+r=es.length->(∀i:Nat,m<i->(i:Int)<m+1+L->m∈bz es i)->∃n:Nat,m+1+n<=es.length/\(∀i:Nat,m<i->(i:Int)<m+1+n->m∈bz es i)/\(m+1+n=es.length\/m∉bz es (m+1+n)):=by
   intro r
   induction r with
   | zero=>intro L e l;exact⟨L,We,l,.inl We⟩
   | succ r q=>
    intro L e l;by_cases hw:m∈bz es (m+1+L)
    .refine q (L+1) We λi f d=>?_;by_cases hi:(i:Int)<m+1+L
     .exact l i f hi
     .have:(i:Int)=m+1+L:=by lia
      rw[this];exact hw
    .exact⟨L,We,l,.inr hw⟩
  obtain⟨L,t,k,p8⟩:=go (es.length-(m.toNat+1)) 0 We (λi f d=>by lia);have out:∀(r i:Nat),(i:Int)=m+1+L+r->i<es.length->m∉bz es i:=by
   intro r
   induction r with
   | zero=>
    intro i hi x b;obtain e|e:=p8
    .lia
    .rw[show(i:Int)=m+1+L by lia]at b;exact e b
   | succ r q=>
    intro i hi x b;obtain⟨j,rfl⟩:∃j,i=j+1:=⟨i-1,We⟩;obtain e|e:=h.down x b
    .lia
    .exact q j We We e
  refine⟨L,t,λi hi=>⟨λhw=>?_,λ⟨a,c⟩=>.inr (k i a c)⟩,λi f d=>?_,?_⟩
  .have b:=hw.resolve_left hm;have:=o i hi b;refine⟨this,?_⟩;by_cases A:(i:Int)<m+1+L
   .exact A
   .exact absurd b (out (i-(m.toNat+1+L)) i We hi)
  .have b:=k i f d;have hi:i<es.length:=by lia
   have e:=fK h.1 (m:=(i:Int)) We We;rw[ke]at e;rw[e]at b;split at b
   .cases b
   .rename_i B;have y:=h.1 i hi;obtain e2|b:=fV.1 b
    .lia
    .have:=bf h.1 (m:=es.getD i 0) We We b;lia
  .by_cases u:m+1+L=es.length
   .exact .inl u
   .refine .inr ?_;obtain⟨j,C⟩:∃j:Nat,(j:Int)=m+L:=⟨(m+L).toNat,We⟩;have g:j+1<es.length:=by lia
    have nw:m∉bz es ((j+1:Nat):Int):=out 0 QA We g;have v:m=j\/m∈bz es j:=by
     by_cases e:m=j
     .exact .inl e
     .exact .inr (k j We We)
    have et:(m+1+L).toNat=j+1:=by lia
    rw[et];have e:=fK h.1 (m:=((j+1:Nat):Int)) We We;rw[ke]at e;have y:=h.1 QA g;by_cases s:es.getD QA 0=-1
    .lia
    .rw[cq s]at e;rw[e]at nw;have n1:m≠es.getD QA 0:=λz=>nw (by rw[← z];exact gj);have p:m∉bz es (es.getD QA 0):=λz=>nw (i4 _ z);obtain z|z:=h.2 j g
     .rw[z]at n1 p;obtain w|w:=v
      .exact absurd w n1
      .exact absurd w p
     .obtain w|w:=v
      .have:=bf h.1 (m:=(j:Int)) We We z;lia
      .rcases qE h.1 (m:=(j:Int)) We We w z with c|c|c
       .exact absurd c n1
       .exact absurd c p
       .have:=bf h.1 (m:=m) We We c;lia
theorem tT:∀(n:Nat) (es:AT) (k:Int),(Ec n es k).length<=n
 | 0,_,_=>gZ _
 | n+1,es,k=>by
  rw[Ec];split
  .exact kn _
  .exact Nat.succ_le_succ (tT n es _)
noncomputable def bD(ks:At)(x:Int):Bool:=decide (ks.getD x.toNat Str.empty="one")
noncomputable def jl(es:AT)(m:Int):AT:=((List.range es.length).filter (λ(i:Nat)=>decide (es.getD i 0=m))).map (λ(i:Nat)=>(i:Int))
def ab3(es:AT)(m:Int):(((List.range es.length).map λ(i:Nat)=>D.tup [.int i,.int (es.getD i 0)]).filter (λd=>decide (d.at2.yb=m))).map (λd=>T.sh d.ox)=((jl es m).map D.int).map T.sh:=by
 unfold jl;rw[q9,kq,kq,kq];rfl
def VP(es:AT)(m:Int):(jl es m).length<=es.length:=by
 unfold jl;rw[d8];exact kv (oI _ _) WA
theorem qF(h:x∈jl es m):0<=x/\x<es.length/\es.getD x.toNat 0=m:=by
 obtain⟨i,hi,rfl⟩:=j0.1 h;obtain⟨h1,h2⟩:=kc.1 hi;have h1:=mN.1 h1;have h2:=ko h2;exact⟨We,We,‹_› ⟩
theorem Ax(h0:0<=x)(h1:QcB)(h2:es.getD x.toNat 0=m):x∈jl es m:=by
 refine List.mem_map.2 ⟨x.toNat,List.mem_filter.2 ⟨List.mem_range.2 We,by simpa using h2⟩,We⟩
def Ft(es:AT)(m:Int):(jl es m).Pairwise (· < ·):=by
 refine List.Pairwise.map _ (λa b h=>?_) (ro _ Ha);exact Int.ofNat_lt.2 h
noncomputable def OU(s:AT)(k:Int):Int:=if s.length=0 then k else s.getD (k % (s.length:Nat)).toNat 0 % 1000000007 / (1+k / (s.length:Nat))+k / (s.length:Nat)*k
def HU(es:AT)(m:Int)(n:Nat):Int:=(m::bz es m).getD n 0
variable{n:Nat}
theorem agE(a:n<=(bz es m).length):HU es m n=m\/HU es m n∈bz es m:=by
 cases n with
 | zero=>exact .inl rfl
 | succ n=>
  refine .inr ?_;unfold HU;show(bz es m).getD n 0∈_;rw[la,ma We];exact List.getElem_mem _
def Fv(n:Int)(es:AT)(j:Nat):Int:=if n % 3=0 then(if 2<((bz es j).length:Int)+1 then 2 else((bz es j).length:Int)+1) else((bz es j).length:Int)+1
def ID(s:AT)(n:Int)(es:AT)(j:Nat):Int:=if ((bz es j).length:Int)=12 then(if 1 > OU s Qf8 % Fv n es j then 1 else OU s Qf8 % Fv n es j) else OU s Qf8 % Fv n es j
theorem ab4(n:Int)(es:AT)(j:Nat):0<Fv n es j/\Fv n es j<=((bz es j).length:Int)+1:=by
 unfold Fv;split
 .split<;>lia
 .lia
theorem al6(s:AT)(n:Int)(es:AT)(j:Nat):0<=ID s n es j/\ID s n es j<=((bz es j).length:Int):=by
 obtain⟨h1,h2⟩:=ab4 n es j;have a:=mu (OU s Qf8) (b:=Fv n es j) We;have b:=l8 (OU s Qf8) h1;unfold ID;split
 .split<;>lia
 .lia
def qm(s:AT)(n:Int):Nat->AT
 | 0=>[-1]
 | j+1=>qm s n j++[HU (qm s n j) j (ID s n (qm s n j) j).toNat]
theorem al7(s:AT)(n:Int):∀j,(qm s n j).length=j+1/\nj (qm s n j)
 | 0=>⟨rfl,⟨λk a=>by
   have:(qm s n 0).length=1:=rfl;have:k=0:=by lia
   subst this;exact⟨Int.le_refl _,show(-1)<0 by decide⟩,λk a=>by
   have:(qm s n 0).length=1:=rfl;lia⟩⟩
 | j+1=>by
  obtain⟨h1,h2⟩:=al7 s n j;refine⟨by show(qm s n j++_).length=_;simp_all,?_⟩;have b:=al6 s n (qm s n j) j;exact h2.snoc h1.symm (agE We)
noncomputable def dO(isAll:Bz)(es ch:AT):Nat->AT
 | 0=>[0]
 | j+1=>if es.getD QA 0∈dO isAll es ch j/\(isAll (es.getD QA 0)=true\/ch.getD (es.getD QA 0).toNat 0=((j+1:Nat):Int)) then dO isAll es ch j++[((j+1:Nat):Int)] else dO isAll es ch j
theorem jE{isAll:Bz}{es ch:AT}:∀(j:Nat) {x:Int},x∈dO isAll es ch j->0<=x/\x<=j
 | 0,x,h=>by simp_all [dO]
 | j+1,x,h=>by
  rw[dO]at h;split at h
  .obtain h|h:=gY.1 h
   .have:=jE j h;lia
   .have:=by simpa using h
    lia
  .have:=jE j h;lia
theorem Ay{isAll:Bz}{es ch:AT}:∀(j:Nat),(dO isAll es ch j).length<=j+1
 | 0=>gZ _
 | j+1=>by
  have:=Ay (isAll:=isAll) (es:=es) (ch:=ch) j;rw[dO];split
  .simp;lia
  .lia
noncomputable def aq(ks:At)(x:Int):Bool:=decide (ks.getD x.toNat Str.empty="all")
noncomputable def aZ(ks:At)(x:Int):Bool:=decide (ks.getD x.toNat Str.empty="leaf")
noncomputable def tU(bC:Bz)(es gD acc:AT)(m:Int):AT:=if es.getD m.toNat 0∈gD/\bC Qfy=true then acc.set (es.getD m.toNat 0).toNat m else acc
def R7(bC:Bz)(es gD acc ops:AT):AT:=ops.foldl (tU bC es gD) acc
theorem Ed(bC:Bz)(es gD:AT):∀(ops acc:AT),(R7 bC es gD acc ops).length=acc.length
 | [],acc=>rfl
 | m::ops,acc=>by
  show(R7 _ es _ _ ops).length=_;rw[Ed _ es _ _];unfold tU;split
  .rw[oz]
  .rfl
def ab5(bC:Bz)(es gD acc ops:AT)(m:Int):R7 bC es gD acc (ops++[m])=tU bC es gD (R7 bC es gD acc ops) m:=by
 unfold R7;simp
noncomputable def setStep(bC:Bz)(ch acc:AT)(m:Int):AT:=if bC m=true then acc.set m.toNat (ch.getD m.toNat 0) else acc
def Yl(bC:Bz)(ch acc some:AT):AT:=some.foldl (setStep bC ch) acc
theorem Fw(bC:Bz)(ch:AT):∀(some acc:AT),(Yl bC ch acc some).length=acc.length
 | [],acc=>rfl
 | m::ops,acc=>by
  show(Yl _ ch _ ops).length=_;rw[Fw _ ch _];unfold setStep;split
  .rw[oz]
  .rfl
theorem ab6{bC:Bz}{es gD ch:AT} :
  ∀(ops acc:AT),(∀m∈ops,∀e,es.getD m.toNat 0=e->bC e=true->ch.getD e.toNat 0=m)->(∀e∈gD,0<=e/\e<acc.length)->∀i:Nat,i<acc.length →
   (R7 bC es gD acc ops).getD i 0=if (i:Int)∈gD/\bC i=true/\∃m∈ops,es.getD m.toNat 0=(i:Int) then ch.getD i 0 else acc.getD i 0
 | [],acc,_,_,i,_=>by
  simp;rfl
 | m::ops,acc,h,hm,i,hi=>by
  show(R7 bC es gD (tU bC es gD acc m) ops).getD i 0=_;have g:(tU bC es gD acc m).length=acc.length:=by
   unfold tU;split
   .rw[oz]
   .rfl
  rw[ab6 ops _ (λk a=>h k (i4 _ a)) (by rw[g];exact hm) i (by rw[g];exact hi)];by_cases h1:(i:Int)∈gD/\bC i=true/\∃m∈ops,es.getD m.toNat 0=(i:Int)
  .rw[di h1,di ⟨h1.1,h1.2.1,h1.2.2.imp λk a=>⟨i4 _ a.1,a.2⟩⟩]
  .rw[cq h1];unfold tU;by_cases h2:es.getD m.toNat 0∈gD/\bC Qfy=true
   .rw[di h2];have j:=hm _ h2.1;by_cases c:es.getD m.toNat 0=(i:Int)
    .rw[di ⟨by rw[← c];exact h2.1,by rw[← c];exact h2.2,m,gj,c⟩];have:=h m gj _ c (by rw[← c];exact h2.2);rw[ke]at this;rw[this,c,ke,la,yY hi];rfl
    .rw[cq (λz=>by
      obtain⟨f,d,k,a,b⟩:=z;obtain e|a:=fV.1 a
      .rw[e]at b;exact c b
      .exact h1 ⟨f,d,k,a,b⟩)]
     rw[la,G2 We,← la]
   .rw[cq h2];rw[cq (λz=>by
     obtain⟨f,d,k,a,b⟩:=z;obtain e|a:=fV.1 a
     .rw[e]at b;exact h2 ⟨by rw[b];exact f,by rw[b];exact d⟩
     .exact h1 ⟨f,d,k,a,b⟩)]
theorem Az{bC:Bz}{ch:AT}:∀(some acc:AT),(∀e∈some,0<=e/\e<acc.length)->∀i:Nat,i<acc.length →
   (Yl bC ch acc some).getD i 0=if (i:Int)∈some/\bC i=true then ch.getD i 0 else acc.getD i 0
 | [],acc,_,i,_=>rfl
 | m::ops,acc,hm,i,hi=>by
  show(Yl _ ch _ ops).getD i 0=_;have a:(setStep bC ch acc m).length=acc.length:=by
   unfold setStep;split
   .rw[oz]
   .rfl
  rw[Az _ _ (a▸λe he=>hm e Qec) i (a▸hi)];have c:=hm m gj;by_cases h1:(i:Int)∈ops/\bC i=true
  .rw[di h1,di ⟨i4 _ h1.1,h1.2⟩]
  .rw[cq h1];unfold setStep;by_cases h2:bC m=true
   .rw[di h2];by_cases b:m=i
    .subst b;rw[di ⟨ WA,h2⟩,ke,la,yY hi];rfl
    .rw[cq (λz=>by
      obtain e|e:=fV.1 z.1
      .exact b e.symm
      .exact h1 ⟨e,z.2⟩)]
     rw[la,G2 We,← la]
   .rw[cq h2,cq (λz=>by
     obtain e|e:=fV.1 z.1
     .rw[← e]at h2;exact h2 z.2
     simp_all)]
def ab7{a b:AT}(c:a.length=b.length)(h:∀i:Nat,i<a.length->a.getD i 0=b.getD i 0):a=b:=by
 apply List.ext_getElem c;intro i h1 h2;have:=h i h1;rw[la,la,ma h1,ma h2]at this;exact this
theorem qG{isAll:Bz}{es ch:AT}(g:e7 es):∀(j:Nat) {k:Nat},k<=j->j<es.length->(((k:Int)∈dO isAll es ch j)↔(k=0\/(es.getD k 0∈dO isAll es ch j/\(isAll QeQ=true\/ch.getD (es.getD k 0).toNat 0=(k:Int)))))
 | 0,k,n,h=>by
  have:k=0:=by lia
  subst this;simp[dO]
 | j+1,k,n,h=>by
  have mono:∀{x:Int},x∈dO isAll es ch j->x∈dO isAll es ch QA:=λ{x} a=>by
   rw[dO];split
   .exact ka _ a
   .exact a
  have back:∀{x:Int},x<((j+1:Nat):Int)->x∈dO isAll es ch QA->x∈dO isAll es ch j:=λ{x} p a=>by
   rw[dO]at a;split at a
   .obtain z|z:=gY.1 a
    .exact z
    .have:x=((j+1:Nat):Int):=by simpa using z
     lia
   .exact a
  by_cases e:k=j+1
  .subst e;have o:=g QA h;have m:((j+1:Nat):Int)∉dO isAll es ch j:=λz=>by
    have:=jE j z;lia
   constructor
   .intro z;rw[dO]at z;split at z
    .rename_i c;exact .inr ⟨mono c.1,c.2⟩
    .exact absurd z m
   .rintro(z|⟨d,b⟩)
    .lia
    .rw[dO,di ⟨back We d,b⟩];exact i5 _ WA
  .have f:=qG (isAll:=isAll) (ch:=ch) g j (k:=k) We We;have o:=g k We;constructor
   .intro z;obtain w|⟨l,i⟩:=f.1 (back We z)
    .exact .inl w
    .exact .inr ⟨mono l,i⟩
   .rintro(z|⟨d,b⟩)
    .exact mono (f.2 QbN)
    .exact mono (f.2 (.inr ⟨back We d,b⟩))
theorem gE{isAll:Bz}{es ch:AT}:∀j,(dO isAll es ch j).Pairwise (· < ·)
 | 0=>r3 _ _
 | j+1=>by
  rw[dO];split
  .refine yK.2 ⟨gE j,r3 _ _,λa d b c=>?_⟩;have:=jE j d;have:=by simpa using c
   lia
  .exact gE j
theorem kh:∀{a b:AT},a.Pairwise (· < ·)->b.Pairwise (· < ·)->(∀x,x∈a↔x∈b)->a=b
 | [],[],_,_,_=>rfl
 | [],y::b,_,_,h=>absurd ((h y).2 WA) WA
 | x::a,[],_,_,h=>absurd ((h x).1 gj) WA
 | x::a,y::b,g,f,h=>by
  obtain⟨a1,a2⟩:=l9.1 g;obtain⟨b1,b2⟩:=l9.1 f;have e:x=y:=by
   obtain e|d:=fV.1 ((h x).1 gj)
   .exact e
   .obtain e|c:=fV.1 ((h y).2 gj)
    .exact e.symm
    .have:=a1 y c;have:=b1 x d;lia
  subst e;rw[kh a2 b2 λz=>⟨λhz=>by
   obtain e|e:=fV.1 ((h z).1 QcH)
   .have:=a1 z hz;lia
   .exact e,λhz=>by
   obtain e|e:=fV.1 ((h z).2 QcH)
   .have:=b1 z hz;lia
   .exact e⟩]
noncomputable def iI(ss mem:AT)(a:Bool)(e:Int):Int:=if a=true/\mem.getD e.toNat 0 ≠ -1 then mem.getD e.toNat 0 else ss.getD e.toNat 0
def Nv(av isAll:Bz)(es ss mem:AT)(a:Bool)(m:Int):AT:=if av m=true then [] else if isAll m=true then jl es m else [iI ss mem a m]
def jm(av isAll:Bz)(es ss mem:AT)(far:Bool):Nat->Bool->Int->AT
 | 0,_,m=>[m]
 | d+1,near,m=>m::(Nv av isAll es ss mem (far || near) m).flatMap (λp=>jm av isAll es ss mem far d false p)
structure cX(av isAll:Bz)(es ss mem:AT):Prop where
 pre:nj es
 leaf:∀k:Nat,k<es.length->av k=true->jl es k=[]
 one:∀k:Nat,k<es.length->av k=false->isAll k=false->ss.getD k 0∈jl es k/\(mem.getD k 0=-1\/mem.getD k 0∈jl es k)
variable{av isAll:Bz}{mem:AT}
def VQ(h:QaB){u:Bool}{k:Nat}(b:QcA)(h1:av k=false)(h2:isAll k=false):iI ss mem u k∈jl es k:=by
 obtain⟨a,c⟩:=h.one k b h1 h2;unfold iI;split
 .rename_i z;exact c.resolve_left z.2
 .exact a
variable{p:Int}
def sE(h:QaB){u:Bool}{k:Nat}(b:QcA)(a:p∈Nv av isAll es ss mem u k):p∈jl es k:=by
 unfold Nv at a;split at a
 .cases a
 .rename_i h1;split at a
  .exact a
  .rename_i h2;have:=by simpa using a
   exact this▸VQ h b (by simpa using h1) (by simpa using h2)
def ab8(h:QaB){u:Bool}{k:Nat}(c:QcA)(a:p∈jl es k):p∈Nv av isAll es ss mem u k↔(isAll k=true\/iI ss mem u k=p):=by
 have b:av k=false:=by
  cases e:av k with
  | false=>rfl
  | true=>rw[h.leaf k c e]at a;cases a
 unfold Nv;rw[cq (by rw[b];decide)];cases e:isAll k with
 | true=>rw[di rfl];exact⟨λ_=>.inl rfl,λ_=>a⟩
 | false=>
  rw[cq Wp,kf];exact⟨λz=>.inr z.symm,λz=>z.elim (λz=>by cases z) (λz=>z.symm)⟩
theorem cu(h:nj es)(b:p∈jl es k):0<=p/\p<es.length/\es.getD p.toNat 0=k/\k<p:=by
 have a:=qF b;have:=h.1 p.toNat We;refine⟨a.1,a.2.1,a.2.2,?_⟩;lia
theorem OV(h:QaB){far:Bool}:∀(a c:Nat) {near:Bool} {k:Nat},k<es.length->es.length<=k+a+1->es.length<=k+c+1->jm av isAll es ss mem far a near k=jm av isAll es ss mem far c near k
 | 0,0,_,_,_,_,_=>rfl
 | 0,c+1,near,k,d,f,_=>by
  have:Nv av isAll es ss mem (far || near) k=[]:=List.eq_nil_iff_forall_not_mem.2 λp b=>by
   have:=cu h.pre (sE h d b);lia
  rw[jm,jm,this];rfl
 | a+1,0,near,k,d,_,e=>by
  have:Nv av isAll es ss mem (far || near) k=[]:=List.eq_nil_iff_forall_not_mem.2 λp b=>by
   have:=cu h.pre (sE h d b);lia
  rw[jm,jm,this];rfl
 | a+1,c+1,near,k,d,f,e=>by
  rw[jm,jm];congr 1;rw[List.flatMap_def,List.flatMap_def];congr 1;apply nz;intro p b;have g:=cu h.pre (sE h d b);obtain⟨q,rfl⟩:∃q:Nat,p=q:=⟨p.toNat,We⟩;exact OV h a c We We We
theorem g8(h:QaB){far:Bool}:∀(d:Nat) {near:Bool} {k:Nat},k<es.length->es.length<=k+d+1->∀x:Nat,x<es.length →
  ((x:Int)∈jm av isAll es ss mem far d near k↔(x=k\/(k<x/\es.getD x 0∈jm av isAll es ss mem far d near k/\(isAll QeR=true\/iI ss mem (far || (near&&decide (es.getD x 0=(k:Int)))) QeR=(x:Int)))))
 | 0,near,k,j,hd,x,i=>by
  rw[jm,kf];have t:=h.pre.1 x i;constructor
  .intro z;exact .inl We
  .rintro(z|⟨n,b,_⟩)
   .lia
   .lia
 | d+1,near,k,j,hd,x,i=>by
  have t:=h.pre.1 x i;rw[jm,fV,l0];have Ca:∀p∈Nv av isAll es ss mem (far || near) k,∀y:Nat,y<es.length->((y:Int)∈jm av isAll es ss mem far d false p↔((y:Int)=p\/(p<y/\es.getD y 0∈jm av isAll es ss mem far d false p/\(isAll (es.getD y 0)=true\/iI ss mem far (es.getD y 0)=(y:Int))))):=λp a y c=>by
   have l:=cu h.pre (sE h j a);obtain⟨q,rfl⟩:∃q:Nat,p=q:=⟨p.toNat,We⟩;have:=g8 h (far:=far) d (near:=false) (k:=q) We We y c;rw[this];simp only[Bool.false_and,Bool.or_false];constructor
   .rintro(z|⟨n,b⟩)
    .exact .inl We
    .exact .inr ⟨We,b⟩
   .rintro(z|⟨n,b⟩)
    .exact .inl We
    .exact .inr ⟨We,b⟩
  have f:∀(dd:Nat) (p:Nat),p<es.length->∀y:Int,y∈jm av isAll es ss mem far dd false p->(p:Int)<=y:=by
   intro dd
   induction dd with
   | zero=>intro p _ y c;rw[jm,kf]at c;lia
   | succ dd s=>
    intro p a y c;rw[jm,fV,l0]at c;obtain e|⟨q,u,c⟩:=c
    .lia
    .have l:=cu h.pre (sE h a u);obtain⟨r,rfl⟩:∃r:Nat,q=r:=⟨q.toNat,We⟩;have:=s r We y c;lia
  constructor
  .rintro(z|⟨p,a,z⟩)
   .exact .inl We
   .have g:=sE h j a;have l:=cu h.pre g;have v:p<=x:=by
     obtain⟨q,rfl⟩:∃q:Nat,p=q:=⟨p.toNat,We⟩;exact f d q We x z
    refine .inr ⟨We,?_⟩;rcases(Ca p a x i).1 z with e|⟨e1,e2,e3⟩
    .have w:es.getD x 0=(k:Int):=by
      rw[← e,ke]at l;exact l.2.2.1
     rw[w];refine⟨gj,?_⟩;rw[lx rfl,ui];have:=(ab8 h j g).1 a;rw[← e]at this;exact this
    .have o:p<=es.getD x 0:=by
      obtain⟨q,rfl⟩:∃q:Nat,p=q:=⟨p.toNat,We⟩;exact f d q We _ e2
     refine⟨i4 _ (l0.2 ⟨p,a,e2⟩),?_⟩;rw[ky We,FX,Bool.or_false];exact e3
  .rintro(z|⟨n,b,m⟩)
   .exact .inl We
   .obtain e|b:=fV.1 b
    .
     have g:(x:Int)∈jl es k:=Ax We We (by rw[ke];exact e);rw[e,lx rfl,ui]at m;have a:=(ab8 h j g).2 m;exact .inr ⟨x,a,(Ca x a x i).2 Q4⟩
    .obtain⟨p,a,b⟩:=l0.1 b;have g:=sE h j a;have l:=cu h.pre g;have o:p<=es.getD x 0:=by
      obtain⟨q,rfl⟩:∃q:Nat,p=q:=⟨p.toNat,We⟩;exact f d q We _ b
     rw[ky We,FX,Bool.or_false]at m;exact .inr ⟨p,a,(Ca p a x i).2 (.inr ⟨We,b,m⟩)⟩
theorem aQ(h:QaB){far:Bool}:∀(d:Nat) {near:Bool} {k:Nat},k<es.length->∀y∈jm av isAll es ss mem far d near k,0<=y/\y<es.length/\(y=k\/(k:Int)∈bz es y)
 | 0,near,k,g,y,a=>by
  rw[jm,kf]at a;exact⟨We,We,.inl a⟩
 | d+1,near,k,g,y,a=>by
  rw[jm,fV,l0]at a;obtain e|⟨p,j,a⟩:=a
  .exact⟨We,We,.inl e⟩
  .have l:=cu h.pre (sE h g j);obtain⟨q,rfl⟩:∃q:Nat,p=q:=⟨p.toNat,We⟩;obtain⟨f,c,i⟩:=aQ h d We y a;have b:(k:Int)∈bz es q:=by
    rw[fK h.pre.1 We We,l.2.2.1];simp
   refine⟨f,c,.inr ?_⟩;obtain e|e:=i
   .exact e▸b
   .exact lW h.pre.1 f c e b
theorem gX(h:QaB){far:Bool}:∀(d:Nat) {near:Bool} {k:Nat},k<es.length->(jm av isAll es ss mem far d near k).Pairwise (· < ·)
 | 0,_,_,_=>by rw[jm];exact r3 _ _
 | d+1,near,k,g=>by
  rw[jm];refine l9.2 ⟨λy b=>?_,List.pairwise_flatMap.2 ⟨λp f=>?_,?_⟩⟩
  .obtain⟨p,f,b⟩:=l0.1 b;have s:=cu h.pre (sE h g f);obtain⟨q,rfl⟩:∃q:Nat,p=q:=⟨p.toNat,We⟩;obtain⟨l,j,i⟩:=aQ h d (k:=q) We y b;obtain e|e:=i
   .lia
   .have:=bf h.pre.1 l j e;lia
  .have s:=cu h.pre (sE h g f);obtain⟨q,rfl⟩:∃q:Nat,p=q:=⟨p.toNat,We⟩;exact gX h d We
  .have hs:(Nv av isAll es ss mem (far || near) k).Pairwise (· < ·):=by
    unfold Nv;split
    .exact .nil
    .split
     .exact Ft es k
     .exact r3 _ _
   refine K7 ?_ hs;intro p r f n v x w y b;have s:=cu h.pre (sE h g f);have o:=cu h.pre (sE h g n);obtain⟨q,rfl⟩:∃q:Nat,p=q:=⟨p.toNat,We⟩;obtain⟨a,rfl⟩:∃a:Nat,r=a:=⟨r.toNat,We⟩;obtain⟨x0,B,t⟩:=aQ h d (k:=q) We x w;obtain⟨l,j,i⟩:=aQ h d (k:=a) We y b;obtain⟨L,S⟩:=R6 h.pre (m:=(q:Int)) We We;have xL:x<(q:Int)+1+L:=by
    obtain e|e:=t
    .lia
    .obtain⟨z,rfl⟩:∃z:Nat,x=z:=⟨x.toNat,We⟩;exact((S.iff z We).1 (.inr e)).2
   have u:¬ ((q:Int)∈bz es a):=λz=>by
    rw[fK h.pre.1 (m:=(a:Int)) We We,o.2.2.1,cq We]at z;obtain e|e:=fV.1 z
    .lia
    .have:=bf h.pre.1 (m:=(k:Int)) We We e;lia
   have A:(q:Int)+1+L<=a:=by
    have:=S.iff a We;by_cases c:(a:Int)<(q:Int)+1+L
    .exact absurd ((this.2 ⟨v,c⟩).resolve_left We) u
    .lia
   have:(a:Int)<=y:=by
    obtain e|e:=i
    .lia
    .have:=bf h.pre.1 l j e;lia
   lia
def Fx(isAll:Bz)(es ss mem:AT)(far near:Bool)(k:Nat):Nat->AT
 | 0=>[(k:Int)]
 | j+1=>if es.getD QbO 0∈Fx isAll es ss mem far near k j/\(isAll (es.getD QbO 0)=true\/iI ss mem (far || (near&&decide (es.getD QbO 0=(k:Int)))) (es.getD QbO 0)=((k+1+j:Nat):Int)) then Fx isAll es ss mem far near k j++[((k+1+j:Nat):Int)] else Fx isAll es ss mem far near k j
theorem xo{far near:Bool}{k:Nat}:∀(j:Nat) {x:Int},x∈Fx isAll es ss mem far near k j->k<=x/\x<=k+j
 | 0,x,h=>by simp_all [Fx]
 | j+1,x,h=>by
  rw[Fx]at h;split at h
  .obtain h|h:=gY.1 h
   .have:=xo j h;lia
   .have:=by simpa using h
    lia
  .have:=xo j h;lia
theorem yZ{far near:Bool}{k:Nat}:∀j,(Fx isAll es ss mem far near k j).Pairwise (· < ·)
 | 0=>r3 _ _
 | j+1=>by
  rw[Fx];split
  .refine yK.2 ⟨yZ j,r3 _ _,λa d b c=>?_⟩;have:=xo j d;have:=by simpa using c
   lia
  .exact yZ j
theorem Sb(h:QaB){far near:Bool}{k d:Nat}(f:QcA)(hd:es.length<=k+d+1):∀(j:Nat),k+j<es.length->∀x:Nat,x<=k+j->((x:Int)∈Fx isAll es ss mem far near k j↔(x:Int)∈jm av isAll es ss mem far d near k)
 | 0,o,x,m=>by
  rw[Fx,kf,g8 h d f hd x We];constructor
  .intro z;exact .inl We
  .rintro(z|⟨z,_⟩)
   .lia
   .lia
 | j+1,o,x,m=>by
  have g:=Sb h (far:=far) (near:=near) f hd j We;have r:=h.pre.1 QbO We;have mono:∀{y:Int},y∈Fx isAll es ss mem far near k j->y∈Fx isAll es ss mem far near k QA:=λ{y} a=>by
   rw[Fx];split
   .exact ka _ a
   .exact a
  have back:∀{y:Int},y<((k+1+j:Nat):Int)->y∈Fx isAll es ss mem far near k QA->y∈Fx isAll es ss mem far near k j:=λ{y} p a=>by
   rw[Fx]at a;split at a
   .obtain z|z:=gY.1 a
    .exact z
    .have:y=((k+1+j:Nat):Int):=by simpa using z
     lia
   .exact a
  by_cases e:x=k+1+j
  .subst e;rw[g8 h d f hd QbO We];have nx:((k+1+j:Nat):Int)∉Fx isAll es ss mem far near k j:=λz=>by
    have:=xo j z;lia
   have b:es.getD QbO 0∈Fx isAll es ss mem far near k j↔es.getD QbO 0∈jm av isAll es ss mem far d near k:=by
    by_cases e0:es.getD QbO 0=-1
    .rw[e0];constructor
     .intro z;have:=xo j z;lia
     .intro z;have:=aQ h d f _ z;lia
    .obtain⟨q,n⟩:∃q:Nat,es.getD QbO 0=q:=⟨(es.getD QbO 0).toNat,We⟩;rw[n];exact g q We
   constructor
   .intro z;rw[Fx]at z;split at z
    .rename_i c;exact .inr ⟨We,b.1 c.1,c.2⟩
    .exact absurd z nx
   .rintro(z|⟨_,l,i⟩)
    .lia
    .rw[Fx,di ⟨b.2 l,i⟩];exact i5 _ WA
  .have:=g x We;constructor
   .intro z;exact this.1 (back We z)
   .intro z;exact mono (this.2 z)
variable{far near:Bool}
theorem Ym(h:QaB){k d:Nat}(b:QcA)(hd:es.length<=k+d+1):jm av isAll es ss mem far d near k=Fx isAll es ss mem far near k (es.length-1-k):=by
 refine kh (gX h d b) (yZ _) λx=>?_;constructor
 .intro a;have c:=aQ h d b x a;obtain⟨q,rfl⟩:∃q:Nat,x=q:=⟨x.toNat,We⟩;exact(Sb h b hd _ We q We).2 a
 .intro a;have c:=xo _ a;obtain⟨q,rfl⟩:∃q:Nat,x=q:=⟨x.toNat,We⟩;exact(Sb h b hd _ We q We).1 a
def qY(mode:Str):Prop:=mode="new" \/ mode="near" \/ mode="far"
noncomputable def ef(mode:Str):Bool:=decide (mode="far")
noncomputable def gM(mode:Str):Bool:=decide (mode="near")
def HY(ks:At)(es ss mem:AT)(mode:Str)(m:Int):AT:=jm Qax QU es ss mem (ef mode) es.length (gM mode) m
theorem AA(h:QaB){d k:Nat}(g:QcA):(jm av isAll es ss mem far d near k).length<=es.length:=by
 have hs:=gX h (far:=far) d (near:=near) g;have e:=aQ h (far:=far) d (near:=near) g;generalize jm _ _ es ss _ _ d _ k=l at hs e;have go:∀(l:List _) (lo:Int),l.Pairwise (· < ·)->(∀x∈l,lo<=x/\x<es.length)->l.length<=es.length-lo\/l=[]:=by
  intro l
  induction l with
  | nil=>intro lo _ _;exact .inr rfl
  | cons x r i=>
   intro lo h1 h2;obtain⟨a,c⟩:=l9.1 h1;have b:=h2 x gj;rcases i _ c (λy f=>⟨a y f,(h2 y (i4 _ f)).2⟩) with z|z
   .left;grind
   .left;rw[z];simp;lia
 rcases go l 0 hs (λx b=>⟨(e x b).1,(e x b).2.1⟩) with z|z
 .lia
 simp_all
def jn(es:AT)(u t x:Int):Prop:=x=t\/(x∈bz es t/\(u=-1\/u∈bz es x))
theorem Fy(h:e7 es)(t0:0<=t)(t1:Qa3)(a:QdF)(x:Int):x∈cR es u t↔jn es u t x:=by
 unfold cR jn;rw[y1,fV];refine or_congr Iff.rfl ?_;obtain rfl|a:=a
 .have e:(bz es t).takeWhile (λx=>decide (x ≠ -1))=bz es t:=by
   have:=Og (p:=λx=>decide (x≠(-1:Int))) (l₁:=bz es t) (l₂:=[]) (λy b=>by
    have:=bf h t0 t1 b;simp;lia)
   simpa using this
  simp_all
 .have i:=bf h t0 t1 a;constructor
  .intro z;exact⟨(KO _).subset z,.inr (DL h t0 t1 a z)⟩
  .rintro⟨c,f⟩;obtain⟨pre,p1,p2⟩:=sC h (t.toNat+1) t0 t1 We a;have ne:∀y∈pre,decide (y≠u)=true:=λy b=>by
    have g:=bf h t0 t1 (p2 y b).1;have:=bf h (m:=y) We We (p2 y b).2;simp;lia
   have e:(bz es t).takeWhile QcT=pre:=by
    rw[p1,Og ne,List.takeWhile_cons,cq WA,j2]
   rw[e];have k:=bf h t0 t1 c;have d:u∈bz es x:=f.resolve_left We;have j:=bf h (m:=x) We We d;rw[p1]at c;obtain z|z:=gY.1 c
   .exact z
   .obtain z|z:=fV.1 z
    .lia
    .have:=bf h (m:=u) We We z;lia
variable{t:Nat}
def QL(av isAll:Bz)(es ss mem:AT)(far near:Bool)(u:Int)(t:Nat)(x:Int):Prop:=
 (jn es u t x/\x≠t)\/x∈jm av isAll es ss mem far es.length near t\/∃s p,jn es u t s/\s≠t/\isAll s=true/\p∈jl es s/\¬ jn es u t p/\x∈jm av isAll es ss mem false es.length false p
def AF(av isAll:Bz)(es ss mem:AT)(far near:Bool)(u:Int)(t:Nat)(e x:Int):Prop:=
 isAll e=true\/(iI ss mem ((decide (e=t)&&(far || near)) || Qj5) e=x/\(e=t\/¬ jn es u t e))
theorem jN(h:e7 es)(b:Qa3)(a:jn es u t x):0<=x/\x<=t:=by
 obtain e|⟨e,_⟩:=a
 .lia
 .have:=bf h We We e;lia
variable{s:Int}
theorem VR(h:e7 es)(c:Qa3)(hs:jn es u t s)(d:p∈jl es s)(a:p∈bz es t\/p=t):jn es u t p:=by
 obtain a|a:=a
 .refine .inr ⟨a,?_⟩;have f:=jN h c hs;have b:=qF d;have pb:=bf h (m:=(t:Int)) We We a;have e:=fK h (m:=p) b.1 b.2.1;rw[b.2.2,cq We]at e;have st:s∈bz es t:=lW h We We a (by rw[e];exact gj);obtain z|⟨_,z|z⟩:=hs
  .have:=bf h (m:=(t:Int)) We We st;lia
  .exact .inl z
  .exact .inr (by rw[e];exact i4 _ z)
 .exact .inl a
theorem vz(h:QaB)(d:Qa3)(hs:jn es u t s)(c:s≠t)(f:p∈jl es s)(hpl:¬ jn es u t p)(b:x=p\/p∈bz es x)(x0:0<=x)(g:QcB):¬ jn es u t x/\¬ (x=t\/(t:Int)∈bz es x):=by
 have a:=h.pre.1;have i:=jN a d hs;have pb:=cu h.pre f;have up:=λz=>hpl (VR a d hs f z);have key:¬ (x=t\/(t:Int)∈bz es x):=by
  rintro(z|z)
  .rw[z]at b;obtain e|e:=b
   .exact up (.inr e.symm)
   .exact up (.inl e)
  .obtain e|e:=b
   .rw[e,fK a (m:=p) pb.1 pb.2.1,pb.2.2.1,cq We]at z;obtain w|w:=fV.1 z
    .exact c w.symm
    .have:=bf a (m:=s) We We w;lia
   .obtain w|w|w:=qE a x0 g z e
    .exact up (.inr w.symm)
    .rw[fK a (m:=p) pb.1 pb.2.1,pb.2.2.1,cq We]at w;obtain v|v:=fV.1 w
     .exact c v.symm
     .have:=bf a (m:=s) We We v;lia
    .exact up (.inl w)
 refine⟨λz=>?_,key⟩;obtain z|⟨z,_⟩:=z
 .exact key QbN
 .obtain e|e:=b
  .rw[e]at z;exact up QbN
  .exact up (.inl (lW a We We z e))
theorem Ef(h:QaB)(c:Qa3)(x:Nat)(g:QcB) :
  QL av isAll es ss mem far near u t x↔(jn es u t x\/(QL av isAll es ss mem far near u t QeR/\¬ jn es u t x/\AF av isAll es ss mem far near u t QeR x)):=by
 have i:=h.pre.1;have P:=i x g;have f:=λy F=>aQ h (far:=far) (near:=near) es.length c y F;have xf:(t:Int)∈jm av isAll es ss mem far es.length near t:=(g8 h es.length c We t c).2 Q4;have n:∀y:Int,y∈jm av isAll es ss mem far es.length near t->y≠t->¬ jn es u t y:=λy F M z=>by
  obtain⟨D,C,B⟩:=f y F;have:=jN i c z;obtain e|e:=B
  .exact M e
  .have:=bf i D C e;lia
 constructor
 .rintro(z|z|⟨s,p,a,l,j,o,A,m⟩)
  .exact .inl z.1
  .by_cases e:(x:Int)=t
   .exact .inl (.inl e)
   .refine .inr ?_;have I:=z;rw[g8 h es.length c We x g]at I;obtain⟨r,d,b⟩:=I.resolve_left We;refine⟨.inr (.inl d),n x z e,?_⟩;unfold AF;obtain b|b:=b
    .exact .inl b
    .refine .inr ⟨?_,?_⟩
     .rw[lx d,ui];rw[← b];congr 1;cases far<;>cases near<;>simp
     .by_cases e2:es.getD x 0=t
      .exact .inl e2
      .exact .inr (n _ d e2)
  .have pb:=cu h.pre o;have K:=jN i c a;obtain⟨q,rfl⟩:∃q:Nat,p=q:=⟨p.toNat,We⟩;obtain⟨D,C,B⟩:=aQ h (far:=false) (near:=false) es.length (k:=q) We x m;obtain⟨N,O⟩:=vz h c a l o A B D C;refine .inr ⟨?_,N,?_⟩
   .rw[g8 h es.length (k:=q) We We x g]at m;obtain w|⟨_,d,_⟩:=m
    .subst w;have:es.getD x 0=s:=by have:=pb.2.2.1;rwa [ke]at this
     rw[this];exact .inl ⟨a,l⟩
    .exact .inr (.inr ⟨s,q,a,l,j,o,A,d⟩)
   .rw[g8 h es.length (k:=q) We We x g]at m;unfold AF;obtain w|⟨_,d,b⟩:=m
    .subst w;have:es.getD x 0=s:=by have:=pb.2.2.1;rwa [ke]at this
     rw[this];exact .inl j
    .obtain b|b:=b
     .exact .inl b
     .obtain⟨e0,e1,e2⟩:=aQ h (far:=false) (near:=false) es.length (k:=q) We _ d;obtain⟨p1,p2⟩:=vz h c a l o A e2 e0 e1;refine .inr ⟨?_,.inr p1⟩;rw[ky (λz=>p2 QbN),ky QkO];rw[← b];congr 1;simp
 .rintro(z|⟨a,l,j⟩)
  .by_cases e:(x:Int)=t
   .rw[e];exact .inr (.inl xf)
   .exact .inl ⟨z,e⟩
  .unfold AF at j;obtain a|a|⟨s,p,r,d,b,E,J,w6⟩:=a
   .
    have K:=jN i c a.1;have H:isAll QeR=true:=j.elim id (λw=>w.2.elim (λv=>absurd v a.2) (λv=>absurd a.1 v));have L:(x:Int)∈jl es QeR:=Ax We We (by rw[ke]);exact .inr (.inr ⟨_,x,a.1,a.2,H,L,l,(g8 h es.length g We x g).2 Q4⟩)
   .obtain⟨e0,e1,e2⟩:=f _ a;have G:(t:Int)<=es.getD x 0:=by
     obtain e|e:=e2
     .lia
     .have:=bf i e0 e1 e;lia
    refine .inr (.inl ((g8 h es.length c We x g).2 (.inr ⟨We,a,?_⟩)));obtain w|⟨w,_⟩:=j
    .exact .inl w
    .refine .inr ?_;rw[← w,lx a,ui];congr 1;cases far<;>cases near<;>simp
   .have pb:=cu h.pre E;have K:=jN i c r;obtain⟨q,rfl⟩:∃q:Nat,p=q:=⟨p.toNat,We⟩;obtain⟨e0,e1,e2⟩:=aQ h (far:=false) (near:=false) es.length (k:=q) We _ w6;obtain⟨p1,p2⟩:=vz h c r d E J e2 e0 e1;have G:(q:Int)<=es.getD x 0:=by
     obtain e|e:=e2
     .lia
     .have:=bf i e0 e1 e;lia
    refine .inr (.inr ⟨s,q,r,d,b,E,J,(g8 h es.length (k:=q) We We x g).2 (.inr ⟨We,w6,?_⟩)⟩);obtain w|⟨w,_⟩:=j
    .exact .inl w
    .refine .inr ?_;rw[← w,ky (λz=>p2 QbN),ky QkO];congr 1;simp
def pw(av isAll:Bz)(es ss mem:AT)(far near:Bool)(u:Int)(t:Nat):AT:=
 (cR es u t).dropLast++jm av isAll es ss mem far es.length near t++((cR es u t).dropLast.filter QjQ).flatMap (λs=>((jl es s).filter Qis).flatMap (λp=>jm av isAll es ss mem false es.length false p))
def Cb(es:AT)(u t:Int):(cR es u t).dropLast=((bz es t).takeWhile QcT).reverse:=by
 unfold cR;rw[nc,List.dropLast_concat]
theorem xq(h:e7 es)(d:Qa3)(b:x∈(cR es u t).dropLast):x∈cR es u t/\x≠t:=by
 have a:=b;rw[Cb,y1]at b;have c:=(KO _).subset b;have:=bf h We We c;exact⟨List.dropLast_subset _ a,We⟩
def VW(a:x∈cR es u t)(b:x≠t):x∈(cR es u t).dropLast:=by
 rw[Cb,y1];unfold cR at a;rw[y1]at a;exact(fV.1 a).resolve_left b
theorem tV(h:QaB)(b:Qa3)(j:QdF)(x:Int):x∈pw av isAll es ss mem far near u t↔QL av isAll es ss mem far near u t x:=by
 have li:=Fy h.pre.1 We We j;unfold pw QL;rw[gY,gY,or_assoc];refine or_congr ?_ (or_congr Iff.rfl ?_)
 .constructor
  .intro z;obtain⟨a,c⟩:=xq h.pre.1 b z;simp_all
  .rintro⟨a,c⟩;exact VW ((li x).2 a) c
 .simp only[l0,kc];constructor
  .rintro⟨s,⟨s1,s2⟩,p,⟨p1,p2⟩,z⟩;obtain⟨a,c⟩:=xq h.pre.1 b s1;refine⟨s,p,(li s).1 a,c,s2,p1,λw=>?_,z⟩;simp_all
  .rintro⟨s,p,i,g,f,e,k,d⟩;refine⟨s,⟨VW ((li s).2 i) g,f⟩,p,⟨e,?_⟩,d⟩;simp_all
variable{l:AT}
theorem pS(h:l.Pairwise (· < ·)):l.Nodup:=List.Pairwise.imp (λ{a b} c=>by lia) h
theorem Cd(h:QaB)(j:Qa3)(Y:QdF):(pw av isAll es ss mem far near u t).Nodup:=by
 have d:=h.pre.1;have li:=Fy d (u:=u) (t:=(t:Int)) We We Y;have E:(cR es u t).dropLast.Nodup:=by
  rw[Cb];have hs:=yX d (t+1) (m:=(t:Int)) We We We;exact List.pairwise_reverse.2 (List.Pairwise.imp (λ{a b} (Oe:b<a)=>(by lia:b≠a)) (List.Pairwise.sublist (KO _) hs))
 have side:∀s∈(cR es u t).dropLast.filter QjQ,∀p∈(jl es s).filter Qis,jn es u t s/\s≠t/\p∈jl es s/\¬ jn es u t p:=λs hs p n=>by
  obtain⟨s1,s2⟩:=kc.1 hs;obtain⟨p1,p2⟩:=kc.1 n;obtain⟨a,c⟩:=xq d j s1;refine⟨(li s).1 a,c,p1,λw=>?_⟩;rw[lx ((li p).2 w)]at p2;cases p2
 have wit:∀s p x,jn es u t s->s≠t->p∈jl es s->¬ jn es u t p->x∈jm av isAll es ss mem false es.length false p->0<=x/\x<es.length/\(x=p\/p∈bz es x):=λs p x _ _ n _ v=>by
  have pb:=cu h.pre n;have J:∃q:Nat,p=q:=⟨p.toNat,by
   have:=pb.1;lia⟩
  obtain⟨q,rfl⟩:=J;exact aQ h es.length We x v
 unfold pw;refine lj.2 ⟨lj.2 ⟨E,pS (gX h _ j),λa M b B e=>?_⟩,?_,λa M b B e=>?_⟩
 .subst e;obtain⟨a1,a2⟩:=xq d j M;have lb:=jN d j ((li a).1 a1);obtain⟨U,T,S⟩:=aQ h es.length j a B;obtain e|e:=S
  .exact a2 e
  .have:=bf d U T e;lia
 .refine List.pairwise_flatMap.2 ⟨λs hs=>List.pairwise_flatMap.2 ⟨λp n=>?_,?_⟩,?_⟩
  .obtain⟨_,_,p1,_⟩:=side s hs p n;have pb:=cu h.pre p1;have J:∃q:Nat,p=q:=⟨p.toNat,by
    have:=pb.1;lia⟩
   obtain⟨q,rfl⟩:=J;exact pS (gX h _ We)
  .have K:((jl es s).filter Qis).Pairwise (· < ·):=ro _ (Ft es s);refine K7 ?_ K;intro p l n A lP x v y G e;subst e;obtain⟨s1,s2,p1,p2⟩:=side s hs p n;obtain⟨_,_,i,r⟩:=side s hs l A;obtain⟨x0,D,C⟩:=wit s p x s1 s2 p1 p2 v;obtain⟨_,_,k⟩:=wit s l x s1 s2 i r G;have pb:=cu h.pre p1;have f:=cu h.pre i;have N:=jN d j s1;have R:∀z,z∈bz es l->z<=s:=λz hz=>by
    rw[fK d (m:=l) f.1 f.2.1,f.2.2.1,cq We]at hz;obtain w|w:=fV.1 hz
    .lia
    .have:=bf d (m:=s) We We w;lia
   have P:∀z,z∈bz es p->z<=s:=λz hz=>by
    rw[fK d (m:=p) pb.1 pb.2.1,pb.2.2.1,cq We]at hz;obtain w|w:=fV.1 hz
    .lia
    .have:=bf d (m:=s) We We w;lia
   obtain e|e:=C
   .obtain g|g:=k
    .lia
    .rw[e]at g;have:=P _ g;lia
   .obtain g|g:=k
    .rw[g]at e;have:=R _ e;lia
    .obtain w|w|w:=qE d x0 D e g
     .lia
     .have:=R _ w;lia
     .have:=P _ w;lia
  .have L:((cR es u t).dropLast.filter QjQ).Nodup:=ro _ E;refine K7 ?_ L;intro s s' hs Z V x v y G e;subst e;obtain⟨p,n,v⟩:=l0.1 v;obtain⟨l,A,G⟩:=l0.1 G;obtain⟨s1,s2,p1,p2⟩:=side s hs p n;obtain⟨o,I,i,r⟩:=side s' Z l A;obtain⟨x0,D,C⟩:=wit s p x s1 s2 p1 p2 v;obtain⟨_,_,k⟩:=wit s' l x o I i r G;have pb:=cu h.pre p1;have f:=cu h.pre i;have N:=jN d j s1;have H:=jN d j o;have up:∀{s p s':Int},jn es u t s->p∈jl es s->¬ jn es u t p->jn es u t s'->0<=s'->¬ (p=s'\/p∈bz es s'):=λ{s p s'} ls pin np F _ z=>by
    refine np ?_;obtain z|z:=z
    .rw[z];exact F
    .refine VR d j ls pin (.inl ?_);obtain w|⟨w,_⟩:=F
     .rw[← w];exact z
     .exact lW d We We w z
   have d1:¬ p∈bz es l:=λz=>by
    rw[fK d (m:=l) f.1 f.2.1,f.2.2.1,cq We]at z;exact up s1 p1 p2 o H.1 ((fV.1 z))
   have d2:¬ l∈bz es p:=λz=>by
    rw[fK d (m:=p) pb.1 pb.2.1,pb.2.2.1,cq We]at z;exact up o i r s1 N.1 ((fV.1 z))
   have O:p≠l:=λz=>V (by rw[← pb.2.2.1,← f.2.2.1,z]);obtain e|e:=C
   .obtain g|g:=k
    .exact O (e.symm.trans g)
    .rw[e]at g;exact d2 g
   .obtain g|g:=k
    .rw[g]at e;exact d1 e
    .obtain w|w|w:=qE d x0 D e g
     .exact O w
     .exact d1 w
     .exact d2 w
 .subst e;obtain⟨s,hs,B⟩:=l0.1 B;obtain⟨p,n,B⟩:=l0.1 B;obtain⟨s1,s2,p1,p2⟩:=side s hs p n;obtain⟨x0,D,C⟩:=wit s p a s1 s2 p1 p2 B;obtain⟨X,W⟩:=vz h j s1 s2 p1 p2 C x0 D;obtain z|z:=gY.1 M
  .exact X ((li a).1 (xq d j z).1)
  .exact W ((aQ h es.length j a z).2.2.elim .inl .inr)
def Jn(isAll:Bz)(es ss mem:AT)(far near:Bool)(iP:AT)(t:Nat)(r:AT×AT)(k:Nat):Bool:=
 decide ((k:Int)∈iP) || (decide (es.getD k 0∈r.1)&&(isAll QeQ || (decide (iI ss mem ((decide (es.getD k 0=t)&&(far || near)) || (decide (es.getD k 0∈r.2)&&far)) QeQ=k)&&(decide (es.getD k 0=t) || !decide (es.getD k 0∈iP)))))
def DM(isAll:Bz)(es ss mem:AT)(far near:Bool)(iP:AT)(t:Nat):Nat->AT×AT
 | 0=>([],[])
 | k+1=>if Jn isAll es ss mem far near iP t QkX k=true
   then((DM isAll es ss mem far near iP t k).1++[(k:Int)],if (k:Int)=t\/es.getD k 0∈(DM isAll es ss mem far near iP t k).2 then(DM isAll es ss mem far near iP t k).2++[(k:Int)] else(DM isAll es ss mem far near iP t k).2)
   else DM isAll es ss mem far near iP t k
theorem VX{iP:AT}:∀(k:Nat),(∀x∈(DM isAll es ss mem far near iP t k).1,0<=x/\x<k)/\(∀x∈(DM isAll es ss mem far near iP t k).2,0<=x/\x<k)/\(DM isAll es ss mem far near iP t k).1.Pairwise (· < ·)/\(DM isAll es ss mem far near iP t k).1.length<=k/\(DM isAll es ss mem far near iP t k).2.length<=k
 | 0=>⟨λx c=>(by cases c),λx c=>(by cases c),List.Pairwise.nil,gZ _,gZ _⟩
 | k+1=>by
  obtain⟨h1,h2,d,i,h⟩:=VX (iP:=iP) k;rw[DM];split
  .have q:∀{l:AT},(∀x∈l,0<=x/\x<(k:Int))->∀x∈l++[(k:Int)],0<=x/\x<((k+1:Nat):Int):=λ{l} e x c=>by
    obtain z|z:=gY.1 c
    .have:=e x z;lia
    .have:x=(k:Int):=by simpa using z
     lia
   refine⟨q h1,?_,yK.2 ⟨d,r3 _ _,λa g b f=>?_⟩,by show(_++[_]).length<=_;rw[kr,rr];lia,?_⟩
   .dsimp only;split
    .exact q h2
    .intro x c;have:=h2 x c;lia
   .have:b=(k:Int):=by simpa using f
    have:=h1 a g;lia
   .dsimp only;split
    .rw[kr,rr];lia
    .lia
  .exact⟨λx c=>(by have:=h1 x c;lia),λx c=>(by have:=h2 x c;lia),d,We,We⟩
theorem Sd(h:QaB)(c:Qa3)(M:QdF){iP:AT}(D:∀x,x∈iP↔jn es u t x):∀(k:Nat),k<=es.length->∀x:Nat,x<k →
  (((x:Int)∈(DM isAll es ss mem far near iP t k).1↔QL av isAll es ss mem far near u t x)/\((x:Int)∈(DM isAll es ss mem far near iP t k).2↔(x:Int)∈jm av isAll es ss mem far es.length near t))
 | 0,_,x,L=>by lia
 | k+1,U,x,L=>by
  have j:=h.pre.1;have v:=Sd h c M D k We;obtain⟨b1,b2,b3,_,_⟩:=VX (isAll:=isAll) (es:=es) (ss:=ss) (mem:=mem) (far:=far) (near:=near) (iP:=iP) (t:=t) k;have V:=j k We;have b:=λy K=>aQ h (far:=far) (near:=near) es.length c y K;have J:es.getD k 0∈(DM isAll es ss mem far near iP t k).1↔QL av isAll es ss mem far near u t QeQ:=by
   by_cases e0:es.getD k 0=-1
   .rw[e0];constructor
    .intro z;have:=b1 _ z;lia
    .rintro(z|z|⟨s,p,f,a,P,F,O,E⟩)
     .have:=jN j c z.1;lia
     .have:=b _ z;lia
     .have pb:=cu h.pre F;have d:∃q:Nat,p=q:=⟨p.toNat,by
       have:=pb.1;lia⟩
      obtain⟨q,rfl⟩:=d;have:=aQ h (far:=false) (near:=false) es.length (k:=q) We _ E;lia
   .obtain⟨q,d⟩:∃q:Nat,es.getD k 0=q:=⟨(es.getD k 0).toNat,We⟩;rw[d];exact(v q We).1
  have r:es.getD k 0∈(DM isAll es ss mem far near iP t k).2↔es.getD k 0∈jm av isAll es ss mem far es.length near t:=by
   by_cases e0:es.getD k 0=-1
   .rw[e0];constructor
    .intro z;have:=b2 _ z;lia
    .intro z;have:=b _ z;lia
   .obtain⟨q,d⟩:∃q:Nat,es.getD k 0=q:=⟨(es.getD k 0).toNat,We⟩;rw[d];exact(v q We).2
  have l:Jn isAll es ss mem far near iP t QkX k=true↔QL av isAll es ss mem far near u t k:=by
   rw[Ef h c k We];unfold Jn AF;simp only[Bool.or_eq_true,lh,tI,yA,Hd,D,J];have e1:decide (es.getD k 0∈(DM isAll es ss mem far near iP t k).2)=decide Qj8:=by rw[decide_eq_decide];exact r
   rw[e1,Bool.and_comm (decide Qj8) far];constructor
   .rintro(z|⟨f,a⟩)
    .exact .inl z
    .by_cases C:jn es u t k
     .exact .inl C
     .exact .inr ⟨f,C,a⟩
   .rintro(z|⟨f,_,a⟩)
    .exact .inl z
    .exact .inr ⟨f,a⟩
  by_cases e:x=k
  .subst e;have n1:(x:Int)∉(DM isAll es ss mem far near iP t x).1:=λz=>by have:=b1 _ z;lia
   have B:(x:Int)∉(DM isAll es ss mem far near iP t x).2:=λz=>by have:=b2 _ z;lia
   have i:(x:Int)∈jm av isAll es ss mem far es.length near t↔(QL av isAll es ss mem far near u t x/\((x:Int)=t\/es.getD x 0∈jm av isAll es ss mem far es.length near t)):=by
    constructor
    .intro z;refine⟨.inr QbN,?_⟩;rw[g8 h es.length c We x We]at z;obtain z|z:=z
     .exact .inl We
     .exact .inr z.2.1
    .rintro⟨f,a⟩;obtain a|a:=a
     .rw[g8 h es.length c We x We];exact .inl We
     .have N:(t:Int)<=es.getD x 0:=by
       obtain⟨w0,o,n⟩:=b _ a;obtain w|w:=n
       .lia
       .have:=bf j w0 o w;lia
      obtain w|w|⟨s,p,o,n,T,A,H,w6⟩:=f
      .have:=jN j c w.1;lia
      .exact w
      .exfalso;have pb:=cu h.pre A;have d:∃q:Nat,p=q:=⟨p.toNat,by
        have:=pb.1;lia⟩
       obtain⟨q,rfl⟩:=d;obtain⟨v0,v1,v2⟩:=aQ h (far:=false) (near:=false) es.length (k:=q) We _ w6;obtain⟨_,I⟩:=vz h c o n A H v2 v0 v1;refine I (.inr ?_);obtain⟨S,R,G⟩:=b _ a;rw[fK j (m:=(x:Int)) We We,ke,cq We];obtain y|y:=G
       .rw[y];exact gj
       .exact i4 _ y
   rw[DM];by_cases g:Jn isAll es ss mem far near iP t (DM isAll es ss mem far near iP t x) x=true
   .rw[di g];refine⟨⟨λ_=>l.1 g,λ_=>i5 _ WA⟩,?_⟩;rw[i];dsimp only;by_cases hd:(x:Int)=t\/es.getD x 0∈(DM isAll es ss mem far near iP t x).2
    .rw[di hd];exact⟨λ_=>⟨l.1 g,hd.imp id r.1⟩,λ_=>i5 _ WA⟩
    .rw[cq hd];exact⟨λz=>absurd z B,λz=>absurd (z.2.imp id r.2) hd⟩
   .rw[cq g];exact⟨⟨λz=>absurd z n1,λz=>absurd (l.2 z) g⟩,⟨λz=>absurd z B,λz=>absurd (l.2 (i.1 z).1) g⟩⟩
  .have:=v x We;rw[DM];split
   .constructor
    .rw[← this.1];constructor
     .intro z;obtain w|w:=gY.1 z
      .exact w
      .have:(x:Int)=k:=by simpa using w
       lia
     .intro z;exact ka _ z
    .rw[← this.2];dsimp only;split
     .constructor
      .intro z;obtain w|w:=gY.1 z
       .exact w
       .have:(x:Int)=k:=by simpa using w
        lia
      .intro z;exact ka _ z
     .exact Iff.rfl
   .exact this
theorem NG(h:QaB)(a:Qa3)(c:QL av isAll es ss mem far near u t x):0<=x/\x<es.length:=by
 obtain z|z|⟨s,p,i,g,f,b,e,w6⟩:=c
 .have:=jN h.pre.1 a z.1;lia
 .have:=aQ h _ a x z;lia
 .have pb:=cu h.pre b;have d:∃q:Nat,p=q:=⟨p.toNat,by
   have:=pb.1;lia⟩
  obtain⟨q,rfl⟩:=d;have:=aQ h _ We _ w6;lia
theorem ace(h:QaB)(a:Qa3)(b:QdF){iP:AT}(c:∀x,x∈iP↔jn es u t x):((DM isAll es ss mem far near iP t es.length).1).Perm (pw av isAll es ss mem far near u t):=by
 obtain⟨b1,_,b3,_,_⟩:=VX _;refine(Of (pS b3) (Cd h a b)).2 λx=>?_;rw[tV h a b];constructor
 .intro z;have:=b1 x z;obtain⟨q,rfl⟩:∃q:Nat,x=q:=⟨x.toNat,We⟩;exact(Sd h a b c _ WA q We).1.1 z
 .intro z;have:=NG h a z;obtain⟨q,rfl⟩:∃q:Nat,x=q:=⟨x.toNat,We⟩;exact(Sd h a b c _ WA q We).1.2 z
theorem AG{α:Type}{f:α->AT}{c:Nat}:∀{l:QR},(∀x∈l,(f x).length<=c)->(l.flatMap f).length<=l.length*c
 | [],_=>by simp
 | x::l,h=>by
  rw[rf,kr,lr];have:=AG λy a=>h y (i4 _ a);have:=h x gj;lia
variable{α:Type}
theorem Yn(l:QR):cutD l none (some (-1))=l.dropLast:=by
 unfold cutD;have e1:HT.DG l.length 0 none=0:=rfl;have e2:HT.DG l.length l.length (some (-1))=l.length-1:=by
  unfold HT.DG;lia
 rw[e1,e2,List.drop_zero,Nat.sub_zero,List.dropLast_eq_take]
def Lf(h:bD ks x=true):aq ks x=false:=by
 have h:=ko h;unfold aq;rw[h];rfl
variable{ch:AT}
theorem Yo{some:AT}(g:e7 es)(r:es.length=n)(p:0<n)(hm:mem.length=n)(q:ch.length=n)(j:∀k:Nat,k<n->ks.getD k Str.empty="one"->ch.getD k 0∈jl es k)
  (hs:∀x∈some,x∈dO QU es ch QcD):R7 Qai es some mem Qg7=Yl Qai ch mem some:=by
 have o:∀m∈dO QU es ch QcD,0<=m/\m<n:=λm a=>by
  have:=jE _ a;lia
 have b:∀m∈some,0<=m/\m<mem.length:=λm a=>by
  have:=o m (hs m a);lia
 have key:∀m∈dO QU es ch QcD,∀e,es.getD m.toNat 0=e->bD ks e=true->0<=e->ch.getD e.toNat 0=m:=λm a e he f e0=>by
  have s:=o m a;obtain⟨k,rfl⟩:∃k:Nat,m=k:=⟨m.toNat,We⟩;rw[ke]at he;rcases(qG g (n-1) (k:=k) We We).1 a with z|⟨_,z⟩
  .subst z;have:=g 0 We;lia
  .rw[he]at z;obtain z|z:=z
   .rw[Lf f]at z;cases z
   .exact z
 apply ab7
 .rw[Ed,Fw]
 .intro i hi;rw[Ed]at hi;rw[Az some mem b i hi];have h1:=ab6 (bC:=λx=>bD ks x&&decide (0<=x)) (es:=es) (gD:=some) (ch:=ch) Qg7 mem (λm a e he f=>by
   rw[lh,tI]at f;exact key m a e he f.1 f.2) b i hi
  have h2:R7 (λx=>bD ks x&&decide (0<=x)) es some mem Qg7=R7 Qai es some mem Qg7:=by
   unfold R7;congr 1;funext acc m;unfold tU;by_cases h:es.getD m.toNat 0∈some
   .have:=b _ h;simp only[lx this.1,ui]
   .rw[cq (λz=>h z.1),cq (λz=>h z.1)]
  rw[← h2,h1];by_cases c:(i:Int)∈some/\bD ks i=true
  .rw[di c,di ?_];refine⟨c.1,by rw[c.2,lx We];rfl,?_⟩;have d:=qF (j i We (by have:=ko c.2;rwa [ke]at this));obtain⟨k,l⟩:∃k:Nat,ch.getD i 0=k:=⟨(ch.getD i 0).toNat,We⟩;rw[l]at d;rw[ke]at d;refine⟨(k:Int),(qG g QcD (k:=k) We We).2 (.inr ⟨by rw[d.2.2];exact hs _ c.1,.inr (by rw[d.2.2,ke,l])⟩),by rw[ke];exact d.2.2⟩
  .rw[cq c,cq (λz=>c ⟨z.1,by have:=z.2.1;rw[lh]at this;exact this.1⟩)]
theorem VY{isAll:Bz}{es ss mem:AT}:∀j,Fx isAll es ss mem false false 0 j=dO isAll es ss j
 | 0=>rfl
 | j+1=>by
  rw[Fx,VY j];have e:0+1+j=j+1:=by lia
  rw[e];rfl
def ye(bC:Bz)(es ch:AT):Prop:=∀k:Nat,k<es.length->bC k=true->ch.getD k 0∈jl es k
def Ce(av bC isAll:Bz)(es:AT):Prop:=∀k:Nat,k<es.length->(av k=true/\bC k=false/\isAll k=false/\jl es k=[])\/(av k=false/\bC k=true/\isAll k=false)\/(av k=false/\bC k=false/\isAll k=true)
theorem agJ(a:Ce av bC isAll es){e k:Nat}(he:e<es.length)(c:QcA)(h:es.getD k 0=(e:Int))(b:¬ isAll e=true):av e=false/\bC e=true/\isAll e=false:=by
 obtain z|z|z:=a e he
 .have:(k:Int)∈jl es e:=Ax We We (by rw[ke];exact h);rw[z.2.2.2]at this;cases this
 .exact z
 .exact absurd z.2.2 b
theorem VZ(b:e7 es):∀(f:Nat) {t e:Int},0<=t->t<es.length->t<f->e∈bz es t->∃y:Int,(y=t\/y∈bz es t)/\0<=y/\y<es.length/\es.getD y.toNat 0=e
 | 0,t,e,h0,_,hf,_=>by lia
 | f+1,t,e,h0,h1,hf,he=>by
  have a:=fK b h0 h1;have i:=b.at h0 h1;by_cases e1:es.getD t.toNat 0=-1
  .rw[a,di e1]at he;cases he
  .rw[cq e1]at a;rw[a]at he;obtain z|z:=fV.1 he
   .exact⟨t,.inl rfl,h0,h1,z.symm⟩
   .obtain⟨y,h,g,d,c⟩:=VZ b f We We We z;refine⟨y,.inr ?_,g,d,c⟩;rw[a];obtain z|z:=h
    .exact z▸gj
    .exact i4 _ z
theorem Yp(h:e7 es){t:Int}(t0:0<=t)(t1:Qa3)(x0:0<=x)(e:QcB)(d:0<=y)(b:y<es.length)(he:es.getD x.toNat 0=es.getD y.toNat 0)(g:x=t\/x∈bz es t)(f:y=t\/y∈bz es t):x=y:=by
 have no:∀a c:Int,0<=a->a<es.length->0<=c->c<es.length->es.getD a.toNat 0=es.getD c.toNat 0->¬ a∈bz es c:=λa c j a1 c0 i k hm=>by
  have l:=h.at j a1;rw[fK h c0 i]at hm;by_cases e1:es.getD c.toNat 0=-1
  .rw[di e1]at hm;cases hm
  .rw[cq e1]at hm;obtain z|z:=fV.1 hm
   .lia
   .have:=bf h We We z;lia
 obtain rfl|g:=g<;>obtain rfl|f:=f
 .rfl
 .exact absurd f (no _ _ d b x0 e he.symm)
 .exact absurd g (no _ _ x0 e d b he)
 .obtain z|z|z:=qE h t0 t1 g f
  .exact z
  .exact absurd z (no _ _ x0 e d b he)
  .exact absurd z (no _ _ d b x0 e he.symm)
theorem y9(h:nj es):∀(f t:Nat),t<f->t<es.length->t=0\/(0:Int)∈bz es t
 | 0,t,hf,_=>by lia
 | f+1,t,hf,b=>by
  by_cases e:t=0
  .exact .inl e
  .obtain⟨s,rfl⟩:∃s,t=s+1:=⟨t-1,We⟩;have d:=h.1 _ b;have h2:0<=es.getD (s+1) 0:=by
    obtain z|z:=h.2 s b
    .lia
    .have:=bf h.1 We We z;lia
   have c:=fK h.1 (m:=((s+1:Nat))) We We;rw[ke]at c;refine .inr ?_;rw[c];obtain⟨q,a⟩:∃q:Nat,es.getD (s+1) 0=q:=⟨(es.getD (s+1) 0).toNat,We⟩;rw[a];obtain z|z:=y9 h f q We We
   .rw[z];simp
   simp_all
def zW(es:AT)(u x:Int):Prop:=u=-1\/u∈bz es x
def Cg(c:e7 es)(x0:0<=x)(a:QcB)(b:y∈bz es x)(d:zW es u y):zW es u x:=by
 obtain z|z:=d
 .exact .inl z
 .exact .inr (lW c x0 a b z)
def Fz(b:QdF)(a:jn es u t x):zW es u x:=by
 obtain rfl|z:=a
 .exact b
 .exact z.2
theorem AH(h:QaB)(f:Qa3)(c:QdF)(i:QL av isAll es ss mem far near u t x):zW es u x:=by
 have a:=h.pre.1;obtain z|z|⟨s,p,hs,_,_,e,_,z⟩:=i
 .exact Fz c z.1
 .obtain⟨x0,d,y⟩:=aQ h _ f x z;obtain rfl|y:=y
  .exact c
  .exact Cg a x0 d y c
 .have b:=cu h.pre e;have j:=jN a f hs;obtain⟨q,rfl⟩:∃q:Nat,p=q:=⟨p.toNat,We⟩;have g:=Cg a b.1 b.2.1 (b.2.2.1▸JX a b.1 b.2.1 We) (Fz c hs);obtain⟨x0,d,y⟩:=aQ h _ We x z;obtain rfl|y:=y
  .exact g
  .exact Cg a x0 d y g
theorem DF(W:Ce av bC isAll es)(hc:ye bC es ch)(h:QaB)(p:Qa3)
  (M:u=-1\/(u∈bz es t/\bC u=true/\u∈dO isAll es ch Q2)) :
  ∃L:AT,L.length=es.length/\ye bC es L ∧
   (dO isAll es L Q2).Perm ((dO isAll es ch Q2).filter (λx=>!(decide (u=-1) || decide (u∈bz es x)))++pw av isAll es ss mem far near u t)/\(t:Int)∈dO isAll es L Q2:=by
 classical
 have n:=h.pre.1;have hn:0<es.length:=by lia
 have d:u=-1\/u∈bz es t:=M.imp id (·.1);have F:∀e:Int,∃y:Int,e∈bz es t->(y=t\/y∈bz es t)/\0<=y/\y<es.length/\es.getD y.toNat 0=e:=λe=>by
  by_cases z:e∈bz es t
  .obtain⟨y,hy⟩:=VZ n (t+1) (t:=(t:Int)) We We We z;exact⟨y,λ_=>hy⟩
  .exact⟨0,λy=>absurd y z⟩
 obtain⟨st,F⟩:∃st:Int->Int,∀e:Int,e∈bz es t->(st e=t\/st e∈bz es t)/\0<=st e/\st e<es.length/\es.getD (st e).toNat 0=e:=⟨λe=>Classical.choose (F e),λe=>Classical.choose_spec (F e)⟩
 let D:Int->Bool:=λe=>(decide (e=t)&&(far || near)) || Qj5
 let c:Nat->Int:=λk=>if (k:Int)=u\/(jn es u t k/\(k:Int)≠t) then st k else if zW es u k then iI ss mem (D k) k else ch.getD k 0
 have Dh:∀k:Nat,k<es.length->((List.range es.length).map c).getD k 0=c k:=λk o=>by
  rw[la,k4,oT o];rfl
 have K:∀e:Int,jn es u t e->QL av isAll es ss mem far near u t e:=λe he=>by
  have X:=jN n p he;obtain⟨q,rfl⟩:∃q:Nat,e=q:=⟨e.toNat,We⟩;exact(Ef h p q We).2 (.inl he)
 let N:Int->Prop:=λx=>(x∈dO isAll es ch Q2/\¬ zW es u x)\/QL av isAll es ss mem far near u t x
 have J:∀x,N x->0<=x/\x<es.length:=λx hx=>by
  obtain z|z:=hx
  .have:=jE _ z.1;lia
  .exact NG h p z
 have hN:∀k:Nat,k<es.length->(N k↔(k=0\/(N QeQ/\(isAll QeQ=true\/c (es.getD k 0).toNat=(k:Int))))):=by
  intro k o;have Z:=n k o;have l:=fK n (m:=(k:Int)) We We;rw[ke]at l;by_cases k0:k=0
  .subst k0;rw[di We]at l;refine⟨λ_=>.inl rfl,λ_=>?_⟩;obtain z|z:=M
   .refine .inr (K _ ?_);obtain y|y:=y9 h.pre (t+1) t We p
    .exact .inl We
    .exact .inr ⟨y,.inl z⟩
   .refine .inl ⟨(qG n Q2 (k:=0) We We).2 Q4,?_⟩;rintro(y|y)
    .have:=jE _ z.2.2;lia
    .rw[l]at y;cases y
  .have e0:es.getD k 0 ≠ -1:=by
    obtain y|y:=y9 h.pre (k+1) k We o
    .exact absurd y k0
    .intro z;rw[l,di z]at y;cases y
   rw[cq e0]at l;have S:=qG (isAll:=isAll) (ch:=ch) n Q2 (k:=k) We We;have T:=Ef (far:=far) (near:=near) (u:=u) h p k o;obtain⟨e,he⟩:∃e:Nat,es.getD k 0=e:=⟨(es.getD k 0).toNat,We⟩;rw[he]at l S T Z ⊢;rw[ke]at S ⊢;have U:e<es.length:=by lia
   have eb:zW es u e->zW es u k:=λz=>Cg n We We (by rw[l];exact gj) z;have self:∀x:Int,0<=x->x<es.length->¬ x∈bz es x:=λx a0 a1 z=>by
    have:=bf n a0 a1 z;lia
   have B:(e:Int)∈bz es t->(st e=k↔((k:Int)=t\/(k:Int)∈bz es t)):=λz=>by
    obtain⟨s1,s2,s3,s4⟩:=F e z;constructor
    .intro y;rw[← y];exact s1
    .intro y;exact Yp n (t:=(t:Int)) We We s2 s3 We We (by rw[s4,ke,he]) s1 y
   by_cases v:zW es u k
   .by_cases i:(e:Int)=u
    .have g:=M.resolve_left We;rw[← i]at g;have I:¬ zW es u e:=by
      rintro(z|z)
      .lia
      .rw[i]at z;exact self u We We z
     have O:¬ isAll e=true:=λz=>by
      obtain y|y|y:=W e U
      .rw[y.2.1]at g;cases g.2.1
      .rw[y.2.2]at z;cases z
      .rw[y.2.1]at g;cases g.2.1
     have j:c e=st e:=di (.inl i);rw[j];have P:¬ QL av isAll es ss mem far near u t e:=λz=>I (AH h p d z);constructor
     .rintro(z|z)
      .exact absurd v z.2
      .obtain y|y:=T.1 z
       .refine .inr ⟨.inl ⟨g.2.2,I⟩,.inr ((B g.1).2 ?_)⟩;obtain y|y:=y
        .exact .inl y
        .exact .inr y.1
       .exact absurd y.1 P
     .rintro(z|⟨_,z|z⟩)
      .exact absurd z k0
      .exact absurd z O
      .refine .inr (K _ ?_);rcases(B g.1).1 z with y|y
       .exact .inl y
       .exact .inr ⟨y,v⟩
    .have s:zW es u e:=by
      obtain z|z:=v
      .exact .inl z
      .rw[l]at z;obtain y|y:=fV.1 z
       .exact absurd y.symm i
       .exact .inr y
     have V:N k↔QL av isAll es ss mem far near u t k:=⟨λz=>z.resolve_left (λy=>y.2 v),.inr⟩;have L2:N e↔QL av isAll es ss mem far near u t e:=⟨λz=>z.resolve_left (λy=>y.2 s),.inr⟩;rw[V,L2,T];by_cases r:jn es u t e/\(e:Int)≠t
     .have j:c e=st e:=di (.inr r);rw[j];have het:(e:Int)∈bz es t:=by
       obtain y|y:=r.1
       .exact absurd y r.2
       .exact y.1
      have hm:AF av isAll es ss mem far near u t e k↔isAll e=true:=by
       unfold AF;constructor
       .rintro(z|z)
        .exact z
        .obtain y|y:=z.2
         .exact absurd y r.2
         .exact absurd r.1 y
       .exact .inl
      rw[hm,B het];constructor
      .rintro(z|z)
       .refine .inr ⟨K _ r.1,.inr ?_⟩;obtain y|y:=z
        .exact .inl y
        .exact .inr y.1
       .exact .inr ⟨z.1,.inl z.2.2⟩
      .rintro(z|⟨z1,E⟩)
       .exact absurd z k0
       .by_cases C:jn es u t k
        .exact .inl C
        .obtain E|E:=E
         .exact .inr ⟨z1,C,E⟩
         .refine absurd ?_ C;obtain y|y:=E
          .exact .inl y
          .exact .inr ⟨y,v⟩
     .have j:c e=iI ss mem (D e) e:=by
       show QjT=_;rw[cq (λz=>z.elim i r),di s]
      rw[j];have H:¬ jn es u t k:=by
       rintro(z|z)
       .refine r ⟨.inr ⟨?_,s⟩,We⟩;rw[← z,l];exact gj
       .have:=bf n (m:=(t:Int)) We We z.1;exact r ⟨.inr ⟨lW n We We z.1 (by rw[l];exact gj),s⟩,We⟩
      have hm:AF av isAll es ss mem far near u t e k↔(isAll e=true\/iI ss mem (D e) e=k):=by
       have:(e:Int)=t\/¬ jn es u t e:=by
        by_cases y:(e:Int)=t
        .exact .inl y
        .exact .inr (λw=>r ⟨w,y⟩)
       unfold AF;constructor
       .rintro(z|z)
        .exact .inl z
        .exact .inr z.1
       .rintro(z|z)
        .exact .inl z
        .exact .inr ⟨z,this⟩
      rw[hm];constructor
      .rintro(z|z)
       .exact absurd z H
       .exact .inr ⟨z.1,z.2.2⟩
      .rintro(z|z)
       .exact absurd z k0
       .exact .inr ⟨z.1,H,z.2⟩
   .have A:¬ zW es u e:=λz=>v (eb z);have i:(e:Int)≠u:=λz=>v (.inr (by rw[l,z];exact gj));have j:c e=ch.getD e 0:=by
     show QjT=_;rw[cq (λz=>z.elim i (λy=>A (Fz d y.1))),cq A]
    rw[j];have V:N k↔(k:Int)∈dO isAll es ch Q2:=⟨λz=>z.elim (·.1) (λy=>absurd (AH h p d y) v),λz=>.inl ⟨z,v⟩⟩;have L2:N e↔(e:Int)∈dO isAll es ch Q2:=⟨λz=>z.elim (·.1) (λy=>absurd (AH h p d y) A),λz=>.inl ⟨z,A⟩⟩;rw[V,L2];exact S
 have HR:∀x,x∈dO isAll es ((List.range es.length).map c) Q2↔N x:=by
  have key:∀(f k:Nat),k<f->k<es.length->((k:Int)∈dO isAll es ((List.range es.length).map c) Q2↔N k):=by
   intro f
   induction f with
   | zero=>intro k h;lia
   | succ f ih=>
    intro k aa o;rw[qG n Q2 We We,hN k o];have Z:=n k o;by_cases e:es.getD k 0=-1
    .rw[e];constructor
     .rintro(z|z)
      .exact .inl z
      .have:=jE _ z.1;lia
     .rintro(z|z)
      .exact .inl z
      .have:=J _ z.1;lia
    .obtain⟨q,l⟩:∃q:Nat,es.getD k 0=q:=⟨(es.getD k 0).toNat,We⟩;rw[l,ih q We We,ke,Dh q We]
  intro x;constructor
  .intro z;have:=jE _ z;obtain⟨q,rfl⟩:∃q:Nat,x=q:=⟨x.toNat,We⟩;exact(key (q+1) q We We).1 z
  .intro z;have:=J _ z;obtain⟨q,rfl⟩:∃q:Nat,x=q:=⟨x.toNat,We⟩;exact(key (q+1) q We We).2 z
 have Y:∀x:Int,((!(decide (u=-1) || decide (u∈bz es x)))=true↔¬ zW es u x):=λx=>by
  unfold zW;simp
 refine⟨(List.range es.length).map c,WA,λk o G=>?_,?_,(HR _).2 (.inr (K _ Q4))⟩
 .rw[Dh k o];show(if (k:Int)=u\/(jn es u t k/\(k:Int)≠t) then st k else if zW es u k then iI ss mem (D k) k else ch.getD k 0)∈_;by_cases z:(k:Int)=u\/(jn es u t k/\(k:Int)≠t)
  .rw[di z];have R:(k:Int)∈bz es t:=by
    obtain y|y:=z
    .rw[y];exact d.resolve_left We
    .exact(y.1.resolve_left y.2).1
   obtain⟨_,s2,s3,s4⟩:=F k R;exact Ax s2 s3 s4
  .rw[cq z];by_cases y:zW es u k
   .rw[di y];obtain w|w|w:=W k o
    .rw[w.2.1]at G;cases G
    .exact VQ h o w.1 w.2.2
    .rw[w.2.1]at G;cases G
   .rw[cq y];exact hc k o G
 .refine(Of (pS (gE _)) ?_).2 λx=>?_
  .rw[lj];refine⟨ro _ (pS (gE _)),Cd h p d,λa ha b X Oe=>?_⟩;subst Oe;exact(Y a).1 (kc.1 ha).2 (AH h p d ((tV h p d a).1 X))
  .rw[HR,gY,kc,tV h p d,Y]
abbrev o2:=AT×AT×AT
inductive J where
 | out (m:Int)|yd (m:Int)|keep (m p q:Int)|put (x p q:Int)|Al (w:Str) (ds:BA)
noncomputable def J.w:J->Str
 | .out _=>"out"
 | .yd _=>"in"
 | .keep _ _ _=>"keep"
 | .put _ _ _=>"put"
 | .Al w _=>w
noncomputable def J.ds:J->BA
 | .out m=>[.int m]
 | .yd m=>[.int m]
 | .keep m p q=>[.int m,.int p,.int q]
 | .put x p q=>[.int x,.int p,.int q]
 | .Al _ ds=>ds
def J.d(r:J):D:=.tup (.str r.w::r.ds)
def IT:At:=["sign","way","call","say","rest"]
def TC(d:D):Prop:=(∃i,d=.int i)\/∃x,d=.str x
def J.ok(s:o2):J->Prop
 | .keep m _ _=>0<=m/\m<s.2.1.length
 | .put x _ _=>0<=x/\x<s.2.2.length
 | .Al w ds=>w∈IT/\ds.length<=3/\∀d∈ds,TC d
 | _=>True
def aqs(back:Bool)(r:J)(ops:AT):AT:=match r with
 | .out m=>if back then sortI (ops++[m]) else ops.filter (λx=>!decide (x=m))
 | .yd m=>if back then ops.filter (λx=>!decide (x=m)) else sortI (ops++[m])
 | _=>ops
noncomputable def auV(back:Bool)(r:J)(mem:AT):AT:=match r with
 | .keep m p q=>mem.set m.toNat QiD
 | _=>mem
noncomputable def Ic(back:Bool)(r:J)(bs:AT):AT:=match r with
 | .put x p q=>bs.set x.toNat QiD
 | _=>bs
def aqt(back:Bool)(s:o2)(r:J):o2:=(aqs back r s.1,auV back r s.2.1,Ic back r s.2.2)
def Fits(back:Bool):List J->o2->Prop
 | [],s=>s.1.length<60
 | r::rs,s=>s.1.length<60/\r.ok s/\Fits back rs (aqt back s r)
theorem Fits.len{back:Bool}{rs:List J}{s:o2}(h:Fits back rs s):s.1.length<60:=by
 cases rs with
 | nil=>exact h
 | cons r rs=>exact h.1
structure TB(n:Nat)(s:o2):Prop where
 up:s.1.Pairwise (· < ·)
 lo:∀x∈s.1,0<=x/\x<n
 mem:s.2.1.length=n
def Right(n:Nat)(s:o2):J->Prop
 | .out m=>m∈s.1
 | .yd m=>m∉s.1/\0<=m/\m<n
 | .keep m p _=>0<=m/\m<s.2.1.length/\s.2.1.getD m.toNat 0=p
 | .put x p _=>0<=x/\x<s.2.2.length/\s.2.2.getD x.toNat 0=p
 | .Al w ds=>w∈IT/\ds.length<=3/\∀d∈ds,TC d
theorem Right.ok{s:o2}{r:J}(h:Right n s r):r.ok s:=by
 cases r with
 | out m=>trivial
 | yd m=>trivial
 | keep m p q=>exact⟨h.1,h.2.1⟩
 | put m p q=>exact⟨h.1,h.2.1⟩
 | Al w ds=>exact h
theorem Sf{n:Nat}:∀{l:AT} {lo:Int},l.Pairwise (· < ·)->(∀x∈l,lo<=x/\x<n)->0<=lo->l.length<=((n:Int)-lo).toNat
 | [],_,_,_,_=>kn _
 | y::l,lo,c,b,h0=>by
  have d:=b y WA;obtain⟨h1,h2⟩:=l9.1 c;have:=Sf (lo:=y+1) h2 (λx a=>⟨by have:=h1 x a;lia,(b x (i4 _ a)).2⟩) We;simp;lia
theorem TB.len{s:o2}(h:TB n s):s.1.length<=n:=by
 have:=Sf h.up h.lo WA;lia
theorem vA(h:l.Pairwise (· <= ·))(nd:l.Nodup):l.Pairwise (· < ·):=by
 induction l with
 | nil=>exact .nil
 | cons y l c=>
  obtain⟨h1,h2⟩:=l9.1 h;obtain⟨n1,b⟩:=nP.1 nd;refine l9.2 ⟨λx a=>?_,c h2 b⟩;have:=h1 x a;have:y≠x:=λe=>n1 (e▸a);lia
theorem acg(h:l.Pairwise (· < ·)):l.Nodup:=h.imp We
theorem aqu(h:l.Pairwise (· < ·)):l.Pairwise (· <= ·):=h.imp λh=>by lia
noncomputable def J.aqv:J->Bool
 | .put _ _ _=>true
 | _=>false
def amc{w:Str}(h:w∈IT):¬ w="put" /\ ¬ w="keep" /\ ¬ w="in" /\ ¬ w="out":=by
 have:∀w∈IT,¬ w="put" /\ ¬ w="keep" /\ ¬ w="in" /\ ¬ w="out":=by decide +kernel
 exact this w h
theorem auW{s:o2}{r:J}(h:r.ok s):decide (r.w="put")=r.aqv:=by
 cases r with
 | Al w ds=>exact ky (amc h.1).1
 | _=>first|exact decide_eq_true rfl|(apply decide_eq_false;dsimp [J.w];decide +kernel)
def auX(r:J):wV (D.str r.w::r.ds) 0=some (.str r.w):=dg rfl
def ach(back:Bool)(r:J)(l:AT):(Ic back r l).length=l.length:=by
 cases r<;>first|rfl|exact oz
noncomputable def iu(bs nm:BA)(tr:D)(is os ws:BA):D:=.ins "Chart" [("boxes",.lst bs),("names",.lst nm),("tree",tr),("ins",.lst is),("outs",.lst os),("ways",.lst ws)]
variable{bs nm is os ws:BA}{tr:D}
def Dm:List.lookup ("boxes":Str) [(("boxes":Str),D.lst bs),("names",.lst nm),("tree",tr),("ins",.lst is),("outs",.lst os),("ways",.lst ws)]=some (.lst bs):=K0
def Dn:List.lookup ("names":Str) [(("boxes":Str),D.lst bs),("names",.lst nm),("tree",tr),("ins",.lst is),("outs",.lst os),("ways",.lst ws)]=some (.lst nm):=rfl
def e9:List.lookup ("tree":Str) [(("boxes":Str),D.lst bs),("names",.lst nm),("tree",tr),("ins",.lst is),("outs",.lst os),("ways",.lst ws)]=some tr:=rfl
def JY:List.lookup ("ins":Str) [(("boxes":Str),D.lst bs),("names",.lst nm),("tree",tr),("ins",.lst is),("outs",.lst os),("ways",.lst ws)]=some (.lst is):=rfl
def FD:List.lookup ("outs":Str) [(("boxes":Str),D.lst bs),("names",.lst nm),("tree",tr),("ins",.lst is),("outs",.lst os),("ways",.lst ws)]=some (.lst os):=rfl
def fU:List.lookup ("ways":Str) [(("boxes":Str),D.lst bs),("names",.lst nm),("tree",tr),("ins",.lst is),("outs",.lst os),("ways",.lst ws)]=some (.lst ws):=rfl
noncomputable def Ci(bs nm:BA):BS:=[("boxes",.lst (bs.map T.sh)),("names",.lst (nm.map T.sh))]
noncomputable def Cj(is os ws:BA):BS:=[("ins",.lst (is.map T.sh)),("outs",.lst (os.map T.sh)),("ways",.lst (ws.map T.sh))]
def za(bs nm:BA)(t:T)(is os ws:BA):BS:=Ci bs nm++(("tree":Str),t)::Cj is os ws
def FE(bs nm:BA)(t:T)(is os ws:BA):T.gT (.ins "Chart" (za bs nm t is os ws))=iu bs nm t.gT is os ws:=by
 unfold za Ci Cj;rw[mT,mT,nN,T.gT,T.uS,T.uS,T.uS,T.uS,T.uS,T.uS,fz,fz,fz,fz,fz];rfl
def fc{ds:BA}(h:QbR):(T.lst Qa7).clean=true:=by
 rw[wY]
 induction ds with
 | nil=>rfl
 | cons d ds a=>
  rw[D.bR,lh]at h;rw[js,T.dH,a h.2,T.clean,h.1];rfl
def AI(h1:D.bR bs=true)(h2:D.bR nm=true):T.f6 (Ci bs nm)=true:=by
 unfold Ci;rw[T.f6,T.f6,fc h1,fc h2];rfl
def AJ(h1:D.bR is=true)(h2:D.bR os=true)(a:D.bR ws=true):T.f6 (Cj is os ws)=true:=by
 unfold Cj;rw[T.f6,T.f6,T.f6,fc h1,fc h2,fc a];rfl
noncomputable def vC(p:Str×Int):D:=.tup [.str p.1,.int p.2]
def agN{l:QR}{f:α->D}{g:D->T}{h:α->T}(e:∀a∈l,g (f a)=h a):T.lst (((l.map f).filter λ_=>true).map g)=T.lst (l.map h):=by
 rw[qy,kq];exact congrArg _ (nz e)
structure bG where
 src:Int
 sign:Str
 asks:BA
 ym:BA
 i3:Int
 mode:Str
def gO(w:bG):D:=.tup [.int w.src,.str w.sign,.tup w.asks,.tup w.ym,.int w.i3,.str w.mode]
noncomputable def w0:bG:=⟨0,Str.empty,[],[],0,Str.empty⟩
def dF(ws:QP)(i:Int):bG:=ws.getD i.toNat w0
theorem mU{ws:QP}{i:Int}(h0:0<=i)(h1:i<ws.length):dF ws i∈ws:=by
 unfold dF;simp_all
def iQ(ks:At)(es:AT)(w:bG):Int:=Le Qai es w.src w.i3
def Ie(es:AT)(u x:Int):Bool:=decide (u=-1) || decide (u∈bz es x)
def FH:Ie es u x=true↔zW es u x:=by
 unfold Ie zW;simp
def yo(es ops:AT)(u:Int):AT:=(ops.filter (λm=>decide (u=-1) || decide (u∈bz es m))).reverse
def Ap(es:AT)(u v:Int):Prop:=u ≠ -1/\v ≠ -1/\u≠v/\u∉bz es v/\v∉bz es u
theorem Ap.symm{v:Int}(h:Ap es u v):Ap es v u:=⟨h.2.1,h.1,λe=>h.2.2.1 e.symm,h.2.2.2.2,h.2.2.2.1⟩
def xr(b:e7 es){v:Int}(x0:0<=x)(a:QcB)(ap:Ap es u v)(h:zW es u x):¬ zW es v x:=λk=>by
 have h:=h.resolve_left ap.1;have k:=k.resolve_left ap.2.1;obtain e|e|e:=qE b x0 a h k
 .exact ap.2.2.1 e
 .exact ap.2.2.2.1 e
 .exact ap.2.2.2.2 e
theorem Ck(nd:l.Nodup)(b:∀x∈l,0<=x/\x<n):l.length<=n:=by
 have:=Sf (vA (kW l) ((sortI_perm l).nodup_iff.2 nd)) (λx a=>b x (eZ.1 a)) WA;rw[pF]at this;lia
theorem zb{α:Type}{es:AT}(h:e7 es){top:α->Int}{f:α->AT}:∀{gs:QR},gs.Pairwise (λa c=>Ap es (top a) (top c))->(∀a∈gs,(f a).Nodup/\∀x∈f a,Qhv/\zW es (top a) x) →
  (gs.flatMap f).Nodup/\∀x∈gs.flatMap f,Qhv/\∃a∈gs,zW es (top a) x
 | [],_,_=>⟨WA,λx b=>by simp at b⟩
 | a::gs,j,hf=>by
  obtain⟨h1,h2⟩:=l9.1 j;obtain⟨i1,i2⟩:=zb h h2 (λc d=>hf c (i4 _ d));obtain⟨f1,f2⟩:=hf a WA;refine⟨lj.2 ⟨f1,i1,λx b y i e=>?_⟩,λx b=>?_⟩
  .subst e;obtain⟨b1,c,d,g⟩:=i2 x i;exact xr h b1.1 b1.2 (h1 c d) (f2 x b).2 g
  .obtain b|b:=gY.1 b
   .exact⟨(f2 x b).1,a,gj,(f2 x b).2⟩
   .obtain⟨b1,c,d,g⟩:=i2 x b;exact⟨b1,c,i4 _ d,g⟩
theorem Lg{isAll:Bz}{es ch:AT}(c:e7 es):∀(f:Nat) {x y:Int},x<f->x∈dO isAll es ch Q2->y∈bz es x->y∈dO isAll es ch Q2
 | 0,x,y,hf,b,a=>by
  have:=(jE _ b).1;lia
 | f+1,x,y,hf,b,a=>by
  have i:=jE _ b;by_cases g:es.length=0
  .have e:=List.eq_nil_of_length_eq_zero g;subst e;have x0:x=0:=by simpa [dO] using b
   simp[bz,Ec]at a;lia
  .obtain⟨k,rfl⟩:∃k:Nat,x=k:=⟨x.toNat,We⟩;have h:k<es.length:=by lia
   have e:=fK c (m:=(k:Int)) We We;rw[ke]at e;have j:=c k h;by_cases hz:es.getD k 0=-1
   .rw[e,di hz]at a;cases a
   .rw[e,cq hz]at a;have d:es.getD k 0∈dO isAll es ch Q2:=by
     rcases(qG c _ (k:=k) We We).1 b with z|z
     .lia
     .exact z.1
    obtain rfl|a:=fV.1 a
    .exact d
    .exact Lg c f We d a
def Ig(ks:At)(es ss mem:AT)(w:bG):AT:=pw Qax QU es ss mem (ef w.mode) (gM w.mode) QaT w.i3.toNat
def Goes(ks:At)(es ops:AT)(w:bG):Prop:=(0<=w.i3/\w.i3<es.length)/\(iQ ks es w=-1\/(iQ ks es w∈bz es w.i3.toNat/\bD ks QaT=true/\iQ ks es w∈ops))
variable{ops:AT}
theorem Goes.up{w:bG}(h:Goes ks es ops w):iQ ks es w=-1\/iQ ks es w∈bz es w.i3.toNat:=h.2.imp id (·.1)
theorem FI(b:Qg8){w:bG}(h:Goes ks es ops w):(Ig ks es ss mem w).Nodup/\∀x∈Ig ks es ss mem w,Qhv/\zW es QaT x:=by
 have a:w.i3.toNat<es.length:=by have:=h.1;lia
 refine⟨Cd b a h.up,λx c=>?_⟩;have hi:=(tV b a h.up x).1 c;exact⟨NG b a hi,AH b a h.up hi⟩
theorem Tx{ks:At}{es ss mem:AT}(h:Ce Qax Qai QU es)(b:Qg8)(p:0<es.length):∀{gs:QP} {ch:AT},ch.length=es.length->ye Qai es ch->gs.Pairwise Qh3 →
  (∀w∈gs,Goes ks es Qaz w) →
  ∃f:AT,f.length=es.length/\ye Qai es f/\(dO QU es f Q2).Perm ((dO QU es ch Q2).filter Qgv++gs.flatMap Qc6)
 | [],ch,g,d,_,_=>⟨ch,g,d,by simp[qy]⟩
 | w::gs,ch,g,d,r,i=>by
  obtain⟨h1,h2⟩:=l9.1 r;have e:=i w gj;have o:w.i3.toNat<es.length:=by have:=e.1;lia
  obtain⟨t,m,k1,p1,_⟩:=DF (far:=ef w.mode) (near:=gM w.mode) h d b o e.2;have g1:∀v∈gs,Goes ks es (dO QU es t Q2) v:=λv hv=>by
   have j:=i v (i4 _ hv);refine⟨j.1,j.2.imp id λz=>⟨z.1,z.2.1,p1.mem_iff.2 (ka _ (kc.2 ⟨z.2.2,?_⟩))⟩⟩;have ap:=h1 v hv;have e1:¬ (iQ ks es w=-1\/iQ ks es w∈bz es (iQ ks es v)):=λq=>q.elim ap.1 ap.2.2.2.1;simp_all
  obtain⟨s,l,k2,p2⟩:=Tx h b p m k1 h2 g1;refine⟨s,l,k2,p2.trans ?_⟩;have k:=(p1.filter Qgv).append_right (gs.flatMap Qc6);refine k.trans ?_;rw[mE,List.filter_filter,rf,← jc];have e1:(pw Qax QU es ss mem (ef w.mode) (gM w.mode) QaT w.i3.toNat).filter Qgv=Ig ks es ss mem w:=by
   refine List.filter_eq_self.2 λx n=>?_;obtain⟨b1,b2⟩:=(FI b e).2 x n;rw[yA,List.any_eq_false];intro v hv q;exact xr b.pre.1 b1.1 b1.2 (h1 v hv) b2 (FH.1 q)
  have e2:(dO QU es ch Q2).filter (λa=>(!(gs.any λw=>Ie es QaT a)) && !(decide (iQ ks es w=-1) || decide (iQ ks es w∈bz es a)))=(dO QU es ch Q2).filter (λx=>!((w::gs).any λw=>Ie es QaT x)):=by
   refine List.filter_congr λx _=>?_;show((!(gs.any λw=>Ie es QaT x)) && !(Ie es QaT x))=_;rw[nZ,Bool.not_or,Bool.and_comm]
  rw[e1,e2]
def lX(ks:At)(es ops:AT)(gs:QP):AT:=(sortI (gs.flatMap λw=>yo es ops QaT)).reverse
noncomputable def JZ(h:l.Nodup):l.reverse.Nodup:=List.pairwise_reverse.2 (h.imp λh e=>h e.symm)
def vD:x∈yo es ops u↔x∈ops/\zW es u x:=by
 unfold yo zW;simp
variable{gs:QP}
def jF:x∈lX ks es ops gs↔x∈ops/\∃w∈gs,zW es QaT x:=by
 unfold lX;rw[y1,eZ,l0];constructor
 .rintro⟨w,hw,a⟩;exact⟨(vD.1 a).1,w,hw,(vD.1 a).2⟩
 .rintro⟨a,w,hw,b⟩;exact⟨w,hw,vD.2 ⟨a,b⟩⟩
def OY(d:e7 es)(e:ops.Pairwise (· < ·))(f:∀x∈ops,0<=x/\x<es.length)(g:QhF) :
  (gs.flatMap λw=>yo es ops QaT).Nodup/\(gs.flatMap λw=>yo es ops QaT).length<=es.length:=by
 have h:=zb d g (λw _=>⟨by
  exact JZ ((acg e).filter _),λx b=>⟨f x (vD.1 b).1,(vD.1 b).2⟩⟩)
 exact⟨h.1,Ck h.1 λx b=>(h.2 x b).1⟩
def Cm(b:e7 es)(d:ops.Pairwise (· < ·))(e:∀x∈ops,0<=x/\x<es.length)(f:QhF):(lX ks es ops gs).Nodup/\(lX ks es ops gs).length<=es.length:=by
 obtain⟨h1,h2⟩:=OY b d e f;unfold lX;exact⟨JZ ((sortI_perm _).nodup_iff.2 h1),by rw[t4,pF];exact h2⟩
def J1{a c:AT}(h:a.Perm c):sortI a=sortI c:=Ak ((sortI_perm a).trans h) (kW a)
def pT(ks:At)(es ss mem:AT)(gs:QP):AT:=sortI (gs.flatMap Qc6)
def OZ(b:Qg8)(f:QhF)(e:∀w∈gs,Goes ks es ops w) :
  (gs.flatMap Qc6).Nodup/\(gs.flatMap Qc6).length<=es.length/\∀x∈gs.flatMap Qc6,Qhv/\∃w∈gs,zW es QaT x:=by
 have h:=zb b.pre.1 f (λw hw=>FI b (e w hw));exact⟨h.1,Ck h.1 λx d=>(h.2 x d).1,h.2⟩
def yf(ks:At)(es ss mem ops:AT)(gs:QP):AT:=sortI (ops.filter (λx=>!decide (x∈lX ks es ops gs))++pT ks es ss mem gs)
theorem AK(k:Ce Qax Qai QU es)(n:Qg8)(i:0<es.length)(j:QdI)(m:QdP)
  (o:QhF) (l:∀w∈gs,Goes ks es Qaz w) :
  ∃d:AT,d.length=es.length/\ye Qai es d/\yf ks es ss mem Qaz gs=dO QU es d Q2/\((dO QU es ch Q2).filter QkF++pT ks es ss mem gs).length<=es.length:=by
 obtain⟨f,g,k2,p2⟩:=Tx k n i j m o l;have e1:(dO QU es ch Q2).filter QkF=(dO QU es ch Q2).filter Qgv:=by
  refine List.filter_congr λx h=>?_;congr 1;rw[GG,Kb,jF,GS];constructor
  .rintro⟨_,w,hw,b⟩;exact⟨w,hw,FH.2 b⟩
  .rintro⟨w,hw,b⟩;exact⟨h,w,hw,FH.1 b⟩
 have e:((dO _ es ch _).filter _++pT ks es ss _ gs).Perm _:=e1▸(ub _ (sortI_perm _)).trans p2.symm;refine⟨f,g,k2,?_,?_⟩
 .unfold yf;exact J1 e▸aa9 (aqu (gE _))
 .rw[e.length_eq];have:=Ay (isAll:=aq ks) (es:=es) (ch:=f) Q2;lia
def lY(ws:QP)(i:Int):Bool:=!decide ((dF ws i).i3=-1)
def iR(ws:QP)(some:AT):List bG:=(some.filter QcG).map Qby
theorem qZ{β:Type}{f:α->List β}(l:QR)(j:Nat):((l.take j).flatMap f).length<=(l.flatMap f).length:=by
 have h2:=yU j l
 conv=>rhs;rw[← h2]
 rw[wj,kr];lia
theorem Cp{α:Type}{f:α->AT}:∀l:List α,(l.flatMap λa=>sortI (f a)).Perm (l.flatMap f)
 | []=>.refl _
 | a::l=>(sortI_perm _).append (Cp l)
def y2(n:Nat)(w:bG):Prop:=(0<=w.src/\w.src<n)/\(w.i3=-1\/(0<=w.i3/\w.i3<n))/\qY w.mode/\w.ym.length<=2/\D.bR w.ym=true/\D.bR w.asks=true
def FJ(es:AT)(m:Int)(w:bG):Bool:=(!decide (w.mode="new")&&decide (w.i3=m)) || (decide (w.mode="far")&&(decide (w.i3=-1) || decide (w.i3∈bz es m)))
def kE(ks:At)(es:AT)(ws:QP)(m:Int):Bool:=bD ks m&&ws.any (FJ es m)
abbrev _root_.Cl:=List BA
noncomputable def inR(is:Cl)(a:AT):BA:=a.flatMap λm=>D.tup [.str "in",.int m]::is.getD m.toNat []
def q8(is:Cl):Prop:=∀l∈is,l.length<=2/\D.bR l=true
noncomputable def Ih(DN:Bz)(os:Cl)(mem bh gone:AT):BA:=gone.flatMap λm=>D.tup [.str "out",.int m]::(QjV++os.getD m.toNat [])
def Ii(ws:QP)(some:AT):BA:=some.flatMap λi=>D.tup [.str "way",.int i]::(dF ws i).ym
theorem q8.get{is:Cl}(h:q8 is)(k:Nat):(is.getD k []).length<=2/\D.bR (is.getD k [])=true:=by
 by_cases a:k<is.length
 .rw[la,ma a];exact h _ WA
 .rw[la,v3 We];exact⟨WA,rfl⟩
theorem xu{α β:Type}{f:α->List β}{c:Nat}:∀l:List α,(∀a∈l,(f a).length<=c)->(l.flatMap f).length<=c*l.length
 | [],_=>by simp
 | a::l,h=>by
  have h1:=h a gj;have h2:=xu l (λb d=>h b (i4 _ d));rw[rf,kr,lr];lia
def Cq{f:α->BA}{l:QR}(h:∀a∈l,D.bR (f a)=true):D.bR (l.flatMap f)=true:=g7 λd hd=>by
 obtain⟨a,b,hd⟩:=l0.1 hd;exact jr (h a b) d hd
def O4{a c:BA}(h1:D.bR a=true)(h2:D.bR c=true):D.bR (a++c)=true:=g7 λd hd=>(gY.1 hd).elim (jr h1 d) (jr h2 d)
theorem Lh{DN:Bz}{os:Cl}{bh:AT}(h:q8 os)(gone:AT):(Ih DN os mem bh gone).length<=4*gone.length/\D.bR (Ih DN os mem bh gone)=true:=by
 refine⟨xu _ λm _=>?_,Cq λm _=>?_⟩
 .have:=(h.get m.toNat).1;have h1:(if DN m=true then [D.tup [.str "keep",.int m,.int Qjo,.int QjL]] else []).length<=1:=by split<;>simp
  rw[lr,kr];lia
 .refine O4 ?_ (h.get _).2;split<;>rfl
theorem FL{is:Cl}(h:q8 is)(a:AT):(inR is a).length<=3*a.length/\D.bR (inR is a)=true:=by
 refine⟨xu _ λm _=>?_,Cq λm _=>?_⟩
 .have:=(h.get m.toNat).1;simp_all
 .exact(h.get _).2
theorem Li{ws:QP}{some:AT}(h:∀i∈some,y2 n Qbh):(Ii ws some).length<=3*some.length/\D.bR (Ii ws some)=true:=by
 refine⟨xu _ λm hm=>?_,Cq λm hm=>?_⟩
 .have:=(h m hm).2.2.2.1;simp;lia
 .exact(h m hm).2.2.2.2.1
def Yq(DN:Bz)(os:Cl)(mem bh gone:AT)(m:Int):Ih DN os mem bh (gone++[m])=Ih DN os mem bh gone++(D.tup [.str "out",.int m]::(QjV++os.getD m.toNat [])):=by
 unfold Ih;simp
def Yr(ws:QP)(some:AT)(i:Int):Ii ws (some++[i])=Ii ws some++(D.tup [.str "way",.int i]::(dF ws i).ym):=by
 unfold Ii;simp
def aci(is:Cl)(a:AT)(m:Int):inR is (a++[m])=inR is a++(D.tup [.str "in",.int m]::is.getD m.toNat []):=by
 unfold inR;simp
def BJ(ks:At)(es:AT)(ws:QP)(mem ops:AT)(gs:QP):AT:=R7 Qai es ((lX ks es ops gs).filter QdU) mem ops
def C4(ks:At)(es ss:AT)(is os:Cl)(ws:QP)(mem ops some:AT):BA:=
 Ih QdU os mem (BJ ks es ws mem ops QbY) (lX ks es ops QbY)++Ii ws some++inR is (pT ks es ss (BJ ks es ws mem ops QbY) QbY)
def yp(ks:At)(es mem:AT):Prop:=mem.length=es.length/\∀k:Nat,k<es.length->bD ks k=true->mem.getD k 0=-1\/mem.getD k 0∈jl es k
structure iS(ks:At)(es ss:AT)(is os:Cl)(ws:QP):Prop where
 n0:0<es.length
 n1:es.length<=40
 kl:ks.length=es.length
 sl:ss.length=es.length
 il:is.length=es.length
 ol:os.length=es.length
 kd:Ce Qax Qai QU es
 pre:nj es
 st:ye Qai es ss
 ir:q8 is
 or:q8 os
 wo:∀w∈ws,y2 es.length w
 wl:ws.length<=8
structure lZ(ks:At)(es:AT)(ws:QP)(ops some:AT):Prop where
 i:∀i∈some,QeA/\(dF ws i).src∈ops
 l:some.length<=8
 ap:(iR ws some).Pairwise Qh3
section
variable{is os:Cl}{ws:QP}{some:AT}
theorem iS.tree(h:QbF)(hm:QeY):cX Qax QU es ss mem:=⟨h.pre,(λk a e=>by
  obtain⟨_,_,_,z⟩|⟨z,_⟩|⟨z,_⟩:=h.kd k a
  .exact z
  .rw[z]at e;cases e
  simp_all),λk a e1 e2=>by
  obtain⟨z,_⟩|⟨_,z,_⟩|⟨_,_,z⟩:=h.kd k a
  .rw[z]at e1;cases e1
  .exact⟨h.st k a z,hm.2 k a z⟩
  simp_all⟩
theorem iS.kinds(h:QbF):∀k:Nat,k<es.length->aZ ks k=true\/aq ks k=true\/ks.getD k Str.empty="one":=λk a=>by
 obtain⟨z,_⟩|⟨_,z,_⟩|⟨_,_,z⟩:=h.kd k a
 .exact .inl z
 .refine .inr (.inr ?_);have:=ko z;assumption
 .exact .inr QbN
theorem uO(b:0<es.length)(a:x∈dO QU es ch Q2):0<=x/\x<es.length:=by
 have:=jE _ a;lia
def amd{w:bG}(hw:w∈iR ws some):∃i∈some,w=dF ws i/\w.i3 ≠ -1:=by
 obtain⟨i,hi,rfl⟩:=j0.1 hw;obtain⟨h1,h2⟩:=kc.1 hi;refine⟨i,h1,rfl,?_⟩;unfold lY at h2;simpa using h2
theorem lZ.ot(h:QbF)(hs:Qjp):∀w∈iR ws some,Goes ks es Qaz w:=λw hw=>by
 obtain⟨i,hi,rfl,d⟩:=amd hw;obtain⟨⟨c,i1⟩,b⟩:=hs.i i hi;have xa:=h.wo _ (mU c i1);have a:=xa.2.1.resolve_left d;refine⟨a,?_⟩;have e:((dF ws i).i3.toNat)=(dF ws i).i3:=by lia
 obtain z|z:=agz h.pre.1 xa.1.1 xa.1.2
 .exact .inl z.1
 .refine .inr ⟨ e▸z.2.1,z.2.2.1,?_⟩;exact Lg h.pre.1 ((dF ws i).src.toNat+1) We b z.1
theorem lZ.xa(h:QbF)(hs:lZ ks es ws ops some):∀i∈some,y2 es.length Qbh:=λi hi=>h.wo _ (mU (hs.i i hi).1.1 (hs.i i hi).1.2)
def ND(h:QbF)(d:QdP)(a:QdI)(hm:mem.length=es.length)(gs:QP):BJ ks es ws mem Qaz gs=Yl Qai ch mem ((lX ks es Qaz gs).filter QdU):=by
 refine Yo h.pre.1 rfl h.n0 hm a (λk c e=>d k c ?_) (λx b=>(jF.1 (kc.1 b).1).1);exact lx e
def Dp(h:QbF)(c:QdP)(d:QdI)(hm:QeY)(gs:QP):yp ks es Qi2:=by
 rw[ND h c d hm.1];refine⟨by rw[Fw];exact hm.1,λk a b=>?_⟩;rw[Az _ _ (λe he=>?_) k (hm.1▸a)]
 .split
  .exact .inr (c k a b)
  .exact hm.2 k a b
 .exact hm.1▸uO h.n0 (jF.1 (kc.1 he).1).1
end
def O5{p:α->Bool}{l:QR}{j:Nat}{x:α}(h:l[j]? = some x)(a:p x=true):l.any p=true:=GS.2 ⟨x,l6 h,a⟩
theorem any_none{p:α->Bool}{l:QR}(h:∀(j:Nat) (x:α),l[j]? = some x->p x=false):l.any p=false:=by
 rw[List.any_eq_false];intro x a;obtain⟨j,b,e⟩:=List.getElem_of_mem a;rw[h j x WE];decide
noncomputable def pU(a mo:Int)(bs:AT):Int:=if a=-1 then mo else bs.getD a.toNat 0+mo
inductive fB where
 | put (x b m:Int)
 | call (s:Str)
 | say (s:Str) (b m:Int)
noncomputable def fB.w:fB->Str
 | .put _ _ _=>"put"
 | .call _=>"call"
 | .say _ _ _=>"say"
noncomputable def fB.ds:fB->BA
 | .put x b m=>[.int x,.tup [.int b,.int m]]
 | .call s=>[.str s]
 | .say s b m=>[.str s,.tup [.int b,.int m]]
def fB.d(q:fB):D:=.tup (.str q.w::q.ds)
def xi(bs:AT)(b:Int):Prop:=b=-1\/(0<=b/\b<bs.length)
def fB.ok(bs:AT):fB->Prop
 | .put x b _=>(0<=x/\x<bs.length)/\xi bs b
 | .call _=>True
 | .say _ b _=>xi bs b
def fB.row(bs:AT):fB->J
 | .put x b m=>.put x (bs.getD x.toNat 0) (pU b m bs)
 | .call s=>.Al "call" [.str s]
 | .say s b m=>.Al "say" [.str s,.int (pU b m bs)]
theorem Ys{s:o2}{q:fB}(h:q.ok s.2.2):Right n s (q.row s.2.2):=by
 cases q with
 | put x b m=>exact⟨h.1.1,h.1.2,rfl⟩
 | call s=>exact⟨Wl,WA,λd hd=>by simp at hd;exact .inr ⟨_,hd⟩⟩
 | say s b m=>exact⟨Wl,by show 2<=3;decide,λd hd=>by
   simp at hd;obtain e|e:=hd
   .exact .inr ⟨_,e⟩
   .exact .inl ⟨_,e⟩⟩
def ame{bs:AT}{q:fB}(h:q.ok bs):∃o m,(q.row bs).ok (o,m,bs):=⟨[],[],(Ys (n:=0) (s:=([],[],bs)) h).ok⟩
def Eg(bs:AT)(q:fB):(q.row bs).d.tG=true:=by cases q<;>rfl
def sF(q:fB):q.d.tG=true:=by cases q<;>rfl
def ZJ(bs:AT)(q:fB):AT:=Ic false (q.row bs) bs
def V1(bs:AT)(q:fB):(ZJ bs q).length=bs.length:=ach ..
theorem acm(a:List fB):∀bs:AT,(a.foldl ZJ bs).length=bs.length:=by
 induction a with
 | nil=>intro bs;rfl
 | cons q a b=>intro bs;rw[k3,b,V1]
def sG:List fB->AT->List J
 | [],_=>[]
 | q::a,bs=>q.row bs::sG a (ZJ bs q)
noncomputable def J2:fB->Option Str
 | .call s=>some s
 | _=>none
def vF(a:List fB):At:=a.filterMap J2
theorem acn(a:List fB)(q:fB):∀bs:AT,sG (a++[q]) bs=sG a bs++[q.row (a.foldl ZJ bs)]:=by
 induction a with
 | nil=>intro bs;rfl
 | cons p a b=>intro bs;rw[mT,sG,b,sG,k3,mT]
theorem aco(a:List fB):∀bs:AT,(sG a bs).length=a.length:=by
 induction a with
 | nil=>intro bs;rfl
 | cons p a b=>intro bs;rw[sG,lr,b,lr]
theorem V2{bs b2:AT}(h:b2.length=bs.length)(q:fB)(a:q.ok bs):q.ok b2:=by
 cases q with
 | put x b m=>
  have a:=a;show(0<=x/\x<b2.length)/\xi b2 b;unfold xi at a ⊢;rw[h];exact a
 | call s=>trivial
 | say s b m=>
  have a:=a;show xi b2 b;unfold xi at a ⊢;rw[h];exact a
def mh{l:QR}{j:Nat}{x:α}(h:l[j]? = some x):l.take QA=l.take j++[x]:=by rw[rh,h];rfl
inductive It where
 | out (m:Int)|keep (m p q:Int)|way (i:Int)|yd (m:Int)|kL (q:fB)
def It.sj:It->J
 | .out m=>.out m
 | .keep m p q=>.keep m p q
 | .way i=>.Al "way" [.int i]
 | .yd m=>.yd m
 | .kL q=>.Al q.w q.ds
def It.d(x:It):D:=x.sj.d
def It.j(bs:AT):It->J
 | .kL q=>q.row bs
 | x=>x.sj
def It.ok(bs:AT):It->Prop
 | .kL q=>q.ok bs
 | _=>True
def It.af(bs:AT):It->AT
 | .kL q=>ZJ bs q
 | _=>bs
def It.call:It->Option Str
 | .kL q=>J2 q
 | _=>none
noncomputable def It.told:It->Bool
 | .kL _=>true
 | _=>false
noncomputable def Lj:At:=["out","keep","way","in"]
theorem agO(x:It):decide (x.sj.w∈Lj)=!x.told:=by
 cases x with
 | kL q=>
  cases q with
  | put x b m=>rfl
  | call s=>rfl
  | say s b m=>rfl
 | out m=>rfl
 | keep m p q=>rfl
 | way i=>rfl
 | yd m=>rfl
theorem Lk(x:It):x.d.tG=true:=by
 cases x with
 | kL q=>exact sF q
 | _=>rfl
theorem acp(bs:AT)(x:It):(x.j bs).d.tG=true:=by
 cases x with
 | kL q=>exact Eg bs q
 | _=>rfl
theorem Yt(bs:AT)(x:It):(x.af bs).length=bs.length:=by
 cases x with
 | kL q=>exact V1 bs q
 | _=>rfl
abbrev _root_.Ee:=List It
theorem tW(xs:Ee):∀bs:AT,(xs.foldl It.af bs).length=bs.length:=by
 induction xs with
 | nil=>intro bs;rfl
 | cons x xs a=>intro bs;rw[k3,a,Yt]
def vG:Ee->AT->List J
 | [],_=>[]
 | x::xs,bs=>x.j bs::vG xs (x.af bs)
def cY(xs:Ee):At:=xs.filterMap It.call
theorem agP(xs:Ee)(ys:Ee):∀bs:AT,vG (xs++ys) bs=vG xs bs++vG ys (xs.foldl It.af bs):=by
 induction xs with
 | nil=>intro bs;rfl
 | cons p xs a=>intro bs;rw[mT,vG,a,vG,k3,mT]
theorem AO(xs:Ee):∀bs:AT,(vG xs bs).length=xs.length:=by
 induction xs with
 | nil=>intro bs;rfl
 | cons p xs a=>intro bs;rw[vG,lr,a,lr]
theorem Eh(xs:Ee):∀bs:AT,D.bR ((vG xs bs).map J.d)=true:=by
 induction xs with
 | nil=>intro bs;rfl
 | cons x xs a=>intro bs;rw[vG,js,D.bR,acp,a];rfl
theorem J3(a:List fB):∀bs:AT,D.bR ((sG a bs).map J.d)=true:=by
 induction a with
 | nil=>intro bs;rfl
 | cons q a b=>intro bs;rw[sG,js,D.bR,Eg,b];rfl
def O6(xs:Ee)(x:It):cY (xs++[x])=cY xs++x.call.toList:=by
 unfold cY;simp;congr 1
theorem agQ{bs b2:AT}(h:b2.length=bs.length)(x:It)(a:x.ok bs):x.ok b2:=by
 cases x with
 | kL q=>exact V2 h q a
 | _=>trivial
theorem FN:∀{ds:BA},D.bR ds=true->T.dH Qa7=true
 | [],_=>rfl
 | d::ds,h=>by simp_all [D.bR,T.dH,FN,T.clean]
theorem Sg{c b a:BA}(h1:D.bR c=true)(h2:D.bR b=true)(d:D.bR a=true):(T.tup [.lst (c.map T.sh),.lst (b.map T.sh),.lst (a.map T.sh)]).clean=true:=by simp_all [T.clean,T.dH,FN]
def Sh(bs a:AT)(q:fB):(T.tup [.lst ((a.map D.int).map T.sh),.sh (q.row bs).d]).clean=true:=by
 rw[T.clean,T.dH,T.dH,T.clean,T.clean,qA,Eg];rfl
def Tu{d:D}{ds:BA}:wV (d::ds) 0=some d:=dg rfl
noncomputable def agR:At:=["out","keep","way","in"]
def J.told(r:J):Bool:=!decide (r.w∈agR)
theorem O7:∀(xs:Ee) (bs:AT),(xs.filter It.told).foldl It.af bs=xs.foldl It.af bs
 | [],_=>rfl
 | x::xs,bs=>by
  rw[k3,GI];cases x with
  | kL q=>rw[di (show It.told (.kL q)=true from rfl),k3];exact O7 xs _
  | _=>exact O7 xs bs
section
variable{is os:Cl}{ws:QP}{some:AT}
theorem acq(b:QbF)(f:QdP)(d:QdI)(hm:QeY)(hs:Qjp){i:Int}(hi:i∈some)(e:(dF ws i).i3 ≠ -1) :
  (dF ws i).i3∈yf ks es ss Qfd Qaz QbY:=by
 have c:=b.tree (Dp b f d hm QbY);have hw:dF ws i∈iR ws some:=by
  unfold iR;refine j0.2 ⟨i,kc.2 ⟨hi,?_⟩,rfl⟩;unfold lY;rw[ky e];rfl
 have g:=hs.ot b _ hw;unfold yf pT;refine eZ.2 (i5 _ (eZ.2 (l0.2 ⟨_,hw,?_⟩)));have a:(dF ws i).i3.toNat<es.length:=by have:=g.1;lia
 have et:(((dF ws i).i3.toNat:Nat):Int)=(dF ws i).i3:=by have:=g.1;lia
 unfold Ig;rw[tV c a g.up];have:=(Ef (far:=ef (dF ws i).mode) (near:=gM (dF ws i).mode) (u:=iQ ks es Qbh) c a (dF ws i).i3.toNat a).2 (.inl Q4)
 rwa [et]at this
end
def acr(n:Nat):(List.replicate n [D.int (-1)]).flatten=(List.replicate n (-1:Int)).map D.int:=by simp
noncomputable def dP(ns:AT)(k:Int):Int:=if k<ns.length then ns.getD k.toNat 0 else 0
noncomputable def w6:At:=["out","put","say","shut","then","to"]
def AQ(l:AT):yc 60 Qh0:=.lst λd hd=>by
 obtain⟨i,_,rfl⟩:=j0.1 hd;exact .int _ _
def Si(mk:Str)(i j:Int):Bool:=if mk="<" then decide (i<j) else if mk="<=" then decide (i<=j) else if mk="=" then decide (i=j) else !decide (i=j)
inductive uW where
 | FP (op:Bool) (m:Int)
 | num (mk:Str) (b1 m1 b2 m2:Int)
noncomputable def tX:uW->D
 | .FP op m=>.tup [.str (if op then "open" else "shut"),.int m]
 | .num mk b1 m1 b2 m2=>.tup [.str mk,.tup [.int b1,.int m1],.tup [.int b2,.int m2]]
noncomputable def Sj:At:=["<","<=","=","!="]
def uW.Ok(n:Nat)(bs:AT):uW->Prop
 | .FP _ m=>0<=m/\m<n
 | .num mk b1 _ b2 _=>mk∈Sj/\(b1=-1\/(0<=b1/\b1<bs.length))/\(b2=-1\/(0<=b2/\b2<bs.length))
def FQ(a:uW):(tX a).tG=true:=by cases a<;>rfl
def J4(es:AT)(t u:Int):Bool:=decide (t=u) || (decide (t=-1) || decide (u=-1)) || (decide (u∈bz es t) || decide (t∈bz es u))
variable{c:Int}
theorem acs{a:Int}:Le bC es a c=-1\/Le bC es a c∈bz es a:=by
 unfold Le;cases e:(bz es a).find? _ with
 | none=>exact .inl rfl
 | some x=>exact .inr (List.mem_of_find?_eq_some e)
def LM(ks:At)(es:AT)(w v:bG):Bool:=(!decide (w.i3=-1) && !decide (v.i3=-1))&&J4 es QaT (iQ ks es v)
def aqw(w v:bG):LM ks es w v=LM ks es v w:=by
 unfold LM J4;simp[Bool.and_comm (!decide (w.i3=-1))];have e1:decide (iQ ks es w=iQ ks es v)=decide (iQ ks es v=iQ ks es w):=by simp[eq_comm]
 rw[e1,Bool.or_comm (decide (iQ ks es w=-1)),Bool.or_comm (decide (iQ ks es v∈bz es _))]
noncomputable def ayy:D->Int
 | .tup (_::_::_::_::.int t::_)=>t
 | _=>0
noncomputable def Cr(ln:AT)(y:Int):Nat:=ln.findIdx (λz=>decide (z=y))
variable{ln:AT}
noncomputable def ZN(h:y∈ln):Cr ln y<ln.length:=List.findIdx_lt_length_of_exists ⟨y,h,WA⟩
def Lp(h:y∈ln):ln[Cr ln y]? = some y:=by
 have a:=ZN h;have:=List.findIdx_getElem (w:=a);exact ma a▸congrArg _ (ko this)
def amf{i:Nat}(h:i<Cr ln y):ln[i]? ≠ some y:=λe=>by
 have:=List.not_of_lt_findIdx h;rw[(kO.1 e).2]at this;simp at this
def agS(nd:ln.Nodup){i:Nat}(a:y∈ln):Cr ln y=i↔ln[i]? = some y:=by
 constructor
 .rintro rfl;exact Lp a
 .intro e;have h1:=Lp a;have b:=ZN a;have hi:=(kO.1 e).1;rw[ma b]at h1;rw[ma hi]at e;have e3:=(l7 h1).trans (l7 e).symm;have np:=List.pairwise_iff_getElem.1 nd;obtain z|z|z:=Nat.lt_trichotomy _ i
  .exact absurd e3 (np _ _ b hi z)
  .exact z
  .exact absurd e3.symm (np _ _ hi b z)
noncomputable def Yu(ops:AT):D->Bool
 | .tup [.str k,.int m]=>if k="open" then decide (m∈ops) else if k="shut" then !decide (m∈ops) else true
 | _=>true
def J5(ops:AT)(l:BA):Bool:=l.all (Yu ops)
def uW.LU:uW->Prop
 | .FP _ _=>True
 | .num mk _ _ _ _=>mk∈Sj
theorem uW.Ok.mk{bs:AT}{a:uW}(h:a.Ok n bs):a.LU:=by
 cases a with
 | FP op m=>trivial
 | num mk b1 m1 b2 m2=>exact h.1
def agT{mk:Str}(h:mk∈Sj):mk≠"open" /\ mk≠"shut":=by
 have:∀x∈Sj,x≠"open" /\ x≠"shut":=by decide +kernel
 exact this mk h
def acv(ops:AT)(op:Bool)(m:Int):Yu ops (tX (.FP op m))=if op then decide (m∈ops) else !decide (m∈ops):=by
 cases op
 .rfl
 rfl
def vk(ops:AT)(sg:Str)(ln:AT)(w:bG):Bool:=decide (w.sign=sg)&&(decide (w.src∈ln)&&J5 ops w.asks)
def vl(ws:QP)(ops:AT)(sg:Str)(ln:AT)(n:Nat):CO:=(List.range n).filter λk=>vk ops sg ln (ws.getD k w0)
def xw(ws:QP)(ops:AT)(sg:Str)(ln:AT):AT:=eS (λk:Int=>(Cr ln (ws.getD k.toNat w0).src:Int)) ((vl ws ops sg ln ws.length).map λ(k:Nat)=>(k:Int))
def V3(ws:QP)(ops:AT)(sg:Str)(ln:AT)(n:Nat):(vl ws ops sg ln n).length<=n:=by
 have:=oI (λk=>vk ops sg ln (ws.getD k w0)) (List.range n);rw[m3]at this;exact this
def acw(ws:QP)(ops:AT)(sg:Str)(ln:AT)(n:Nat):vl ws ops sg ln (n+1)=vl ws ops sg ln n++(if vk ops sg ln (ws.getD n w0)=true then [n] else []):=by
 unfold vl;rw[y0,mE,GI,uk]
def ZI(ws:QP):Prop:=∀w∈ws,∃l:List uW,w.asks=l.map tX/\∀a∈l,a.LU
abbrev Ask:=Str×Int×Int×Int×Int
noncomputable def BG(q:Ask):D:=.tup [.str q.1,.tup [.int q.2.1,.int q.2.2.1],.tup [.int q.2.2.2.1,.int q.2.2.2.2]]
def OR(bs:AT)(q:Ask):Prop:=(q.2.1=-1\/(0<=q.2.1/\q.2.1<bs.length))/\(q.2.2.2.1=-1\/(0<=q.2.2.2.1/\q.2.2.2.1<bs.length))
def hQ(bs:AT)(q:Ask):Bool:=Si q.1 (pU q.2.1 q.2.2.1 bs) (pU q.2.2.2.1 q.2.2.2.2 bs)
def LS(l:BA):BA:=l.filter λd=>!decide (d.ox.toS∈(["open","shut"]:At))
noncomputable def IS:uW->List Ask
 | .FP _ _=>[]
 | .num mk b1 m1 b2 m2=>[(mk,b1,m1,b2,m2)]
theorem agV{bs:AT}{l:List uW}(h:∀a∈l,a.Ok n bs):LS (l.map tX)=(l.flatMap IS).map BG:=by
 unfold LS
 induction l with
 | nil=>rfl
 | cons a l b=>
  have b:=b λq c=>h q (i4 _ c);have d:=h a gj;rw[js,rf,jI,← b];cases a with
  | FP op m=>
   rw[ue]
   .rfl
   .show ¬ (!decide ((if op=true then("open":Str) else "shut")∈(["open","shut"]:At)))=true;grind
  | num mk b1 m1 b2 m2=>
   rw[oP]
   .rfl
   .have:∀x∈Sj,(!decide (x∈(["open","shut"]:At)))=true:=by decide +kernel
    exact this mk d.1
theorem agW{bs:AT}{l:List uW}(h:∀a∈l,a.Ok n bs):∀q∈l.flatMap IS,OR bs q:=λq b=>by
 obtain⟨a,d,b⟩:=l0.1 b;have c:=h a d;cases a with
 | FP op m=>cases b
 | num mk b1 m1 b2 m2=>
  exact kf.1 b▸c.2
def hD(vs:AT):D->Bool
 | .tup [.str mk,.tup [.int b1,.int m1],.tup [.int b2,.int m2]]=>Si mk (pU b1 m1 vs) (pU b2 m2 vs)
 | _=>true
def zg(vs:AT)(w:bG):Bool:=w.asks.all (hD vs)
variable{vs:AT}
theorem amk{bs:AT}{l:List uW}(h:∀a∈l,a.Ok n bs):(l.map tX).all (hD vs)=(l.flatMap IS).all (hQ vs):=by
 induction l with
 | nil=>rfl
 | cons a l b=>
  have b:=b λq c=>h q (i4 _ c);rw[js,wt,rf,List.all_append];congr 1;cases a with
  | FP op m=>rfl
  | num mk b1 m1 b2 m2=>exact(ui _).symm
def Ei(n:Nat)(bs:AT)(ws:QP):Prop:=∀w∈ws,∃l:List uW,w.asks=l.map tX/\l.length<=2/\∀a∈l,a.Ok n bs
theorem Ei.ok{bs:AT}{ws:QP}(h:Ei n bs ws):ZI ws:=λw hw=>by
 obtain⟨l,e,_,b⟩:=h w hw;exact⟨l,e,λa c=>(b a c).mk⟩
noncomputable def Ik(l:AT)(s:Int):AT:=if s∈l then l else l++[s]
noncomputable def oo(l:AT):CC:=l.map λs=>((Sum.inl s:Key),D.bl true)
theorem agX(l:AT)(s:Int):((oo l).any λa=>decide (a.1=Sum.inl s))=decide (s∈l):=by
 unfold oo
 induction l with
 | nil=>rfl
 | cons y l b=>
  by_cases h:y=s
  .subst h;simp
  .have h':¬ s=y:=λe=>h e.symm;simp_all
def agY(l:AT)(s:Int):vq (oo l) (.inl s) Qdl=oo (Ik l s):=by
 unfold vq;rw[agX];unfold Ik;by_cases h:s∈l
 .rw[di (lx h),di h];unfold oo;rw[kq];refine nz λy _=>?_;simp
 .rw[if_neg (by simpa using h),if_neg h];unfold oo;rw[jI];rfl
def acB(l:AT):((oo l).map (·.1)).map RC=l.map D.int:=by
 unfold oo;rw[kq,kq];rfl
def acC(l:AT)(s:Int):(Ik l s).length<=l.length+1:=by
 unfold Ik;split<;>simp
def Ij(ws:QP)(ops vs:AT)(sg:Str)(es:AT)(leaf:Int):AT:=(xw ws ops sg (leaf::bz es leaf)).filter λk=>zg vs (ws.getD k.toNat w0)
def pk(ws:QP)(ops vs:AT)(sg:Str)(es:AT)(acc:AT)(leaf:Int):AT:=match Ij ws ops vs sg es leaf with
 | []=>acc
 | k::_=>Ik acc k
noncomputable def Pe(ks:At)(x:Int):Bool:=decide (ks.getD x.toNat Str.empty="leaf")
def Yv(ks:At)(ops:AT):AT:=ops.filter (Pe ks)
def Nx(ws:QP)(ops vs:AT)(sg:Str)(es:AT)(l:AT):AT:=l.foldl Qho []
theorem agZ(ws:QP)(ops vs:AT)(sg:Str)(es:AT)(acc:AT)(leaf:Int):(pk ws ops vs sg es acc leaf).length<=acc.length+1:=by
 unfold pk;split
 .lia
 .exact acC _ _
theorem V4(ws:QP)(ops vs:AT)(sg:Str)(es:AT):∀l:AT,(Nx ws ops vs sg es l).length<=l.length:=by
 have gen:∀(l acc:List _),(l.foldl Qho acc).length<=acc.length+l.length:=by
  intro l
  induction l with
  | nil=>simp
  | cons y l a=>
   intro acc;have h1:=agZ ws ops vs sg es acc y;have:=a (pk ws ops vs sg es acc y);simp;lia
 intro l;have:=gen l [];simpa [Nx] using this
def acD(ws:QP)(ops vs:AT)(sg:Str)(es:AT)(l:AT)(x:Int):Nx ws ops vs sg es (l++[x])=pk ws ops vs sg es (Nx ws ops vs sg es l) x:=by simp[Nx]
variable{sg:Str}
theorem Lq{ws:QP}(h:k∈xw ws ops sg ln):0<=k/\k<ws.length:=by
 obtain⟨i,hi,rfl⟩:=j0.1 (lT.1 h);have:=mN.1 (kc.1 hi).1;lia
variable{j:Nat}
def Yw{p:α->Bool}{l:QR}{x:α}(h:l[j]? = some x)(b:p x=true)(c:∀y∈l.take j,p y=false):∃r,l.filter p=x::r:=by
 have d:=(kO.1 h).1;have e:=by
  have h2:=yU j l;rw[x9 d,(kO.1 h).2]at h2;exact h2.symm
 refine⟨(l.drop QA).filter p,?_⟩
 conv=>lhs;rw[e]
 rw[mE,List.filter_eq_nil_iff.2 (λy a=>by rw[c y a];decide),oP b];rfl
noncomputable def Yx(h:Bz)(tp:Qe5)(tm:QfH)(s:AT×AT)(k:Int):AT×AT:=
 if h k=true then(if s.2.any (tm (tp k))=true then s else(s.1++[k],s.2++[tp k])) else(s.1++[k],s.2)
structure LF(h:Bz)(tp:Qe5)(tm:QfH)(R:QhG)(P:AT)(s:AT×AT):Prop where
 sub:s.1.Sublist P
 AU:s.2=(s.1.filter h).map tp
 apart:∀a∈s.1,∀b∈s.1,a≠b->h a=true->h b=true->tm (tp a) (tp b)=false
 over:∀x∈P,x∉s.1->h x=true/\∃y∈s.1,R y x/\h y=true/\tm (tp x) (tp y)=true
theorem Ts{h:Bz}{tp:Qe5}{tm:QfH}{R:QhG}(r:∀a b,tm a b=tm b a):∀(l P:AT) (s:AT×AT),(P++l).Nodup->(P++l).Pairwise R->LF h tp tm R P s->LF h tp tm R (P++l) (l.foldl (Yx h tp tm) s)
 | [],P,s,_,_,I=>by rw[j2];exact I
 | x::l,P,s,nd,pr,I=>by
  have e:P++x::l=(P++[x])++l:=by simp
  rw[e]at nd pr ⊢;rw[k3];refine Ts r l (P++[x]) _ nd pr ?_;have nx:x∉P:=λc=>by
   have:=(lj.1 (lj.1 nd).1).2.2 x c x WA;exact this rfl
  have u:∀y∈P,R y x:=λy g=>(yK.1 (yK.1 pr).1).2.2 y g x WA;have v:x∉s.1:=λc=>nx (I.sub.subset c);have keep:(∀z∈s.1,h x=true->h z=true->tm (tp x) (tp z)=false)->(h x=true->(s.1++[x],s.2++[tp x])=(s.1++[x],((s.1++[x]).filter h).map tp))->∀t,t=((s.1++[x]).filter h).map tp->LF h tp tm R (P++[x]) (s.1++[x],t):=λhz _ t o=>by
   refine⟨I.sub.append (n7 _),o,λa d b f ne n m=>?_,λy g p=>?_⟩
   .obtain d|d:=gY.1 d
    .obtain f|f:=gY.1 f
     .exact I.apart a d b f ne n m
     .rw[kf.1 f]at m ⊢;rw[r];exact hz a d m n
    .rw[kf.1 d]at n ne ⊢;obtain f|f:=gY.1 f
     .exact hz b f n m
     .exact absurd (kf.1 f).symm ne
   .have j:y∉s.1/\y≠x:=⟨λz=>p (ka _ z),λz=>p (i5 _ (by rw[z];simp))⟩;obtain g|g:=gY.1 g
    .obtain⟨h1,z,hz,h2⟩:=I.over y g j.1;exact⟨h1,z,ka _ hz,h2⟩
    .exact absurd (kf.1 g) j.2
  unfold Yx;by_cases c:h x=true
  .rw[di c];by_cases d:s.2.any (tm (tp x))=true
   .rw[di d];obtain⟨t,o,hm⟩:=GS.1 d;rw[I.AU]at o;obtain⟨y,g,rfl⟩:=j0.1 o;obtain⟨i,q⟩:=kc.1 g;refine⟨I.sub.trans (NY _ _),I.AU,I.apart,λz hz p=>?_⟩;obtain hz|hz:=gY.1 hz
    .exact I.over z hz p
    .rw[kf.1 hz];exact⟨c,y,i,u y (I.sub.subset i),q,hm⟩
   .rw[cq d];refine keep (λz hz _ k=>?_) (λ_=>by rw[mE,oP c];simp[I.AU]) _ ?_
    .cases e:tm (tp x) (tp z) with
     | false=>rfl
     | true=>exact absurd (GS.2 ⟨tp z,by rw[I.AU];exact j0.2 ⟨z,kc.2 ⟨hz,k⟩,rfl⟩,e⟩) d
    .rw[mE,oP c];simp[I.AU]
  .rw[cq c];refine keep (λz hz k _=>absurd k c) (λk=>absurd k c) _ ?_;rw[mE,ue c];simp[I.AU]
theorem O8{g:Qe5}(nd:l.Nodup):(eS g l).Pairwise λa c=>g a<g c\/(g a=g c/\Cr l a<Cr l c):=by
 have f:l=(List.range _).map _:=we λi=>by
  simp;by_cases hi:i<l.length
  .rw[oT hi];show _=some (l.getD i 0);rw[la,ma hi];rfl
  .rw[v3 We,v3 WE];rfl
 have b:=λi hi=>by
  have e:l[i]? = some (l.getD i 0):=by rw[la,ma hi];rfl
  exact(agS nd (l6 e)).2 e
 have h1:eS g l=(eS (λi=>g (l.getD i 0)) (List.range l.length)).map λi=>l.getD i 0:=by
  conv=>lhs;rw[f]
  exact pH _ _
 rw[h1];refine List.pairwise_map.2 ((B6 Ha).imp_of_mem λ{i j} hi d h=>?_);have hi:=mN.1 (lT.1 hi);have d:=mN.1 (lT.1 d);rw[b i hi,b j d];exact h
def acE(es:AT)(t u:Int):J4 es t u=J4 es u t:=by
 unfold J4;have e1:decide (t=u)=decide (u=t):=by simp[eq_comm]
 rw[e1,Bool.or_comm (decide (t=-1)),Bool.or_comm (decide (u∈bz es t))]
def FT(es:AT)(ws:QP)(k:Int):Int:=-((bz es (dF ws k).src).length:Nat)
def ZO(ks:At)(es:AT)(ws:QP)(l:AT):AT×AT:=l.foldl QgZ ([],[])
def acF(ks:At)(es:AT)(ws:QP)(l:AT)(k:Int):ZO ks es ws (l++[k])=Yx QcG Qgk (J4 es) (ZO ks es ws l) k:=by
 unfold ZO;simp
theorem ag0{h:Bz}{tp:Qe5}{tm:QfH}(s:AT×AT)(k:Int):(Yx h tp tm s k).1.length<=s.1.length+1/\(Yx h tp tm s k).2.length<=s.2.length+1:=by
 unfold Yx;split
 .split
  .lia
  .simp
 .simp
theorem V5(ks:At)(es:AT)(ws:QP):∀l:AT,(ZO ks es ws l).1.length<=l.length/\(ZO ks es ws l).2.length<=l.length:=by
 have gen:∀(l:List _) (s:List _×List _),(l.foldl QgZ s).1.length<=s.1.length+l.length/\(l.foldl QgZ s).2.length<=s.2.length+l.length:=by
  intro l
  induction l with
  | nil=>simp
  | cons k l a=>
   intro s;have h1:=ag0 (h:=lY ws) (tp:=λk=>iQ ks es QdY) (tm:=J4 es) s k;have h2:=a (Yx QcG Qgk (J4 es) s k);simp;lia
 intro l;have:=gen l ([],[]);simpa [ZO] using this
def ag1{ws:QP}{row:AT}(nd:row.Nodup) :
  LF QcG Qgk (J4 es) (λa c=>FT es ws a<FT es ws c\/(FT es ws a=FT es ws c/\Cr row a<Cr row c)) QfO (ZO ks es ws QfO):=by
 have:=Ts (h:=lY ws) (tp:=λk=>iQ ks es QdY) (R:=λa c=>FT es ws a<FT es ws c\/(FT es ws a=FT es ws c/\Cr row a<Cr row c)) (acE es) QfO [] ([],[]) (by rw[nN];exact(iN row).nodup_iff.2 nd) (by rw[nN];exact O8 nd) ⟨.slnil,rfl,λa d=>(by cases d),λx b=>(by cases b)⟩;rw[nN]at this;exact this
def To(ks:At)(es:AT)(ws:QP)(row:AT):AT:=sortI (ZO ks es ws QfO).1
def z4(ws:QP)(ops vs:AT)(sg:Str)(es l:AT):AT:=l.flatMap λleaf=>(Ij ws ops vs sg es leaf).take 1
def acG:x∈Ik l s↔x∈l\/x=s:=by
 unfold Ik;split
 .constructor
  .exact .inl
  .rintro(h|rfl)
   .exact h
   .assumption
 .rw[gY,kf]
def Sl(h:l.Nodup):(Ik l s).Nodup:=by
 unfold Ik;split
 .exact h
 .rename_i c;exact lj.2 ⟨h,WA,λa f b d e=>c (by rw[← kf.1 d,← e];exact f)⟩
theorem Ej(ws:QP)(ops vs:AT)(sg:Str)(es:AT):∀(l acc:AT),acc.Nodup->(l.foldl Qho acc).Nodup/\∀x,x∈l.foldl Qho acc↔x∈acc\/x∈z4 ws ops vs sg es l
 | [],acc,h=>⟨h,λx=>⟨.inl,λz=>by
   obtain z|z:=z
   .exact z
   .cases z⟩⟩
 | y::l,acc,h=>by
  simp;have e:z4 ws _ vs sg es (y::l)=(Ij ws ops vs sg es y).take 1++z4 ws _ vs sg es l:=rfl;rw[e];unfold pk;generalize Ij ws _ vs sg es y=f;cases f with
  | nil=>
   obtain⟨a,c⟩:=Ej ws _ vs sg es l _ h;exact⟨a,‹_› ⟩
  | cons k f=>
   obtain⟨a,c⟩:=Ej ws _ vs sg es l _ (Sl h);refine⟨a,λx=>(c x).trans ?_⟩;rw[acG,List.take_succ_cons,List.take_zero,gY,kf,or_assoc]
noncomputable def acH(ws:QP)(ops vs:AT)(sg:Str)(es l:AT):(Nx ws ops vs sg es l).Nodup:=(Ej ws _ vs sg es l [] WA).1
theorem acI{ws:QP}:x∈Nx ws ops vs sg es l↔x∈z4 ws ops vs sg es l:=by
 have:=(Ej ws ops vs sg es l [] WA).2 x;unfold Nx;simp_all
structure Pt(ws:QP)(ops vs:AT)(sg:Str)(es:AT)(k:Int):Prop where
 k0:0<=k
 k1:k<ws.length
 sign:(dF ws k).sign=sg
 src:(dF ws k).src∈ops
 fit:J5 ops (dF ws k).asks=true
 hold:zg vs QdY=true
theorem Th{es ops:AT}(c:e7 es)(up:∀x∈ops,x=0\/es.getD x.toNat 0∈ops)(d:∀x∈ops,0<=x/\x<es.length):∀(n:Nat) {x y:Int},x<n->x∈ops->y∈bz es x->y∈ops
 | 0,x,y,f,b,_=>absurd (d x b).1 We
 | n+1,x,y,f,b,a=>by
  obtain⟨x0,e⟩:=d x b;rw[fK c x0 e]at a;split at a
  .cases a
  .have g:=c.at x0 e;have he:=(up x b).resolve_left λz=>by subst z;lia
   obtain rfl|a:=fV.1 a
   .exact he
   .exact Th c up d n We he a
theorem aqC{ws:QP}(f:e7 es)(up:∀x∈ops,x=0\/es.getD x.toNat 0∈ops)(e:∀x∈ops,0<=x/\x<es.length)(c:∀x∈l,x∈ops)(h:k∈z4 ws ops vs sg es l):Pt ws ops vs sg es k:=by
 obtain⟨leaf,hm,b⟩:=l0.1 h;have b:=t5 b;obtain⟨d,g⟩:=kc.1 b;obtain⟨k0,k1⟩:=Lq d;obtain⟨i,hi,rfl⟩:=j0.1 (lT.1 d);have a:=(kc.1 hi).2;unfold vk at a;rw[lh,lh]at a;obtain⟨g1,g2,g3⟩:=a;refine⟨k0,k1,ko g1,?_,g3,g⟩;obtain z|z:=fV.1 (ko g2)
 .show(ws.getD i w0).src∈ops;rw[z];simp_all
 .obtain⟨m,j⟩:=e _ (c _ hm);exact Th f up e es.length We (c _ hm) z
noncomputable def Lr(cd pl:D)(pa:BA)(bs:AT)(ex:BS):BS:=("chart",.sh cd)::("place",.sh pl)::("past",.lst (pa.map T.sh))::("boxes",.sh Qes)::ex
noncomputable def vH(cd pl:D)(pa:BA)(bs:AT)(ex:EU):EU:=("chart",cd)::("place",pl)::("past",.lst pa)::("boxes",.lst QbV)::ex
noncomputable def HD:EQ->BS
 | none=>[]
 | some r=>[("first_rows",.lst (r.map T.sh))]
noncomputable def Yy:EQ->EU
 | none=>[]
 | some r=>[("first_rows",.lst r)]
variable{cd pl:D}{pa:BA}{bs:AT}{ex:EU}{eo:EQ}{m:Str}
def Ct:List.lookup ("chart":Str) Qhw=some cd:=K0
def Cu:List.lookup ("place":Str) Qhw=some pl:=rfl
def acJ:List.lookup ("past":Str) Qhw=some (.lst pa):=rfl
def J6:List.lookup ("boxes":Str) Qhw=some Qes:=rfl
def Yz{r:BA}:List.lookup ("first_rows":Str) (vH cd pl pa bs (Yy (some r)))=some (.lst r):=rfl
theorem Sn(h1:Qi8)(h2:Qi9)(c:Qje)(b:Qja)(a:QiL):(vH cd pl pa bs (Yy eo)).lookup m=none:=by
 unfold vH;rw[iL h1,iL h2,iL c,iL b];cases eo with
 | none=>rfl
 | some r=>
  unfold Yy;rw[iL a];rfl
theorem ag2(h1:Qi8)(h2:Qi9)(c:Qje)(b:Qja)(a:QiL):(Lr cd pl pa bs Qcc).lookup m=none:=by
 unfold Lr;rw[iL h1,iL h2,iL c,iL b];cases eo with
 | none=>rfl
 | some r=>
  unfold HD;rw[iL a];rfl
theorem acK(cd pl:D)(pa:BA)(bs:AT)(eo:EQ):(Lr cd pl pa bs Qcc).length<1000:=by
 cases eo with
 | none=>exact jj rfl
 | some r=>exact jj rfl
noncomputable def kM(cd pl:D)(pt:B2)(bs:AT)(ex:BS):BS:=("chart",.sh cd)::("place",.sh pl)::("past",.lst pt)::("boxes",.sh Qes)::ex
abbrev Pl:=AT×AT
noncomputable def Dq(p:Pl):D:=.tup [.lst (p.1.map .int),.lst (p.2.map .int)]
abbrev o3:=Pl×AT×BA
def qI(l:List o3):B2:=l.map λq=>.tup [.sh (Dq q.1),.sh (.lst QhM),.lst (q.2.2.map T.sh)]
variable{p:D}{pt:B2}{et:BS}{y:Addr}
theorem O9:T.gT Qk4=.ins "NestRun" (vH cd pl (T.gU pt) bs (Yy eo)):=by
 cases eo with
 | none=>
  rfl
 | some r=>
  unfold kM vH HD Yy;rw[T.gT,T.uS,T.uS,T.uS,T.uS,T.uS,T.uS,T.gT,T.gT,T.gT,T.gT,fz]
def J7:T.gT (.pin y Qk4)=.ins "NestRun" (vH cd pl (T.gU pt) bs (Yy eo)):=by
 rw[T.gT,O9]
theorem V6(h1:Qi8)(h2:Qi9)(c:Qje)(b:Qja)(a:QiL):(kM cd pl pt bs Qcc).lookup m=none:=by
 unfold kM;rw[iL h1,iL h2,iL c,iL b];cases eo with
 | none=>rfl
 | some r=>
  unfold HD;rw[iL a];rfl
def Sq:List.lookup ("place":Str) Qep=some (.sh pl):=rfl
def J8:List.lookup ("past":Str) Qep=some (.lst pt):=rfl
def Ss:List.lookup ("boxes":Str) Qep=some Qdh:=rfl
def Sv:yN "place" (.sh p) Qep=kM cd p pt bs et:=rfl
def Sw{b2:AT}:yN "boxes" (.sh (.lst (b2.map .int))) Qep=kM cd pl pt b2 et:=rfl
def Sx:T.nT [.fld "place"] QgF=some (.sh pl):=rfl
def Sy:T.nT [.fld "boxes"] QgF=some Qdh:=rfl
def J9:T.nT [.fld "past"] QgF=some (.lst pt):=rfl
def Sz{t2:B2}:T.uU [.fld "past"] (.lst t2) QgF=.pin y (.ins "NestRun" (kM cd pl t2 bs et)):=rfl
def Ka{a b t:T}:T.Lb [.fld "past",.ix pt.length,.ix 2] (.pin y (.ins "NestRun" Qiq))=some t:=by
 show(List.lookup ("past":Str) Qiq).bind (T.Lb [.ix pt.length,.ix 2])=_;rw[J8];show((pt++[T.tup [a,b,t]])[pt.length]?).bind (T.Lb [.ix 2])=_;rw[Hk (gZ _),Nat.sub_self];rfl
def YB{a b t u:T}:T.R3 [.fld "past",.ix pt.length,.ix 2] u (.pin y (.ins "NestRun" Qiq))=.pin y (.ins "NestRun" (kM cd pl (pt++[T.tup [a,b,u]]) bs et)):=by
 have e2:T.Yc (.ix pt.length) (.lst (pt++[T.tup [a,b,t]]))=some (.tup [a,b,t]):=by
  show(pt++[T.tup _])[pt.length]? = _;rw[Hk WA,Nat.sub_self];rfl
 show T.pin y _=_;rw[T.R3,show T.core Qdy=.lst _ from rfl,e2];show T.pin y (.ins _ (yN _ Qdy _))=_;rw[List.set_append_right _ _ (gZ _),Nat.sub_self];rfl
theorem Pa(cd pl:D)(pt:B2)(bs:AT)(eo:EQ):(kM cd pl pt bs Qcc).length<1000:=by
 cases eo with
 | none=>exact jj rfl
 | some r=>exact jj rfl
def SD(l:List o3)(q:o3):qI (l++[q])=qI l++[.tup [.sh (Dq q.1),.sh (.lst QhM),.lst (q.2.2.map T.sh)]]:=by
 unfold qI;rw[jI];rfl
def at4:D->D
 | .tup (_::_::_::d::_)=>d
 | _=>.non
def A1:D->D
 | .tup (_::_::d::_)=>d
 | _=>.non
def YC(d:D):It:=if d.ox.toS="out" then .out d.at2.yb else if d.ox.toS="keep" then .keep d.at2.yb (A1 d).yb (at4 d).yb else if d.ox.toS="way" then .way d.at2.yb else if d.ox.toS="in" then .yd d.at2.yb
 else if d.ox.toS="put" then .kL (.put d.at2.yb (A1 d).ox.yb (A1 d).at2.yb) else if d.ox.toS="call" then .kL (.call d.at2.toS) else .kL (.say d.at2.toS (A1 d).ox.yb (A1 d).at2.yb)
theorem acM(x:It):YC x.d=x:=by
 cases x with
 | out m=>rfl
 | keep m p q=>rfl
 | way i=>rfl
 | yd m=>rfl
 | kL q=>
  cases q with
  | put i a c=>rfl
  | call s=>rfl
  | say s a c=>rfl
def pO(m:Nat)(a:Int):Prop:=a=-1\/(0<=a/\a<(m:Int))
def o4(m:Nat):It->Prop
 | .kL (.put i a _)=>(0<=i/\i<(m:Int))/\pO m a
 | .kL (.say s a _)=>PyData.strOk s=true/\pO m a
 | .kL (.call s)=>PyData.strOk s=true
 | _=>True
theorem acO{m:Nat}{x:It}(h:o4 m x)(b:bs.length=m):x.ok bs:=by
 subst b;cases x with
 | kL q=>
  cases q with
  | put i a c=>exact h
  | say s a c=>exact h.2
  | call s=>trivial
 | _=>trivial
def YD(m:Nat)(d:D):Prop:=∃q:fB,d=q.d/\o4 m (.kL q)
def OA(m:Nat)(d:D):Prop:=∃x:It,d=x.d/\o4 m x
theorem YD.it{m:Nat}{d:D}(h:YD m d):OA m d:=by
 obtain⟨q,rfl,a⟩:=h;exact⟨ _,rfl,a⟩
def acP{m:Nat}{l:BA}(h:∀d∈l,OA m d):(l.map YC).map It.d=l/\∀x∈l.map YC,o4 m x:=by
 refine⟨?_,λx a=>?_⟩
 .simp;refine(nz λd hd=>?_).trans (List.map_id _);obtain⟨x,rfl,_⟩:=h d hd;show(YC _).d=x.d;rw[acM]
 .obtain⟨d,hd,rfl⟩:=j0.1 a;obtain⟨x,rfl,g⟩:=h d hd;rw[acM];exact g
theorem Ls{P:D->Prop}{l:Cl}(h:∀a∈l,∀d∈a,P d)(k:Nat):∀d∈l.getD k [],P d:=λd hd=>by
 simp at hd;cases e:l[k]? with
 | none=>rw[e]at hd;cases hd
 | some a=>rw[e]at hd;exact h a (l6 e) d hd
structure CH where
 bs:List (Str×Int)
 nm:BA
 ks:At
 es:AT
 ss:AT
 is:Cl
 os:Cl
 ws:List bG
def CH.d(c:CH):D:=iu (c.bs.map vC) c.nm (cQ c.ks c.es c.ss) (c.is.map .tup) (c.os.map .tup) (c.ws.map gO)
structure CH.Ok(c:CH):Prop where
 k:iS c.ks c.es c.ss c.is c.os c.ws
 q:∀bs:AT,bs.length=c.bs.length->Ei c.es.length bs c.ws
 i:∀l∈c.is,∀d∈l,YD c.bs.length d
 o:∀l∈c.os,∀d∈l,YD c.bs.length d
 w:∀w∈c.ws,∀d∈w.ym,YD c.bs.length d
 nl:c.nm.length=c.es.length
 bl:c.bs.length<=1000
def Gd(c:CH)(p:Pl):Prop:=∃ch:AT,(ch.length=c.es.length/\ye (bD c.ks) c.es ch)/\p.1=dO Qb7 c.es ch Qbr/\yp c.ks c.es p.2
def YF(c:CH)(ops bs:AT)(sg:Str):AT:=To c.ks c.es c.ws (Nx c.ws ops bs sg c.es (Yv c.ks ops))
def oe(c:CH)(p:Pl)(so:AT):BA:=C4 c.ks c.es c.ss c.is c.os c.ws p.2 p.1 so
def toN(c:CH)(p:Pl)(so:AT):Pl:=(yf c.ks c.es c.ss (BJ c.ks c.es c.ws p.2 p.1 QaM) p.1 QaM,BJ c.ks c.es c.ws p.2 p.1 QaM)
def goN(c:CH)(p:Pl)(sg:Str)(bs:AT):Ee×Pl:=((oe c p Qcs).map YC,toN c p Qcs)
theorem aml(h:nj es)(x0:0<=x)(a:QcB)(e:x≠0):es.getD x.toNat 0 ≠ -1:=by
 obtain⟨k,b⟩:∃k:Nat,x.toNat=k+1:=⟨x.toNat-1,We⟩;obtain z|z:=h.2 k We
 .lia
 .have:=(bf h.1 We We z).1;lia
def aqE{t:Int}(h:J4 es t u=false):Ap es t u:=by
 unfold J4 at h;simp at h;exact⟨h.1.2.1,h.1.2.2,h.1.1,h.2.2,h.2.1⟩
theorem aqF{c:CH}(h:c.Ok){p:Pl}(g:Gd c p)(bs:AT)(sg:Str):lZ c.ks c.es c.ws p.1 Qcs:=by
 obtain⟨ch,⟨v,u⟩,r,t⟩:=g;have n0:=h.k.n0;have q:∀x∈p.1,0<=x/\x<c.es.length:=r▸λx a=>uO n0 a;have up:∀x∈p.1,x=0\/c.es.getD _ 0∈p.1:=λx a=>by
  obtain⟨x0,d⟩:=q x a;by_cases e:x=0
  .exact .inl e
  .right;rw[r]at a ⊢;exact Lg h.k.pre.1 _ d a (JX h.k.pre.1 x0 d (aml h.k.pre x0 d e))
 have nd:(Nx c.ws p.1 bs sg c.es (Yv c.ks p.1)).Nodup:=acH ..;have b:∀k∈Nx _ _ bs sg _ (Yv c.ks _),Pt c.ws _ bs sg _ k:=λk o=>aqC h.k.pre.1 up q (λx a=>(kc.1 a).1) (acI.1 o);have f:=ag1 (ks:=c.ks) (es:=c.es) (ws:=c.ws) nd;have sub:∀k∈YF c _ bs sg,k∈Nx _ _ bs sg _ _:=λk o=>(iN _).mem_iff.1 (f.sub.subset (eZ.1 o));have snd:(YF c _ bs sg).Nodup:=(sortI_perm _).nodup_iff.2 (List.Nodup.sublist f.sub ((iN _).nodup_iff.2 nd));refine⟨λi hi=>⟨⟨(b i (sub i hi)).k0,(b i (sub i hi)).k1⟩,(b i (sub i hi)).src⟩,?_,?_⟩
 .have:=Ck snd λx a=>⟨(b x (sub x a)).k0,(b x (sub x a)).k1⟩;have:=h.k.wl;lia
 .unfold iR;rw[List.pairwise_map];have:=snd;refine((this.sublist WA).imp_of_mem λ{x y} a s e=>?_);obtain⟨n,m⟩:=kc.1 a;obtain⟨l,j⟩:=kc.1 s;exact aqE (f.apart x (eZ.1 n) y (eZ.1 l) e m j)
variable{so:AT}
def amm{c:CH}(h:c.Ok){p:Pl}(hs:Qhc):∀d∈oe c p so,OA c.bs.length d:=λd hd=>by
 obtain z|z:=gY.1 hd
 .obtain z|z:=gY.1 z
  .obtain⟨m,_,z⟩:=l0.1 z;obtain rfl|z:=fV.1 z
   .exact⟨.out m,rfl,trivial⟩
   .obtain z|z:=gY.1 z
    .split at z
     .exact kf.1 z▸⟨.keep m _ _,rfl,trivial⟩
     .cases z
    .exact(Ls h.o _ d z).it
  .obtain⟨i,hi,z⟩:=l0.1 z;obtain rfl|z:=fV.1 z
   .exact⟨.way i,rfl,trivial⟩
   .exact(h.w _ (mU (hs.i i hi).1.1 (hs.i i hi).1.2) d z).it
 .obtain⟨m,_,z⟩:=l0.1 z;obtain rfl|z:=fV.1 z
  .exact⟨.yd m,rfl,trivial⟩
  .exact(Ls h.i _ d z).it
theorem V7{c:CH}(h:c.Ok){p:Pl}(g:Gd c p)(hs:Qhc):(oe c p so).length<=400/\Gd c (toN c p so):=by
 obtain⟨ch,⟨i,j⟩,e,hm⟩:=g;obtain⟨ops,mem⟩:=p;subst e;have a:=h.k;have r:∀x∈dO Qb7 c.es ch _,0<=x/\x<c.es.length:=λx n=>uO a.n0 n;have d:=gE (isAll:=aq c.ks) (es:=c.es) (ch:=ch) Qbr;have f:=hs.ot a;have b:=Dp a j i hm QaM;have m:=a.tree b;obtain⟨_,g2⟩:=Cm a.pre.1 d r hs.ap;obtain⟨_,q,_⟩:=OZ m hs.ap f;obtain⟨s,d1,d2,o,_⟩:=AK a.kd m a.n0 i j hs.ap f;have n1:=a.n1;have sl:=hs.l;refine⟨?_,s,⟨d1,d2⟩,o,b⟩;unfold oe C4;rw[kr,kr];have w:=(Lh (DN:=kE c.ks c.es c.ws) (mem:=mem) (bh:=BJ c.ks c.es c.ws mem Qcf QaM) a.or (lX c.ks c.es Qcf QaM)).1;have v:=(Li (hs.xa a)).1;have u:=(FL a.ir (pT c.ks c.es c.ss QcO QaM)).1;have t:(pT c.ks c.es c.ss QcO QaM).length<=c.es.length:=by unfold pT;rw[pF];exact q
 lia
structure au1(c:CH)(p:Pl)(sg:Str)(bs:AT):Prop where
 s:lZ c.ks c.es c.ws p.1 Qcs
 d:(goN c p sg bs).1.map It.d=oe c p Qcs
 g:∀x∈(goN c p sg bs).1,o4 c.bs.length x
 l:(goN c p sg bs).1.length<=400
 n:Gd c (goN c p sg bs).2
def FU{c:CH}(h:c.Ok){p:Pl}(g:Gd c p)(sg:Str)(bs:AT):au1 c p sg bs:=by
 have s:=aqF h g bs sg;obtain⟨l,n⟩:=V7 h g s;obtain⟨i1,i2⟩:=acP (amm h s);exact⟨s,i1,i2,by show(List.map _ _).length<=400;rw[d8];exact l,n⟩
abbrev ZP:=At×Pl×AT
def uP(c:CH):Nat->ZP->BA×ZP
 | 0,s=>([],s)
 | j+1,s=>match uP c j s with
  | (rs,[],p)=>(rs,[],p)
  | (rs,sg::w,a,bs)=>(rs++Qkg,w++cY (goN c a sg bs).1,(goN c a sg bs).2,(goN c a sg bs).1.foldl It.af bs)
def Dr(c:CH)(s:ZP):BA:=(uP c 8 s).1++(if (uP c 8 s).2.1=[] then [] else [.tup [.str "rest",.int (((uP c 8 s).2.1.length:Nat):Int)]])
def QM(c:CH)(s:ZP):Pl:=(uP c 8 s).2.2.1
def V8(c:CH)(s:ZP):AT:=(uP c 8 s).2.2.2
def pP(d:D):Prop:=∃w r,d=.tup (.str w::r)/\PyData.strOk w=true/\∀x∈r,(∃i,x=.int i)\/∃s,x=.str s/\PyData.strOk s=true
def FW{l:BA}(h:∀d∈l,pP d):D.bR l=true:=g7 λd hd=>by
 obtain⟨w,r,rfl,_,b⟩:=h d hd;refine g7 λx a=>?_;obtain rfl|a:=fV.1 a
 .rfl
 .obtain⟨i,rfl⟩|⟨s,rfl,_⟩:=b x a
  .rfl
  .rfl
theorem aqG{m:Nat}{x:It}(h:o4 m x)(bs:AT):pP (x.j bs).d:=by
 cases x with
 | kL q=>
  cases q with
  | put i a c=>exact⟨"put",[.int _,.int _,.int _],rfl,Wl,λx b=>.inl (by simp only[fV,kA,or_false]at b;obtain rfl|rfl|rfl:=b<;>exact⟨_,rfl⟩)⟩
  | say s a c=>exact⟨"say",[.str s,.int _],rfl,Wl,λx b=>by
    simp at b;obtain rfl|rfl:=b
    .exact .inr ⟨_,rfl,h.1⟩
    .exact .inl WA ⟩
  | call s=>exact⟨"call",_,rfl,Wl,λx b=>.inr ⟨s,kf.1 b,h⟩⟩
 | out i=>exact⟨"out",[.int i],rfl,Wl,λx b=>.inl ⟨i,kf.1 b⟩⟩
 | keep i p q=>exact⟨"keep",[.int i,.int p,.int q],rfl,Wl,λx b=>.inl (by simp at b;obtain rfl|rfl|rfl:=b<;>exact⟨_,rfl⟩)⟩
 | way i=>exact⟨"way",[.int i],rfl,Wl,λx b=>.inl ⟨i,kf.1 b⟩⟩
 | yd i=>exact⟨"in",[.int i],rfl,Wl,λx b=>.inl ⟨i,kf.1 b⟩⟩
theorem SG{m:Nat}:∀{xs:Ee} (bs:AT),(∀x∈xs,o4 m x)->∀d∈(vG xs bs).map J.d,pP d
 | [],_,_,d,hd=>by cases hd
 | x::xs,bs,h,d,hd=>by
  obtain rfl|hd:=fV.1 hd
  .exact aqG (h x gj) bs
  .exact SG _ (λy a=>h y (i4 _ a)) d hd
theorem Pb{m:Nat}{xs:Ee}(h:∀x∈xs,o4 m x):∀x∈cY xs,PyData.strOk x=true:=λx b=>by
 obtain⟨i,hi,he⟩:=List.mem_filterMap.1 b;have d:=h i hi;cases i with
 | kL q=>
  cases q with
  | call s=>cases he;exact d
  | put i a c=>cases he
  | say s a c=>cases he
 | _=>cases he
section
variable{c:CH}
theorem Pg{s:ZP}{j:Nat}(h:(uP c j s).2.1=[]):∀k,uP c (j+k) s=uP c j s
 | 0=>rfl
 | k+1=>by
  rw[← Nat.add_assoc,uP,Pg h k];generalize uP c j s=r at h ⊢;obtain⟨rs,w,p⟩:=r;simp_all
def FY{s:ZP}{j:Nat}{rs:BA}{sg:Str}{w:At}{a:Pl}{bs:AT}(h:uP c j s=(rs,sg::w,a,bs)) :
  uP c QA s=(rs++Qkg,w++cY (goN c a sg bs).1,(goN c a sg bs).2,(goN c a sg bs).1.foldl It.af bs):=by
 rw[uP,h]
structure au2(c:CH)(n:Nat)(j:Nat)(r:BA×ZP):Prop where
 a:r.1.length<=401*j
 w:r.2.1.length<=n+400*j
 g:Gd c r.2.2.1
 b:r.2.2.2.length=c.bs.length
 i:D.bR r.1=true
theorem FZ(h:c.Ok){cs:At}{a:Pl}{bs:AT}(m:Gd c a)(k:Qhm):∀j,au2 c cs.length j (uP c j (cs,a,bs))
 | 0=>⟨kn _,gZ _,m,k,rfl⟩
 | j+1=>by
  obtain⟨h1,h2,b,i,f⟩:=FZ h (cs:=cs) m k j;cases e:uP c j (cs,a,bs) with
  | mk rs r=>
   obtain⟨w,a2,b2⟩:=r;rw[e]at h1 h2 i f b;dsimp only at h1 h2 i f b;cases w with
   | nil=>
    rw[uP,e];exact⟨by dsimp only;lia,WA,b,i,f⟩
   | cons sg w=>
    rw[FY e];have g:=FU h b sg b2;have s1:=g.l;have s3:(cY (goN c a2 sg b2).1).length<=(goN c a2 sg b2).1.length:=x7 _ _;rw[lr]at h2;refine⟨?_,?_,g.n,?_,?_⟩
    .dsimp only;rw[kr,lr,d8,AO];lia
    .dsimp only;rw[kr];lia
    .exact(tW _ _).trans i
    .refine g7 λd hd=>?_;obtain z|z:=gY.1 hd
     .exact jr f d z
     .obtain rfl|z:=fV.1 z
      .rfl
      .exact jr (Eh _ _) d z
theorem SJ(h:c.Ok){cs:At}{a:Pl}(e:Gd c a)(b:Qhm):(Dr c (cs,a,bs)).length<=4000/\D.bR (Dr c (cs,a,bs))=true:=by
 obtain⟨h1,h2,g,i,f⟩:=FZ h (cs:=cs) e b 8;unfold Dr;refine⟨?_,g7 λd hd=>?_⟩
 .split<;>simp<;>lia
 .obtain z|z:=gY.1 hd
  .exact jr f d z
  .split at z
   .cases z
   .rw[kf.1 z];rfl
theorem acR(h:c.Ok){cs:At}{a:Pl}{bs:AT}(n:Gd c a)(m:Qhm)(l:∀x∈cs,PyData.strOk x=true):∀j,(∀x∈(uP c j (cs,a,bs)).2.1,PyData.strOk x=true)/\∀d∈(uP c j (cs,a,bs)).1,pP d
 | 0=>⟨l,λd hd=>absurd hd kA⟩
 | j+1=>by
  obtain⟨b,f⟩:=acR h n m l j;obtain⟨_,_,o,_,_⟩:=FZ h n m j;cases e:uP c j _ with
  | mk rs r=>
   obtain⟨w,a2,b2⟩:=r;rw[e]at f o b;cases w with
   | nil=>
    rw[uP,e];exact⟨b,f⟩
   | cons sg w=>
    rw[FY e];have k:=(FU h o sg b2).g;refine⟨λx i=>?_,λd hd=>?_⟩
    .obtain z|z:=gY.1 i
     .exact b x (i4 _ z)
     .exact Pb k x z
    .obtain z|z:=gY.1 hd
     .exact f d z
     .obtain rfl|z:=fV.1 z
      .exact⟨ _,_,rfl,Wl,λx i=>.inr ⟨sg,kf.1 i,b sg WA ⟩⟩
      .exact SG b2 k d z
def ag3(h:c.Ok){cs:At}{a:Pl}(g:Gd c a)(f:Qhm)(e:∀x∈cs,PyData.strOk x=true):∀d∈Dr c (cs,a,bs),pP d:=λd hd=>by
 obtain z|z:=gY.1 hd
 .exact(acR h g f e 8).2 d z
 .split at z
  .cases z
  .exact kf.1 z▸⟨ _,_,rfl,Wl,λx b=>.inl ⟨_,kf.1 b⟩⟩
end
def zX(c:CH):Pl:=(HY c.ks c.es c.ss Qiv "new" 0,List.replicate c.es.length (-1))
def qJ(c:CH):Ee:=(inR c.is (zX c).1).map YC
theorem ag4(a:cX Qax QU es ss Qcj)(h0:0<es.length):HY ks es ss Qcj "new" 0=dO QU es ss Q2:=by
 have e3:=Ym a (far:=false) (near:=false) (d:=es.length) h0 We;rw[VY]at e3;assumption
noncomputable def Lv(ks:At)(es:AT):yp ks es Qcj:=⟨vT ..,λk a _=>.inl (by rw[la,KU,di a];rfl)⟩
def Ph{c:CH}(h:c.Ok):cX (aZ c.ks) Qb7 c.es c.ss Qiv:=h.k.tree (Lv ..)
theorem Lw{c:CH}(h:c.Ok):Gd c (zX c)/\(qJ c).map It.d=inR c.is (zX c).1/\(∀x∈qJ c,o4 c.bs.length x)/\(qJ c).length<=200:=by
 have a:=Ph h;have n0:=h.k.n0;have n1:=h.k.n1;have b:=AA a (far:=ef "new") (near:=gM "new") (d:=c.es.length) n0;have e:=ag4 a n0;have f:=(FL h.k.ir (zX c).1).1;have hlen:(zX c).1.length<=c.es.length:=b;obtain⟨i1,i2⟩:=acP (l:=inR _ _) λd hd=>by
  obtain⟨m,_,z⟩:=l0.1 hd;obtain rfl|z:=fV.1 z
  .exact⟨.yd m,rfl,trivial⟩
  .exact(Ls h.i _ d z).it
 exact⟨⟨ _,⟨h.k.sl,h.k.st⟩,e,Lv ..⟩,i1,i2,by show(List.map _ _).length<=200;simp;lia⟩
def amn{ws:QP}:∀k∈Nx ws ops vs sg es l,0<=k/\k<ws.length:=λk a=>by
 obtain⟨leaf,_,z⟩:=l0.1 (acI.1 a);exact Lq (kc.1 (t5 z)).1
def gF(es:AT)(k:Nat):AT:=if (12:Int)<(([(k:Int)]++bz es k).length:Nat) then cutD ([(k:Int)]++bz es k) (some 1) none else [(k:Int)]++bz es k
theorem Ds{k:Nat}(h:e7 es)(f:k+1=es.length):0<(gF es k).length/\(gF es k).length<=es.length+2/\∀x∈gF es k,0<=x/\x<es.length:=by
 have hm:∀x∈[(k:Int)]++bz es k,0<=x/\x<es.length:=λx a=>by
  obtain h1|h1:=gY.1 a
  .have:x=k:=by simp_all
   lia
  .have d:=h.at (k:=k) We We;have:=Ld h _ d.1 We h1;lia
 have c:([(k:Int)]++bz es k).length<=es.length+2:=by
  have:=tT QdT es (es.getD (k:Int).toNat 0);rw[kr];unfold bz;simp only[lr,F1];lia
 unfold gF;split
 .have e:cutD ([(k:Int)]++bz es k) (some 1) none=bz es k:=by simp[cutD,HT.DG]
  rw[e];have b:=kr (as:=[(k:Int)]) (bs:=bz es k);simp only[lr,F1]at b;exact⟨We,We,λx a=>hm x (i5 _ a)⟩
 .exact⟨WA,c,hm⟩
theorem getD_mem(h:n<l.length):l.getD n 0∈l:=by simp_all
theorem Lx{k:Nat}(a:x∈gF es k):x=k\/x∈bz es k:=by
 have hm:=by
  unfold gF at a;split at a
  .exact List.mem_of_mem_drop (t5 a)
  .exact a
 simp_all
def ag5:nj [-1]:=⟨λk a=>by
  have:=by simpa using a
  subst this;exact⟨Int.le_refl _,Wp⟩,λk a=>by simp at a⟩
def p7(m:Nat)(p:Int):Int:=p % ((m:Int)+1)-1
noncomputable def xc(m:Nat)(p:Int):Int:=p / ((m:Int)+1) / 3
def u7(m:Nat)(p:Int):Int:=if p / ((m:Int)+1) % 3=0 then xc m p % (2*10 ^ (9:Int).toNat+1)-10 ^ (9:Int).toNat else xc m p % 7-3
def pe(m:Nat)(p:Int):Int:=if p / ((m:Int)+1) % 3=0 then xc m p / (2*10 ^ (9:Int).toNat+1) else xc m p / 7
def wN(k:Int):Str:=("w":Str)++(toString k:Str)
theorem oK{n:Int}(a:0<n)(c:n<4294967296):0<n/\n.natAbs.log2<9000:=⟨a,by
 have:n.natAbs≠0:=by lia
 rw[Nat.log2_lt this];grind⟩
def zt(s es:AT)(k:Nat):Int:=(gF es k).getD (dP s ((k:Int)+1) % ((gF es k).length:Nat)).toNat 0
def V9(s:AT):Nat->AT
 | 0=>[-1]
 | j+1=>V9 s j++[zt s (V9 s j) j]
theorem SK(s:AT):∀j,(V9 s j).length=j+1/\nj (V9 s j)
 | 0=>⟨rfl,ag5⟩
 | j+1=>by
  obtain⟨h1,h2⟩:=SK s j;obtain⟨e,d,c⟩:=Ds h2.1 h1.symm;refine⟨by show(V9 s j++_).length=_;simp_all,?_⟩;have a:=getD_mem (l:=gF (V9 s j) j) (n:=(dP s QA % ((gF (V9 s j) j).length)).toNat) (by
   have:=l8 (dP s QA) (b:=((gF (V9 s j) j).length)) We;lia)
  exact h2.snoc h1.symm (Lx a)
noncomputable def E7:AT:=[-1,0,1,1,0,4,4]
def Il(s:AT)(n st:Nat):AT:=if st=1 then E7 else V9 s QcD
theorem aqI:nj E7:=by
 refine⟨λk a=>?_,λk a=>?_⟩
 .have:∀k,k<7->-1<=E7.getD k 0/\E7.getD k 0<k:=by decide +kernel
  exact this k a
 .have a:k<6:=by have:k+1<7:=a;lia
  have:∀k,k<6->E7.getD Qaj 0=k\/E7.getD Qaj 0∈bz E7 k:=by decide +kernel
  exact this k a
variable{st:Nat}
theorem acS(s:AT)(a:1<=n):(Il s n st).length=(if st=1 then 7 else n)/\nj Qf9:=by
 unfold Il;split
 .exact⟨rfl,aqI⟩
 .have:=SK s QcD;simp_all
noncomputable def vf:At:=["one","one","all"]
def QN(s:AT)(st:Nat)(es:AT)(k:Nat):Str:=if jl es (k:Int)=[] then "leaf" else if st=1 then(if k=0 then "all" else "one") else(["one","all",vf.getD st Str.empty]:At).getD (dP s (k:Nat) / 60 % 3).toNat Str.empty
def Va(s:AT)(st:Nat)(es:AT)(k:Nat):Int:=if QN s st es k="one" then(jl es (k:Int)).getD (dP s (k:Nat) / 180 % ((jl es (k:Int)).length:Nat)).toNat 0 else -1
theorem acT{s:AT}(h:st<3)(es:AT)(k:Nat):(QN s st es k="leaf" /\ jl es k=[])\/((QN s st es k="one" \/ QN s st es k="all")/\jl es k≠[]):=by
 unfold QN;by_cases e:jl es k=[]
 .exact di e ▸ .inl ⟨rfl,e⟩
 .rw[cq e];refine .inr ⟨?_,e⟩;split
  .split
   .exact .inr rfl
   simp
  .have:∀st,st<3->∀j,j<3->(["one","all",vf.getD st Str.empty]:At).getD j Str.empty="one" \/ (["one","all",vf.getD st Str.empty]:At).getD j Str.empty="all":=by decide +kernel
   exact this st h _ We
def Ek(s:AT)(st:Nat)(es:AT)(n:Nat):At:=(List.range n).map (QN s st es)
def Kc(s:AT)(st:Nat)(es:AT)(n:Nat):AT:=(List.range n).map (Va s st es)
def acU{s:AT}{k:Nat}(h:k<n):(Ek s st es n).getD k Str.empty=QN s st es k:=by
 unfold Ek;rw[la,k4,oT h];rfl
def amr{s:AT}{k:Nat}(h:k<n):(Kc s st es n).getD k 0=Va s st es k:=by
 unfold Kc;rw[la,k4,oT h];rfl
theorem acV{s:AT}(h:st<3){k:Nat}(e:QN s st es k="one"):Va s st es k∈jl es k:=by
 have a:jl es k≠[]:=by
  obtain z|z:=acT h es k
  .rw[z.1]at e;exact absurd e Wl
  .exact z.2
 have c:=List.length_pos_iff.2 a;unfold Va;have h1:=l8 (dP s k / 180) (b:=((jl es k).length)) We;simp_all
def aqJ(es:AT)(k:Int):((d9 0 ((es.length:Nat):Int).toNat).filter λd=>decide (es.getD d.yb.toNat 0=k)).map (λd=>T.sh d)=((jl es k).map D.int).map T.sh:=by
 unfold jl d9;rw[q9,kq,kq,kq];have e:((λd=>decide (es.getD d.yb.toNat 0=k))∘λ(i:Nat)=>D.int (0+i))=λi=>decide (es.getD i 0=k):=by
  funext i;show decide (es.getD (0+(i:Int)).toNat 0=k)=_;rw[rF,ke]
 rw[e];exact nz λi _=>by simp
theorem Wa(h:j<n):HB n (j:Int)=some j:=by simp_all [HB]
def El{l:QR}{a b:α}(h:l.length=j):(l++[a]).set j b=l++[b]:=by
 subst h;rw[List.set_append_right _ _ (gZ _),Nat.sub_self];rfl
def Pj(s:AT)(st:Nat)(es:AT)(j:Nat):((Ek s st es j).map D.str).map T.sh++[T.sh (.str (QN s st es j))]=((Ek s st es QA).map D.str).map T.sh:=by
 unfold Ek;rw[y0,jI,jI,jI];rfl
def Pk(s:AT)(st:Nat)(es:AT)(j:Nat):((Kc s st es j).map D.int).map T.sh++[T.sh (.int (Va s st es j))]=((Kc s st es QA).map D.int).map T.sh:=by
 unfold Kc;rw[y0,jI,jI,jI];rfl
def xp(s:AT)(st:Nat)(es:AT)(k:Nat):Str:=if jl es (k:Int)=[] then "leaf" else(["one","all",vf.getD st Str.empty]:At).getD (dP s (k:Nat) / 60 % 3).toNat Str.empty
def pz(m:Nat)(hs:At)(p:Int):fB:=
 if p % 5<2/\0<m then .put (p / 5 % (m:Int)) (p7 m (p / 5 / (m:Int))) (u7 m (p / 5 / (m:Int)))
 else if p % 5<4 then .say (wN (p / 5 % 3)) (p7 m (p / 5 / 3)) (u7 m (p / 5 / 3))
 else .call (hs.getD (p / 5 % (hs.length:Int)).toNat Str.empty)
def z6(m:Nat)(hs:At)(p:Int):Int:=
 if p % 5<2/\0<m then pe m (p / 5 / (m:Int)) else if p % 5<4 then pe m (p / 5 / 3) else p / 5 / (hs.length:Int)
def qr(m:Nat)(hs:At)(p:Int):Nat->Int
 | 0=>p
 | j+1=>z6 m hs (qr m hs p j)
def ZQ(m:Nat)(hs:At)(p:Int)(n:Nat):List fB:=(List.range n).map λj=>pz m hs (qr m hs p j)
def xl(c:Int)(m:Nat)(hs:At):List fB:=ZQ m hs (c % 10 ^ (64:Int).toNat / 13 / 4) ([0,1,0,2].getD (c % 10 ^ (64:Int).toNat / 13 % 4).toNat 0)
theorem Wb(m:Nat)(p:Int):pO m (p7 m p):=by
 have h0:=mu p (b:=m+1) We;have h1:=l8 p (b:=m+1) We;unfold pO p7;lia
def aqL:∀k:Nat,k<3->PyData.strOk (wN (k:Int))=true:=by decide +kernel
variable{hs:At}
theorem ams{m:Nat}(h0:0<hs.length)(a:∀x∈hs,PyData.strOk x=true)(p:Int):o4 m (.kL (pz m hs p)):=by
 unfold pz;split
 .exact⟨⟨mu _ We,l8 _ We⟩,Wb _ _⟩
 .split
  .refine⟨?_,Wb _ _⟩;have:=aqL (p / 5 % 3).toNat We;grind
  .have b:=l8 (p / 5) (b:=hs.length) We;apply a _;simp_all
def acW{m:Nat}(h0:0<hs.length)(b:∀x∈hs,PyData.strOk x=true)(p:Int)(n:Nat):(ZQ m hs p n).length=n/\D.bR ((ZQ m hs p n).map fB.d)=true/\∀d∈(ZQ m hs p n).map fB.d,YD m d:=by
 refine⟨by unfold ZQ;simp,dX sF _,λd hd=>?_⟩;obtain⟨q,a,rfl⟩:=j0.1 hd;obtain⟨j,_,rfl⟩:=j0.1 a;exact⟨_,rfl,ams h0 b _⟩
def tj(m n:Nat)(p:Int):uW:=if p % 6<2 then .FP (decide (p % 6=0)) (p / 6 % (n:Int)) else .num (Sj.getD (p % 6-2).toNat Str.empty) (p7 m (p / 6)) (u7 m (p / 6)) (p7 m (pe m (p / 6))) (u7 m (pe m (p / 6)))
def JO(m n:Nat)(p:Int):Int:=if p % 6<2 then p / 6 / (n:Int) else pe m (pe m (p / 6))
def tq(m n:Nat)(p:Int):Nat->Int
 | 0=>p
 | j+1=>JO m n (tq m n p j)
def FR(m n:Nat)(p:Int)(k:Nat):List uW:=(List.range k).map λj=>tj m n (tq m n p j)
theorem amt{m:Nat}(b:0<n)(a:bs.length=m)(p:Int):(tj m n p).Ok n bs:=by
 subst a;unfold tj;split
 .exact⟨mu _ We,l8 _ We⟩
 .refine⟨?_,Wb _ _,Wb _ _⟩;have c:(p % 6-2).toNat<Sj.length:=by show _<4;lia
  simp_all
noncomputable def sm:AT:=[2,5,3,6]
noncomputable def zr:At:=["new","near","far"]
def JP:CO:=[0,1,1,2]
section
variable(c:Int)(n m:Nat)(hs:At)(st:Nat)
noncomputable def w8:Int:=c % 10 ^ (64:Int).toNat / (n:Int)
def u3:Int:=w8 c n / (hs.length:Int)
def w7:Int:=u3 c n hs / ((n:Int)+1)
def w4:Int:=w7 c n hs / 3
def u4:Nat:=JP.getD (w4 c n hs % 4).toNat 0
def y8:Int:=w4 c n hs / 4
def y6:Int:=tq m n (y8 c n hs) (u4 c n hs)
def zd:Nat:=(y6 c n m hs % 3).toNat
def ZR:Int:=if st=1 then sm.getD (c % 10 ^ (64:Int).toNat % (n:Int) % 4).toNat 0 else c % 10 ^ (64:Int).toNat % (n:Int)
def pd:Int:=u3 c n hs % ((n:Int)+1)-1
def ti(x:Int):AT:=((List.range 7).filter λ(a:Nat)=>decide (E7.getD a 0=E7.getD x.toNat 0)).map λ(a:Nat)=>(a:Int)
def oa:Int:=if st=1/\pd c n hs % 2=0 then(ti (ZR c n st)).getD (pd c n hs / 2 % 2).toNat 0 else pd c n hs
def sk:Str:=if oa c n hs st=-1 then "new" else zr.getD (w7 c n hs % 3).toNat Str.empty
def n8:bG:=⟨ZR c n st,hs.getD (w8 c n % (hs.length:Int)).toNat Str.empty,(FR m n (y8 c n hs) (u4 c n hs)).map tX,(ZQ m hs (y6 c n m hs / 3) (zd c n m hs)).map fB.d,oa c n hs st,sk c n hs st⟩
end
def Z0:∀k:Nat,k<4->0<=sm.getD k 0/\sm.getD k 0<7/\(ti (sm.getD k 0)).length=2/\∀x∈ti (sm.getD k 0),0<=x/\x<7:=by decide +kernel
theorem ac0(a:0<n)(h:st=1->n=7):0<=ZR c n st/\ZR c n st<n:=by
 unfold ZR;split
 .have:=Z0 (c % 10 ^ (64:Int).toNat % n % 4).toNat We;lia
 .exact⟨mu _ We,l8 _ We⟩
theorem ac1(e:st=1)(k:Int):(ti (ZR c n st)).length=2/\∀x∈ti (ZR c n st),0<=x/\x<7:=by
 unfold ZR;exact di e▸(Z0 _ We).2.2
theorem amw(d:0<n)(h:st=1->n=7):oa c n hs st=-1\/(0<=oa c n hs st/\oa c n hs st<n):=by
 unfold oa;split
 .rename_i e;have:=h e.1;obtain⟨b1,b2⟩:=ac1 (c:=c) (n:=n) e.1 0;have b:=l8 (pd c n hs / 2) (b:=2) Wp;simp_all
 .have a:=mu (u3 c n hs) (b:=n+1) We;have b:=l8 (u3 c n hs) (b:=n+1) We;unfold pd;lia
def amx:∀k:Nat,k<3->qY (zr.getD k Str.empty):=by
 intro k a
 match k,a with
 | 0,_=>exact .inl rfl
 | 1,_=>exact .inr Q4
 | 2,_=>exact .inr QaH
noncomputable def p8:At:=["go","go2","ago"]
noncomputable def zv:AT:=[5,10 ^ (30:Int).toNat]
def x3(s:AT)(k:Nat):Str×Int:=(("b":Str)++(toString (k:Int):Str),dP s (10+(k:Int)) % 10 ^ (30:Int).toNat % zv.getD (k % 2) 0-2)
noncomputable def zp(k:Nat):Str:=("m":Str)++(toString (k:Int):Str)
section
variable(SL:CO)(mm:Nat)(s:AT)
def vu:Int:=dP s 0 % 10 ^ (9:Int).toNat
def cst:Nat:=SL.getD (vu s % 8).toNat 0
def tc:Int:=vu s / 8
def cmd:Nat:=(1+tc s % (mm:Int)).toNat
def x1:Int:=tc s / (mm:Int)
def SM:Nat:=(x1 mm s % 4).toNat
def xI:Int:=x1 mm s / 4
def sy:Nat:=(2+xI mm s % 7).toNat
def xy:Int:=xI mm s / 7
def Ar:At:=p8.take (1+xy mm s % 3).toNat
def sT:Int:=xy mm s / 3
def Wc:At:=if cst SL s=1/\0<sT mm s % 3 then ["go"] else Ar mm s
def IF:Int:=if cst SL s=1 then sT mm s / 3 else sT mm s
def vx:Nat:=if cst SL s=2 then(11+IF SL mm s % 20).toNat else cmd mm s
def tu:AT:=Il s (vx SL mm s) Qb5
def vr:List bG:=eS bG.src ((List.range (sy mm s)).map λ(k:Nat)=>n8 Qcp (tu SL mm s).length (SM mm s) QeV Qb5)
def q7(j:Int):Cl:=(List.range (tu SL mm s).length).map λ(k:Nat)=>(xl (dP s (j+(k:Int))) (SM mm s) QeV).map fB.d
def qs:CH:=⟨(List.range (SM mm s)).map (x3 s),((List.range (tu SL mm s).length).map zp).map .str,Ek s Qb5 QeW (tu SL mm s).length,tu SL mm s,Kc s Qb5 QeW (tu SL mm s).length,q7 SL mm s 1,q7 SL mm s 2,vr SL mm s⟩
end
section
variable{SL:CO}{mm:Nat}{s:AT}
theorem ac2(h:∀x∈SL,x<3):cst SL s<3:=by
 unfold cst;simp;cases e:SL[(vu s % 8).toNat]? with
 | none=>decide
 | some x=>exact h x (l6 e)
theorem SN:0<(Wc SL mm s).length/\(Wc SL mm s).length<=3/\∀x∈Wc SL mm s,PyData.strOk x=true:=by
 have c:∀x∈p8,PyData.strOk x=true:=by decide +kernel
 have b:p8.length=3:=rfl;unfold Wc;split
 .refine⟨Wp,Wp,λx a=>?_⟩;rw[kf.1 a];decide +kernel
 .unfold Ar;grind
theorem Tb(h:1<=mm/\mm<=10):1<=vx SL mm s/\vx SL mm s<=30:=by
 have c:=mu (tc s) (b:=mm) We;have d:=l8 (tc s) (b:=mm) We;unfold vx cmd;lia
theorem SQ(h:1<=mm/\mm<=10):(1<=(tu SL mm s).length/\(tu SL mm s).length<=30)/\nj QeW/\(cst SL s=1->tu SL mm s=E7):=by
 have a:=Tb (SL:=SL) (s:=s) h;obtain⟨h1,h2⟩:=acS s a.1;refine⟨?_,h2,λe=>?_⟩
 .show 1<=(Il _ _ _).length/\(Il _ _ _).length<=30;rw[h1];split<;>lia
 .unfold tu Il;rw[di e]
theorem XA:SM mm s<=3:=by
 unfold SM;lia
theorem Xt:1<=sy mm s/\sy mm s<=8:=by
 unfold sy;lia
theorem Ly(j:Int):(q7 SL mm s j).length=(tu SL mm s).length/\∀l∈q7 SL mm s j,(l.length<=2/\D.bR l=true)/\∀d∈l,YD (SM mm s) d:=by
 refine⟨by unfold q7;simp,λl a=>?_⟩;obtain⟨k,_,rfl⟩:=j0.1 a;obtain⟨e,f,c⟩:=SN;obtain⟨d1,d2,b⟩:=acW e c _ _;refine⟨⟨?_,d2⟩,b⟩;simp;show(ZQ _ _ _ _).length<=2;rw[d1];have:∀j,j<4->[0,1,0,2].getD j 0<=2:=by decide +kernel
 exact this _ We
structure WyG(n m:Nat)(hs:At)(w:bG):Prop where
 i:y2 n w
 q:∀bs:AT,bs.length=m->∃l:List uW,w.asks=l.map tX/\l.length<=2/\∀a∈l,a.Ok n bs
 d:∀d∈w.ym,YD m d
 s:w.sign∈hs
theorem SR{m:Nat}(d:0<n)(e:st=1->n=7)(h0:0<hs.length)(h1:∀x∈hs,PyData.strOk x=true):WyG n m hs (n8 c n m hs st):=by
 obtain⟨d1,d2,h⟩:=acW h0 h1 _ _;have g1:=l8 (w8 c n) (b:=hs.length) We;have i:u4 c n hs<=2:=by
  have:∀j,j<4->JP.getD j 0<=2:=by decide +kernel
  exact this _ We
 refine⟨⟨ac0 d e,amw d e,?_,?_,d2,dX FQ _⟩,λbs f=>⟨_,rfl,?_,λa g=>?_⟩,h,?_⟩
 .show qY (sk c n hs st);unfold sk;split
  .exact .inl rfl
  .exact amx _ We
 .show((ZQ _ _ _ _).map _).length<=2;rw[d8,d1];unfold zd;lia
 .unfold FR;simp_all
 .obtain⟨j,_,rfl⟩:=j0.1 g;exact amt d f _
 .show hs.getD _ _∈hs;simp_all
theorem ac3(h:1<=mm/\mm<=10):(vr SL mm s).length<=8/\∀w∈vr SL mm s,WyG (tu SL mm s).length (SM mm s) QeV w:=by
 obtain⟨d,c,b⟩:=SQ (SL:=SL) (s:=s) h;obtain⟨d1,d2,a⟩:=SN;refine⟨?_,λw hw=>?_⟩
 .unfold vr;rw[(iN _).length_eq,d8,m3];exact Xt.2
 .obtain⟨k,_,rfl⟩:=j0.1 ((iN _).mem_iff.1 hw);exact SR We (λe=>by rw[b e];rfl) d1 a
theorem amC(p:∀x∈SL,x<3)(h:1<=mm/\mm<=10):(qs SL mm s).Ok:=by
 obtain⟨n,r,t⟩:=SQ (SL:=SL) (s:=s) h;obtain⟨o,g⟩:=ac3 (SL:=SL) (s:=s) h;have i1:=Ly (SL:=SL) (mm:=mm) (s:=s) 1;have i2:=Ly (SL:=SL) (mm:=mm) (s:=s) 2;have j:=ac2 (SL:=SL) (s:=s) p;have c:(qs SL mm s).bs.length=SM mm s:=by show(List.map _ _).length=_;rw[d8,m3]
 have a:∀f:Nat->Str,((List.range (tu SL mm s).length).map f).length=(tu SL mm s).length:=λf=>by rw[d8,m3]
 refine⟨⟨n.1,by have:=n.2;show(tu SL mm s).length<=40;lia,a _,by show(List.map _ _).length=_;rw[d8,m3];rfl,i1.1,i2.1,λk b=>?_,r,λk b e=>?_,λl a=>(i1.2 l a).1,λl a=>(i2.2 l a).1,λw hw=>(g w hw).i,o⟩,λbs m w hw=>?_,?_,?_,?_,by show(List.map _ _).length=_;rw[d8];exact a _,?_⟩
 .have b:k<(tu SL mm s).length:=b;have e:=acU (s:=s) (st:=cst SL s) (es:=tu SL mm s) b;have e:(qs SL mm s).ks.getD ((k:Int)).toNat Str.empty=QN s Qb5 QeW k:=by rw[ke];exact e
  unfold aZ bD aq;rw[e];rcases acT j (tu SL mm s) k (s:=s) with z|⟨z|z,_⟩
  .rw[z.1];exact .inl ⟨Wl,Wl,Wl,z.2⟩
  .rw[z];exact .inr (.inl ⟨Wl,Wl,Wl⟩)
  .rw[z];exact .inr (.inr ⟨Wl,Wl,Wl⟩)
 .have b:k<(tu SL mm s).length:=b;have e1:=acU (s:=s) (st:=cst SL s) (es:=tu SL mm s) b;have e2:QN s Qb5 QeW k="one":=by
   rw[← e1];unfold bD at e;rw[ke]at e;exact ko e
  show(Kc s Qb5 QeW (tu SL mm s).length).getD k 0∈_;rw[amr b];exact acV j e2
 .rw[c]at m;exact(g w hw).q bs m
 .rw[c];exactλl a=>(i1.2 l a).2
 .rw[c];exactλl a=>(i2.2 l a).2
 .rw[c];exactλw hw=>(g w hw).d
 .rw[c];have:=XA (mm:=mm) (s:=s);lia
end
variable{w:bG}
def AV(h:y2 n w):(gO w).tG=true:=by
 obtain⟨_,_,_,_,h1,h2⟩:=h;unfold gO;rw[D.tG,D.bR,D.bR,D.bR,D.bR,D.tG,D.tG,h1,h2];rfl
theorem aqU(t:Ce av bC isAll es)(u:ye bC es ch)(h:QaB)
  {m:Nat} (i:QbC) (l:(m:Int)∈dO isAll es ch Q2)
  (hm:∀k:Nat,k<es.length->bC k=true->(k:Int)∈dO isAll es ch Q2->(k=m\/(m:Int)∈bz es k)->mem.getD k 0=ch.getD k 0) :
  jm av isAll es ss mem true es.length false m=(dO isAll es ch Q2).filter (λx=>decide (x=(m:Int)) || (decide ((m:Int)=-1) || decide ((m:Int)∈bz es x))):=by
 have j:=h.pre.1;have key:∀(f x:Nat),x<f->x<es.length->((x:Int)∈jm av isAll es ss mem true es.length false m↔((x:Int)∈dO isAll es ch Q2/\(x=m\/(m:Int)∈bz es x))):=by
  intro f
  induction f with
  | zero=>intro k h;lia
  | succ f s=>
   intro x A b;have B:=j x b;rw[g8 h es.length i We x b];by_cases e:x=m
   .subst e;simp only[true_or,l,true_and]
   .have o:=fK j (m:=(x:Int)) We We;rw[ke]at o;rw[o];by_cases e1:es.getD x 0=-1
    .rw[e1,di rfl];constructor
     .rintro(z|z)
      .exact absurd z e
      .have:=aQ h (far:=true) (near:=false) es.length i _ z.2.1;lia
     .rintro⟨_,z|z⟩
      .exact absurd z e
      .cases z
    .rw[cq e1,fV];obtain⟨q,d⟩:∃q:Nat,es.getD x 0=q:=⟨(es.getD x 0).toNat,We⟩;rw[qG j Q2 (k:=x) We We,d,s q We We];have core:((q:Int)∈dO isAll es ch Q2/\(q=m\/(m:Int)∈bz es q))->(iI ss mem (true || Qit) q=(x:Int)\/isAll q=true↔ch.getD q 0=(x:Int)\/isAll q=true):=by
      rintro⟨g,a⟩;by_cases r:isAll q=true
      .simp only[r,or_true]
      .have p:=(agJ t (e:=q) We b d r).2.1;have w:=qF (u q We p);have e3:=hm q We p g a;have v:iI ss mem (true || Qit) q=ch.getD q 0:=by
        unfold iI;rw[ke,di ⟨rfl,by rw[e3];lia⟩,e3]
       rw[v]
     constructor
     .rintro(z|⟨g,a,c⟩)
      .exact absurd z e
      .have n:=(core a).1 c.symm;refine⟨.inr ⟨a.1,by rw[ke];exact n.symm⟩,?_⟩;obtain y|y:=a.2
       .exact .inr (.inl We)
       .exact .inr (.inr y)
     .rintro⟨g,a⟩;have c:q=m\/(m:Int)∈bz es q:=by
       obtain y|y|y:=a
       .exact absurd y e
       .exact .inl We
       .exact .inr y
      have n:m<=q:=by
       obtain y|y:=c
       .lia
       .have:=bf j (m:=(q:Int)) We We y;lia
      obtain y|y:=g
      .lia
      .rw[ke]at y;exact .inr ⟨We,⟨y.1,c⟩,((core ⟨y.1,c⟩).2 y.2.symm).symm⟩
 refine kh (gX h _ i) (ro _ (gE _)) λx=>?_;rw[kc];have conv:∀q:Nat,((decide ((q:Int)=(m:Int)) || (decide ((m:Int)=-1) || decide ((m:Int)∈bz es q)))=true↔(q=m\/(m:Int)∈bz es q)):=λq=>by
  simp only[Bool.or_eq_true,tI];constructor
  .rintro(z|z|z)
   .exact .inl We
   .lia
   .exact .inr z
  .rintro(z|z)
   .exact .inl We
   .exact .inr (.inr z)
 constructor
 .intro z;have:=aQ h _ i _ z;obtain⟨q,rfl⟩:∃q:Nat,x=q:=⟨x.toNat,We⟩;rw[conv];exact(key (q+1) q We We).1 z
 .intro z;have:=jE _ z.1;obtain⟨q,rfl⟩:∃q:Nat,x=q:=⟨x.toNat,We⟩;rw[conv]at z;exact(key (q+1) q We We).2 z
theorem YG{b:AT}(h:QaB)(h':cX av isAll es ss b){m:Nat}(a:QbC)(hm:∀k:Nat,k<es.length->(k=m\/(m:Int)∈bz es k)->mem.getD k 0=b.getD k 0) :
  jm av isAll es ss mem true es.length false m=jm av isAll es ss b true es.length false m:=by
 have g:=h.pre.1;have key:∀(f x:Nat),x<f->x<es.length->((x:Int)∈jm av isAll es ss mem true es.length false m↔(x:Int)∈jm av isAll es ss b true es.length false m):=by
  intro f
  induction f with
  | zero=>intro x h;lia
  | succ f d=>
   intro x i c;have j:=g x c;rw[g8 h es.length a We x c,g8 h' es.length a We x c];by_cases e1:es.getD x 0=-1
   .rw[e1];constructor
    .rintro(z|z)
     .exact .inl z
     .have:=aQ h (far:=true) (near:=false) es.length a _ z.2.1;lia
    .rintro(z|z)
     .exact .inl z
     .have:=aQ h' (far:=true) (near:=false) es.length a _ z.2.1;lia
   .obtain⟨q,e⟩:∃q:Nat,es.getD x 0=q:=⟨(es.getD x 0).toNat,We⟩;rw[e,d q We We];refine or_congr Iff.rfl (and_congr Iff.rfl (and_congr_right λz=>?_));have w:=(aQ h' (far:=true) (near:=false) es.length a _ z).2.2;have e2:=hm q We (by obtain w|w:=w;exact .inl We;exact .inr w);unfold iI;rw[ke,e2]
 refine kh (gX h _ a) (gX h' _ a) λx=>?_;constructor
 .intro z;have:=aQ h _ a _ z;obtain⟨q,rfl⟩:∃q:Nat,x=q:=⟨x.toNat,We⟩;exact(key (q+1) q We We).1 z
 .intro z;have:=aQ h' _ a _ z;obtain⟨q,rfl⟩:∃q:Nat,x=q:=⟨x.toNat,We⟩;exact(key (q+1) q We We).2 z
def vI(es O:AT)(m:Int):AT:=O.filter λx=>decide (m∈bz es x)
def zc(ks:At)(es ss mem:AT)(m:Int):AT:=vI es (jm Qax QU es ss mem true es.length false m) m
section
variable{is os:Cl}{ws:QP}{some:AT}
def IH(ws:QP)(t:Int):Prop:=∃w∈ws,w.mode="far" /\ w.i3=t
def ac4{t:Int}(h:IH ws t)(c:bD ks k=true)(a:k=t\/t∈bz es k):kE ks es ws k=true:=by
 obtain⟨w,hw,hm,b⟩:=h;unfold kE;rw[c,Bool.true_and,GS];refine⟨w,hw,?_⟩;unfold FJ;obtain rfl|a:=a
 .simp[hm,b];exact .inl Wl
 .simp[hm,b,a]
theorem ac5(h:QbF)(b:QdP)(c:QdI)(hm:QeY){t:Int}(hf:IH ws t)(n:t∈lX ks es Qaz gs) :
  zc ks es ss Qi2 t=vI es Qaz t:=by
 have j:=h.pre.1;obtain⟨g,w,hw,f⟩:=jF.1 n;have tb:=uO h.n0 g;obtain⟨m,rfl⟩:∃m:Nat,t=m:=⟨t.toNat,We⟩;unfold zc;rw[aqU h.kd b (h.tree (Dp h b c hm gs)) We g λk l d i a=>?_]
 .unfold vI;rw[List.filter_filter];refine List.filter_congr λx o=>?_;by_cases z:(m:Int)∈bz es x<;>simp[z]
 .rw[ND h b c hm.1,Az _ _ (λe he=>by rw[hm.1];exact uO h.n0 (jF.1 (kc.1 he).1).1) k (by rw[hm.1];exact l),di];refine⟨kc.2 ⟨jF.2 ⟨i,w,hw,?_⟩,ac4 hf d (by obtain z|z:=a;exact .inl We;exact .inr z)⟩,d⟩;obtain rfl|z:=a
  .exact f
  .exact Cg j We We z f
theorem ac6(h:QbF)(d:QdP)(b:QdI)(hm:QeY){t:Int}(t0:0<=t)(t1:Qa3)(f:t∉dO QU es ch Q2) :
  zc ks es ss Qi2 t=zc ks es ss mem t:=by
 have g:=h.pre.1;obtain⟨m,rfl⟩:∃m:Nat,t=m:=⟨t.toNat,We⟩;unfold zc;rw[YG (h.tree (Dp h d b hm gs)) (h.tree hm) We λk i a=>?_];rw[ND h d b hm.1,Az _ _ (λe he=>by rw[hm.1];exact uO h.n0 (jF.1 (kc.1 he).1).1) k (by rw[hm.1];exact i),cq];rintro⟨z,_⟩;have c:=(jF.1 (kc.1 z).1).1;obtain rfl|y:=a
 .exact f c
 .exact f (Lg g Qaj We c y)
theorem U7{α:Type}{R:α->α->Prop}:∀{l:QR},l.Pairwise R->∀{a c:α},a∈l->c∈l->a=c\/R a c\/R c a
 | x::l,h,a,c,i,g=>by
  obtain⟨h1,h2⟩:=l9.1 h;obtain e|b:=fV.1 i
  .obtain f|d:=fV.1 g
   .exact .inl (e.trans f.symm)
   .exact .inr (.inl (e▸h1 c d))
  .obtain f|d:=fV.1 g
   .exact .inr (.inr (f▸h1 a b))
   .exact U7 h2 b d
theorem ac7(h:QaB)(k:Qa3)(x0:0<=x)(g:QcB)(c:(t:Int)∈bz es x):QL av isAll es ss mem far near u t x↔x∈jm av isAll es ss mem far es.length near t:=by
 have a:=h.pre.1;have tx:=bf a x0 g c;constructor
 .rintro(⟨z,_⟩|z|⟨s,p,hs,i,l,f,b,z⟩)
  .obtain z|⟨z,_⟩:=z
   .lia
   .have:=bf a (m:=(t:Int)) We We z;lia
  .exact z
  .exfalso;obtain⟨s1,s2⟩:s∈bz es t/\(u=-1\/u∈bz es s):=by
    obtain e|e:=hs
    .exact absurd e i
    .exact e
   have j:=bf a (m:=(t:Int)) We We s1;have pb:=qF f;obtain⟨q,rfl⟩:∃q:Nat,p=q:=⟨p.toNat,We⟩;have d:=fK a (m:=(q:Int)) We We;have e1:es.getD q 0=s:=by have:=pb.2.2;rwa [ke]at this
   rw[ke,e1,cq We]at d;have no:(t:Int)∉bz es q:=λy=>by
    rw[d]at y;obtain y|y:=fV.1 y
    .lia
    .have:=bf a (m:=s) We We y;lia
   rcases(aQ h es.length We _ z).2.2 with y|y
   .rw[y]at c;exact no c
   .obtain e|e|e:=qE a x0 g y c
    .exact b (.inl e)
    .refine b (.inr ⟨e,?_⟩);obtain z|z:=s2
     .exact .inl z
     .refine .inr ?_;rw[d];exact i4 _ z
    .exact no e
 .exactλz=>.inr QbN
theorem ahc(h:QbF)(p:QdP)(o:QdI)(hm:QeY)(hs:Qjp){i:Int}(hi:i∈some)(hf:(dF ws i).mode="far")(v:(dF ws i).i3 ≠ -1) :
  vI es (yf ks es ss Qfd Qaz QbY) (dF ws i).i3=zc ks es ss Qfd (dF ws i).i3:=by
 have k:=h.pre.1;have b:=h.tree (Dp h p o hm QbY);have hw:dF ws i∈iR ws some:=by
  unfold iR;refine j0.2 ⟨i,kc.2 ⟨hi,?_⟩,rfl⟩;unfold lY;rw[ky v];rfl
 have f:=hs.ot h;have g:=f _ hw;obtain⟨A,_,_,s,_⟩:=AK h.kd b h.n0 o p hs.ap f;have a:(dF ws i).i3.toNat<es.length:=by have:=g.1;lia
 have et:(((dF ws i).i3.toNat:Nat):Int)=(dF ws i).i3:=by have:=g.1;lia
 have r:ef (dF ws i).mode=true:=by rw[hf];decide +kernel
 have q:gM (dF ws i).mode=false:=by rw[hf];decide +kernel
 have j:(yf ks es ss Qfd Qaz QbY).Pairwise (· < ·):=by rw[s];exact gE _
 have l:∀x∈yf ks es ss Qfd Qaz QbY,0<=x/\x<es.length:=by rw[s];exactλx u=>uO h.n0 u
 unfold zc vI;rw[← et];refine kh (ro _ j) (ro _ (gX b _ a)) λx=>?_;rw[kc,kc,Kb];constructor
 .rintro⟨z,d⟩;refine⟨?_,d⟩;obtain⟨x0,e⟩:=l x z;have m:zW es (iQ ks es Qbh) x:=Cg k x0 e d g.up;unfold yf pT at z;obtain y|y:=gY.1 (eZ.1 z)
  .obtain⟨t,n⟩:=kc.1 y;rw[yA,Hd]at n;exact absurd (jF.2 ⟨t,_,hw,m⟩) n
  .obtain⟨w,c,y⟩:=l0.1 (eZ.1 y);obtain rfl|ap|ap:=U7 hs.ap hw c
   .unfold Ig at y;rw[tV b a g.up,ac7 b a x0 e d,r,q]at y;exact y
   .exact absurd ((FI b (f _ c)).2 x y).2 (xr k x0 e ap m)
   .exact absurd ((FI b (f _ c)).2 x y).2 (xr k x0 e ap.symm m)
 .rintro⟨z,d⟩;refine⟨?_,d⟩;obtain⟨x0,e,_⟩:=aQ b es.length a _ z;unfold yf pT;refine eZ.2 (i5 _ (eZ.2 (l0.2 ⟨_,hw,?_⟩)));unfold Ig;rw[tV b a g.up,ac7 b a x0 e d,r,q];exact z
end
noncomputable def pv(bC:Bz)(ss:AT)(m:Int):AT->Bool
 | y::z::r=>decide (y=m) || ((!bC z || decide QjA)&&pv bC ss m (z::r))
 | _=>true
def Iy(ks:At)(es ss:AT)(m:Int):AT:=((List.range es.length).map λ(i:Nat)=>(i:Int)).filter λx=>decide (m∈bz es x)&&pv Qai ss m (x::bz es x)
variable{is os:Cl}{ws:QP}
def amD(n k:Nat):(List.replicate n (-1:Int)).getD k 0=-1\/n<=k:=by
 obtain h|h:=Nat.lt_or_ge k n
 .left;rw[la,KU,di h];rfl
 .exact .inr h
theorem YH(h:QbF){m:Int}(m0:0<=m)(m1:QbC):zc ks es ss Qcj m=Iy ks es ss m:=by
 have l:=h.pre.1;have n:=h.tree (Lv ks es);obtain⟨m,rfl⟩:∃q:Nat,m=q:=⟨m.toNat,We⟩;have key:∀(f x:Nat),x<f->x<es.length->((x:Int)∈jm Qax QU es ss Qcj true es.length false m↔(x=m\/((m:Int)∈bz es x/\pv Qai ss m (x::bz es x)=true))):=by
  intro f
  induction f with
  | zero=>intro x h;lia
  | succ f u=>
   intro x A k;have B:=l x k;rw[g8 n es.length We We x k];have g:=fK l (m:=(x:Int)) We We;rw[ke]at g;by_cases e1:es.getD x 0=-1
   .rw[g,e1,di rfl];constructor
    .rintro(z|z)
     .exact .inl z
     .have:=aQ n (far:=true) (near:=false) es.length We _ z.2.1;lia
    .rintro(z|⟨z,_⟩)
     .exact .inl z
     .cases z
   .obtain⟨q,i⟩:∃q:Nat,es.getD x 0=q:=⟨(es.getD x 0).toNat,We⟩;rw[cq e1,i]at g;rw[i,u q We We,g];have w:iI ss Qcj (true || Qit) q=ss.getD q 0:=by
     unfold iI;rw[ke,cq λz=>z.2 ((amD _ _).resolve_right We)]
    rw[w];have p:(aq ks q=true\/ss.getD q 0=(x:Int))↔(!bD ks q || decide (ss.getD q 0=(x:Int)))=true:=by
     have s:(x:Int)∈jl es q:=Ax We We (by rw[ke];exact i);obtain⟨_,_,_,z⟩|⟨_,b,d⟩|⟨_,b,d⟩:=h.kd q We
     .rw[z]at s;cases s
     .simp[b,d]
     .simp[b,d]
    rw[p,pv,fV,ke];by_cases e:x=m
    .simp[e]
    .have e2:¬ (x:Int)=(m:Int):=by lia
     simp only[e,false_or,ky e2,Bool.false_or,lh];constructor
     .rintro⟨_,b,d⟩;obtain b|⟨b,o⟩:=b
      .refine⟨.inl We,d,?_⟩;subst b;cases v:bz es q with
       | nil=>rw[pv];simp
       | cons a r=>rw[pv];simp
      .exact⟨.inr b,d,o⟩
     .rintro⟨b,d,o⟩;obtain b|b:=b
      .exact⟨We,.inl We,d⟩
      .have:=bf l (m:=(q:Int)) We We b;exact⟨We,.inr ⟨b,o⟩,d⟩
 unfold zc vI Iy;refine kh (ro _ (gX n _ We)) (ro _ (List.Pairwise.map _ (λa c h=>Int.ofNat_lt.2 h) Ha)) λx=>?_;rw[kc,kc,Kb,lh,Kb];constructor
 .rintro⟨z,j⟩;have:=aQ n es.length We _ z;obtain⟨q,rfl⟩:∃q:Nat,x=q:=⟨x.toNat,We⟩;refine⟨j0.2 ⟨q,mN.2 We,rfl⟩,j,?_⟩;rcases(key (q+1) q We We).1 z with y|y
  .subst y;have:=bf l (m:=(q:Int)) We We j;lia
  .exact y.2
 .rintro⟨z,j,t⟩;obtain⟨q,g,rfl⟩:=j0.1 z;have g:=mN.1 g;exact⟨(key (q+1) q We g).2 (.inr ⟨j,t⟩),j⟩
inductive Rk where
 | out (m:Int)|yd (m:Int)|way (i:Int)|Al
deriving DecidableEq
def kF:D->Rk
 | .tup [.str w,.int m]=>if w="out" then .out m else if w="in" then .yd m else if w="way" then .way m else .Al
 | _=>.Al
noncomputable def xm:It->Rk
 | .out m=>.out m
 | .yd m=>.yd m
 | .way i=>.way i
 | _=>.Al
def live(r:Rk):Bool:=!decide (r=.Al)
noncomputable def Wd(O:AT):Rk->AT
 | .out m=>O.erase m
 | .yd m=>O++[m]
 | _=>O
def F0(ws:QP)(A:AT):Rk->AT
 | .way i=>if (dF ws i).mode="far" then A++[(dF ws i).i3] else A
 | _=>A
def Ny(es ah:AT)(h:CC):Rk->CC
 | .out m=>vq h (.inl m) (.lst ((vI es ah m).map .int))
 | _=>h
theorem au4(x:It)(bs:AT):kF (x.j bs).d=xm x:=by
 cases x with
 | out m=>rfl
 | keep m p q=>rfl
 | way i=>rfl
 | yd m=>rfl
 | kL q=>cases q<;>rfl
theorem Po(x:It):kF x.d=xm x:=by
 cases x with
 | out m=>rfl
 | keep m p q=>rfl
 | way i=>rfl
 | yd m=>rfl
 | kL q=>cases q<;>rfl
theorem NH:∀(xs:Ee) (bs:AT),((vG xs bs).map J.d).map kF=xs.map xm
 | [],_=>rfl
 | x::xs,bs=>by
  rw[vG,js,js,au4,NH xs,js]
theorem jG{α:Type}{f:α->Rk->α}(h:∀a,f a .Al=a):∀(l:List Rk) (a:α),l.foldl f a=(l.filter live).foldl f a
 | [],_=>rfl
 | r::l,a=>by
  by_cases e:r=.Al
  .subst e;rw[k3,h,ue Wp];exact jG h l a
  .rw[k3,oP (by unfold live;rw[ky e];rfl),k3];exact jG h l _
variable{d:D}
def amE{m:Nat}(h:YD m d):kF d=.Al:=by
 obtain⟨q,rfl,_⟩:=h;cases q<;>rfl
def Wf{m:Nat}{l:BA}(h:∀d∈l,YD m d):(l.map kF).filter live=[]:=by
 rw[List.filter_eq_nil_iff];intro r a;obtain⟨d,hd,rfl⟩:=j0.1 a;rw[amE (h d hd)];decide
theorem sH{α:Type}(f:α->BA)(g:α->Rk):∀(l:QR),(∀a∈l,((f a).map kF).filter live=[g a])->((l.flatMap f).map kF).filter live=l.map g
 | [],_=>rfl
 | a::l,h=>by
  rw[rf,jI,mE,h a gj,sH f g l λc b=>h c (i4 _ b)];rfl
def AW{w:Str}{m:Int}{k:Nat}{l:BA}{r:Rk}(h:∀d∈l,YD k d)(e:kF (.tup [.str w,.int m])=r)(a:live r=true):((D.tup [.str w,.int m]::l).map kF).filter live=[r]:=by
 rw[js,e,oP a,Wf h]
def getD_in{l:List QR}{k:Nat}(h:k<l.length):l.getD k []∈l:=by
 rw[la,ma h];exact List.getElem_mem h
theorem ada{c:CH}(h:c.Ok){p:Pl}(hs:Qhc)(g:∀x∈p.1,0<=x/\x<c.es.length)(hm:∀x∈pT c.ks c.es c.ss (toN c p so).2 QaM,0<=x/\x<c.es.length) :
  ((oe c p so).map kF).filter live=(lX c.ks c.es p.1 QaM).map .out++so.map .way++(pT c.ks c.es c.ss (toN c p so).2 QaM).map .yd:=by
 have j:=h.k.il;have f:=h.k.ol;unfold oe C4;rw[jI,jI,mE,mE];congr 1
 .congr 1
  .unfold Ih;refine sH _ _ _ λm a=>?_;have mb:=g m (jF.1 a).1;have b:∀d∈c.os.getD m.toNat [],YD c.bs.length d:=h.o _ (getD_in We);split
   .rw[List.singleton_append];rw[js,js,show kF (D.tup [.str "out",.int m])=.out m from rfl,oP rfl,show kF (D.tup [.str "keep",.int m,.int (p.2.getD m.toNat 0),.int ((BJ c.ks c.es c.ws p.2 p.1 QaM).getD m.toNat 0)])=.Al from rfl,ue (show ¬ live .Al=true by decide),Wf b]
   .rw[nN];exact AW b rfl rfl
  .unfold Ii;refine sH _ _ _ λi hi=>?_;obtain⟨⟨e,i1⟩,_⟩:=hs.i i hi;exact AW (h.w _ (mU e i1)) rfl rfl
 .unfold inR;refine sH _ _ _ λm a=>?_;have mb:=hm m a;exact AW (h.i _ (getD_in We)) rfl rfl
theorem Pn(g:AT):∀O:AT,(g.map Rk.out).foldl Wd O=g.foldl List.erase O:=by
 induction g with
 | nil=>intro O;rfl
 | cons m g a=>intro O;rw[js,k3,k3];exact a _
theorem ade(g:AT)(O:AT):(g.map Rk.way).foldl Wd O=O:=by
 induction g with
 | nil=>rfl
 | cons m g a=>rw[js,k3];exact a
theorem Pp(g:AT):∀O:AT,(g.map Rk.yd).foldl Wd O=O++g:=by
 induction g with
 | nil=>intro O;exact(j2 _).symm
 | cons m g a=>
  intro O;rw[js,k3,a];show(O++[m])++g=_;rw[jc];rfl
theorem YP(g:AT):∀{O:AT},O.Nodup->(g.foldl List.erase O).Nodup/\∀x,x∈g.foldl List.erase O↔x∈O/\x∉g:=by
 induction g with
 | nil=>intro O h;exact⟨h,λx=>by simp⟩
 | cons m g d=>
  intro O h;rw[k3];obtain⟨h1,h2⟩:=d (h.erase m);refine⟨h1,λx=>?_⟩;rw[h2,h.mem_erase_iff,fV];constructor
  .rintro⟨⟨a,b⟩,c⟩;exact⟨b,λz=>z.elim a c⟩
  .rintro⟨a,b⟩;exact⟨⟨λz=>b QbN,a⟩,λz=>b (.inr z)⟩
theorem ahd(ws:QP)(g:AT):∀A:AT,(g.map Rk.way).foldl (F0 ws) A=A++((g.filter λi=>decide ((dF ws i).mode="far")).map λi=>(dF ws i).i3):=by
 induction g with
 | nil=>intro A;exact(j2 _).symm
 | cons i g a=>
  intro A;rw[js,k3,a];by_cases e:(dF ws i).mode="far"
  .rw[F0,di e,GI,di (lx e),js,jc];rfl
  .rw[F0,cq e,GI,cq (by rw[ky e];decide)]
theorem Pq(ws:QP)(g:AT)(A:AT):(g.map Rk.out).foldl (F0 ws) A=A:=by
 induction g with
 | nil=>rfl
 | cons m g a=>rw[js,k3];exact a
theorem Dt(ws:QP)(g:AT)(A:AT):(g.map Rk.yd).foldl (F0 ws) A=A:=by
 induction g with
 | nil=>rfl
 | cons m g a=>rw[js,k3];exact a
theorem Pr(es ah:AT)(g:AT)(h:CC):(g.map Rk.way).foldl (Ny es ah) h=h:=by
 induction g with
 | nil=>rfl
 | cons m g a=>rw[js,k3];exact a
theorem Du(es ah:AT)(g:AT)(h:CC):(g.map Rk.yd).foldl (Ny es ah) h=h:=by
 induction g with
 | nil=>rfl
 | cons m g a=>rw[js,k3];exact a
def sI(p:Key×D)(r:CC)(j:Key):su (p::r) j=if p.1=j then some p.2 else su r j:=by
 unfold su;rw[rb];by_cases e:p.1=j
 .rw[lx e,di e];rfl
 .rw[ky e,cq e]
theorem Pu(k j:Key)(d:D):∀kvs:CC,su (kvs.map λa=>if a.1=k then(a.1,d) else a) j=if j=k then(if QcS=true then some d else none) else su kvs j
 | []=>by
  rw[List.map_nil,List.any_nil];split<;>rfl
 | p::r=>by
  rw[js,sI,Pu k j d r,nZ,sI];by_cases e:p.1=k
  .rw[di e,lx e,Bool.true_or];by_cases f:j=k
   .rw[di f,di f,di (e.trans f.symm),di rfl]
   .rw[cq f,cq f,cq λz=>f (z.symm.trans e),cq λz=>f (z.symm.trans e)]
  .rw[cq e,ky e,Bool.false_or];by_cases f:j=k
   .rw[di f,di f,cq λz=>e (z.trans f)]
   .rw[cq f,cq f]
theorem Pw(k j:Key)(d:D):∀kvs:CC,QcS=false->su (kvs++[(k,d)]) j=if j=k then some d else su kvs j
 | [],_=>by
  rw[nN,sI];by_cases f:j=k
  .rw[di f.symm,di f]
  .rw[cq λz=>f z.symm,cq f]
 | p::r,h=>by
  rw[nZ,Bool.or_eq_false_iff,Hd]at h;rw[mT,sI,Pw k j d r h.2,sI];by_cases f:j=k
  .rw[di f,di f,cq λz=>h.1 (z.trans f)]
  .rw[cq f,cq f]
def adg(kvs:CC)(k j:Key)(d:D):su (vq kvs k d) j=if j=k then some d else su kvs j:=by
 unfold vq;by_cases e:QcS=true
 .rw[di e,Pu,di e]
 .rw[cq e,Pw k j d kvs (Bool.eq_false_iff.2 e)]
theorem ahe(es ah:AT)(g:AT):∀(h:CC) (t:Int),su ((g.map Rk.out).foldl (Ny es ah) h) (.inl t)=if t∈g then some (.lst ((vI es ah t).map .int)) else su h (.inl t):=by
 induction g with
 | nil=>intro h t;rw[cq kA];rfl
 | cons m g a=>
  intro h t;rw[js,k3,a];by_cases e:t∈g
  .rw[di e,di (i4 _ e)]
  .rw[cq e,Ny,adg];by_cases f:t=m
   .subst f;rw[di rfl,di gj]
   .rw[cq λz=>f (Sum.inl.inj z),cq λz=>(fV.1 z).elim f e]
theorem ahf{g:AT}{W:List Rk}(c:∀m,Rk.out m∉W):∀{P Q:List Rk} {m:Int},P++Rk.out m::Q=g.map Rk.out++W->∃g1 g2,g=g1++m::g2/\P=g1.map Rk.out:=by
 induction g with
 | nil=>
  intro P Q m h;exact absurd (h▸i5 _ gj:Rk.out m∈[].map Rk.out++W) (c m)
 | cons a g b=>
  intro P Q m h;cases P with
  | nil=>
   rw[js,mT,nN]at h;obtain⟨h1,_⟩:=List.cons.inj h;cases h1;exact⟨[],g,rfl,rfl⟩
  | cons r P=>
   rw[js,mT,mT]at h;obtain⟨h1,h2⟩:=List.cons.inj h;obtain⟨g1,g2,e1,e2⟩:=b h2;exact⟨a::g1,g2,by rw[e1];rfl,by rw[h1,e2];rfl⟩
def hG(c:CH)(h:CC)(t:Int):D:=(su h (.inl t)).getD (.lst ((Iy c.ks c.es c.ss t).map .int))
structure y5(c:CH)(p:Pl)(O:AT)(h:CC):Prop where
 g:Gd c p
 o:O.Perm p.1
 f:∀t:Int,IH c.ws t->0<=t->t<c.es.length->t∉p.1->hG c h t=.lst ((zc c.ks c.es c.ss p.2 t).map .int)
theorem aqW{c:CH}(K:c.Ok){p:Pl}{O:AT}{h:CC}(I:y5 c p O h)(hs:Qhc){rs:List Rk}(b:rs.filter live=((oe c p so).map kF).filter live) :
  y5 c (toN c p so) (rs.foldl Wd O) (rs.foldl (Ny c.es p.1) h)/\(∀P Q m,rs=P++Rk.out m::Q->m∈P.foldl Wd O)/\(∀i,Rk.way i∈rs->i∈so) ∧
  ∀t∈rs.foldl Qd9 [],t ≠ -1->(0<=t/\t<c.es.length)/\t∈(toN c p so).1/\hG c (rs.foldl (Ny c.es p.1) h) t=.lst ((vI c.es (toN c p so).1 t).map .int):=by
 obtain⟨_,s⟩:=V7 K I.g hs;have a:=K.k;obtain⟨⟨ch,⟨j,n⟩,e1,hm⟩,A,hf⟩:=I;obtain⟨ops,mem⟩:=p;dsimp only at e1 hm A hf hs s b ⊢;subst e1;have M:∀x∈dO Qb7 c.es ch Qbr,0<=x/\x<c.es.length:=λx l=>uO a.n0 l;have o:=gE (isAll:=aq c.ks) (es:=c.es) (ch:=ch) Qbr;have v:=pS o;have N:=a.tree (Dp a n j hm QaM);have H:=hs.ot a;obtain⟨OX,X,Z,Y,_⟩:=AK a.kd N a.n0 j n hs.ap H;have r:O.Nodup:=A.nodup_iff.2 v;have J:∀x∈pT c.ks c.es c.ss QcO QaM,0<=x/\x<c.es.length:=λx l=>by
  obtain⟨w,hw,y⟩:=l0.1 (eZ.1 l);exact((FI N (H w hw)).2 x y).1
 rw[ada (p:=(dO Qb7 c.es ch Qbr,mem)) K hs M J]at b;generalize d:lX c.ks c.es Qcf QaM=gone at b;have G:∀x∈gone,x∈dO Qb7 c.es ch Qbr:=λx l=>by rw[← d]at l;exact(jF.1 l).1
 have eo:rs.foldl Wd O=gone.foldl List.erase O++pT c.ks c.es c.ss (toN c (dO Qb7 c.es ch Qbr,mem) so).2 QaM:=by
  rw[jG Qa0,b,oC,oC,Pn,ade,Pp]
 have V:∀t,su (rs.foldl (Ny c.es Qcf) h) (.inl t)=if t∈gone then some (.lst ((vI c.es Qcf t).map .int)) else su h (.inl t):=λt=>by
  rw[jG (f:=Ny c.es Qcf) Qa0,b,oC,oC,Du,Pr,ahe]
 have W:rs.foldl Qd9 []=(so.filter λi=>decide ((dF c.ws i).mode="far")).map λi=>(dF c.ws i).i3:=by
  rw[jG (f:=F0 c.ws) Qa0,b,oC,oC,Pq,ahd,Dt,nN]
 have u:∀t:Int,IH c.ws t->0<=t->t<c.es.length->(t∈gone\/t∉dO Qb7 c.es ch Qbr)->hG c (rs.foldl (Ny c.es Qcf) h) t=.lst ((zc c.ks c.es c.ss (toN c (dO Qb7 c.es ch Qbr,mem) so).2 t).map .int):=λt B t0 t1 hd=>by
  unfold hG;rw[V];by_cases e:t∈gone
  .rw[di e];show D.lst _=.lst ((zc c.ks c.es c.ss QcO t).map .int);rw[ac5 a n j hm B (by rw[d];exact e)]
  .have e2:=hd.resolve_left e;rw[cq e];show _=D.lst ((zc c.ks c.es c.ss QcO t).map .int);rw[ac6 a n j hm t0 t1 e2];exact hf t B t0 t1 e2
 refine⟨⟨s,?_,λt B t0 t1 T=>u t B t0 t1 ?_⟩,λP Q m e=>?_,λi hi=>?_,λt L F=>?_⟩
 .rw[eo];show(gone.foldl List.erase O++pT c.ks c.es c.ss QcO QaM).Perm QkY;unfold yf;refine List.Perm.trans (List.Perm.append_right _ ?_) (sortI_perm _).symm;obtain⟨n1,R⟩:=YP gone r;refine(Of n1 (v.filter _)).2 λx=>?_;rw[R,kc,d,A.mem_iff,yA,Hd]
 .by_cases e:t∈gone
  .exact .inl e
  .refine .inr λC=>T ?_;show t∈yf c.ks c.es c.ss _ _ _;unfold yf;refine eZ.2 (ka _ (kc.2 ⟨C,?_⟩));rw[d,yA,Hd];exact e
 .rw[e,mE,oP (show live (Rk.out m)=true by rfl),jc]at b;obtain⟨g1,g2,e2,e3⟩:=ahf (λq z=>by
   obtain y|y:=gY.1 z
   .obtain⟨_,_,f⟩:=j0.1 y;cases f
   .obtain⟨_,_,f⟩:=j0.1 y;cases f) b
  have nd:=(Cm (ks:=c.ks) (gs:=iR c.ws so) a.pre.1 o M hs.ap).1;rw[d,e2]at nd;rw[jG Qa0,e3,Pn,(YP g1 r).2];refine⟨A.mem_iff.2 (G m (by rw[e2];simp)),λz=>?_⟩;exact(lj.1 nd).2.2 m z m gj rfl
 .have z:Rk.way i∈rs.filter live:=kc.2 ⟨hi,rfl⟩;rw[b]at z;obtain y|y:=gY.1 z
  .obtain y|y:=gY.1 y
   .obtain⟨_,_,f⟩:=j0.1 y;cases f
   .obtain⟨_,U,f⟩:=j0.1 y;cases f;exact U
  .obtain⟨_,_,f⟩:=j0.1 y;cases f
 .rw[W]at L;obtain⟨i,hi,rfl⟩:=j0.1 L;obtain⟨hi,E⟩:=kc.1 hi;have E:=ko E;obtain⟨⟨S,i1⟩,_⟩:=hs.i i hi;have hw:dF c.ws i∈iR c.ws so:=by
   unfold iR;refine j0.2 ⟨i,kc.2 ⟨hi,?_⟩,rfl⟩;unfold lY;rw[ky F];rfl
  have g:=H _ hw;refine⟨g.1,acq a n j hm hs hi F,?_⟩;rw[u _ ⟨_,mU S i1,E,rfl⟩ g.1.1 g.1.2 ?_]
  .show D.lst ((zc c.ks c.es c.ss QcO (dF c.ws i).i3).map .int)=.lst ((vI c.es QkY (dF c.ws i).i3).map .int);rw[ahc a n j hm hs hi E F]
  .by_cases C:(dF c.ws i).i3∈dO Qb7 c.es ch Qbr
   .refine .inl ?_;rw[← d];refine jF.2 ⟨C,_,hw,?_⟩;have:=g.up
    rwa [show(((dF c.ws i).i3.toNat:Nat):Int)=(dF c.ws i).i3 by have:=g.1;lia]at this
   .exact .inr C
def Lu(c:CH)(p:Pl)(R:BA)(q:Pl):Prop:=∃(sg:Str) (bs:AT),(R.map kF).filter live=((goN c p sg bs).1.map xm).filter live/\q=(goN c p sg bs).2
inductive Wh(c:CH):Cl->Pl->Prop where
 | ini {R:BA}:(R.map kF).filter live=(zX c).1.map Rk.yd->Wh c [R] (zX c)
 | snoc {M:Cl} {p q:Pl} {R:BA}:Wh c M p->Lu c p R q->Wh c (M++[R]) q
inductive r8(c:CH):Pl->Cl->Pl->Prop where
 | nil {p:Pl}:r8 c p [] p
 | cons {p q e:Pl} {R:BA} {M:Cl}:Lu c p R q->r8 c q M e->r8 c p (R::M) e
variable{R:BA}
theorem r8.snoc{c:CH}{p q e:Pl}{M:Cl}(h:r8 c p M q)(s:Lu c q R e):r8 c p (M++[R]) e:=by
 induction h with
 | nil=>exact .cons s .nil
 | cons a _ b=>exact .cons a (b s)
theorem Wh.Pc{c:CH}{M:Cl}{p:Pl}(h:Wh c M p):∃R S,M=R::S/\(R.map kF).filter live=(zX c).1.map Rk.yd/\r8 c (zX c) S p:=by
 induction h with
 | @ini R e=>exact⟨R,[],rfl,e,.nil⟩
 | @snoc M p q b _ s a=>
  obtain⟨R,S,rfl,e,ch⟩:=a;exact⟨R,S++[b],rfl,e,ch.snoc s⟩
def Kd(h:kF d=.Al):((R++[d]).map kF).filter live=(R.map kF).filter live:=by
 rw[jI,mE,JU,h];exact j2 _
variable{L:Cl}
theorem Wh.post{c:CH}{l:BA}{p:Pl}(h:Wh c Qdz p)(hd:kF d=.Al):Wh c (L++[l++[d]]) p:=by
 generalize b:L++[l]=M at h;cases h with
 | @ini R e=>
  cases L with
  | nil=>
   cases b;exact .ini ((Kd hd).trans e)
  | cons a L=>cases L<;>cases b
 | @snoc M p q R h s=>
  obtain⟨e1,e2⟩:=List.append_inj' b rfl;cases e2;obtain⟨sg,bs,e,f⟩:=s;rw[e1];exact .snoc h ⟨sg,bs,(Kd hd).trans e,f⟩
def xk:D->Bool
 | .tup (.str w::_)=>decide (w="sign")
 | _=>false
def Nz:Cl->BA->BA->Cl
 | L,l,[]=>L++[l]
 | L,l,r::rs=>if xk r=true then Nz Qdz [r] rs else Nz L (l++[r]) rs
def stM(rows:BA):Cl:=Nz [] [] rows
def Sp(L:Cl)(l xs:BA)(b:Cl)(a:BA):Prop:=∀ys,Nz L l (xs++ys)=Nz b a ys
theorem Sp.trans{c L2:Cl}{l b a xs ys:BA}(h:Sp L l xs c b)(k:Sp c b ys L2 a):Sp L l (xs++ys) L2 a:=λzs=>by rw[jc,h,k]
theorem Wg{L:Cl}:∀{xs l:BA},(∀d∈xs,xk d=false)->Sp L l xs L (l++xs)
 | [],l,_=>λys=>by rw[j2];rfl
 | d::xs,l,h=>λys=>by
  rw[mT,Nz,cq (by rw[h d gj];decide),Wg (λe he=>h e Qec),jc];rfl
def ahi{l:BA}(h:xk d=true):Sp L l [d] Qdz [d]:=λys=>by rw[mT,Nz,di h];rfl
theorem U2(xs:Ee):∀bs:AT,∀d∈(vG xs bs).map J.d,xk d=false:=by
 induction xs with
 | nil=>intro bs d hd;cases hd
 | cons x xs a=>
  intro bs d hd;rw[vG,js]at hd;obtain rfl|hd:=fV.1 hd
  .cases x with
   | kL q=>cases q<;>rfl
   | _=>rfl
  .exact a _ d hd
theorem YO{c:CH}:∀(j:Nat) (s:ZP) {L:Cl} {l:BA},Wh c Qdz s.2.1->∃e b,Sp L l (uP c j s).1 e b/\Wh c (e++[b]) (uP c j s).2.2.1
 | 0,s,L,l,h=>⟨L,l,λ_=>rfl,h⟩
 | j+1,s,L,l,h=>by
  obtain⟨e,b,h1,h2⟩:=YO j s h;rw[uP];generalize uP c j s=z at h1 h2 ⊢;obtain⟨rs,w,a,bs⟩:=z;cases w with
  | nil=>exact⟨e,b,h1,h2⟩
  | cons sg w=>
   dsimp only at h1 h2 ⊢;refine⟨e++[b],D.tup [.str "sign",.str sg]::(vG (goN c a sg bs).1 bs).map J.d,h1.trans ((ahi rfl).trans (Wg (U2 _ _))),.snoc h2 ⟨sg,bs,?_,rfl⟩⟩;rw[js,show kF (D.tup [.str "sign",.str sg])=.Al from rfl,ue Wp,NH]
def YM{c:CH}(s:ZP){l:BA}(h:Wh c Qdz s.2.1):∃b a,Sp L l (Dr c s) b a/\Wh c (b++[a]) (QM c s):=by
 obtain⟨b,a,h1,h2⟩:=YO 8 s h;unfold Dr QM;generalize uP c 8 s=z at h1 h2 ⊢;split
 .exact⟨b,a,by rw[j2];exact h1,h2⟩
 .refine⟨b,a++[_],h1.trans (Wg λd hd=>?_),h2.post ?_⟩
  .rw[kf.1 hd];rfl
  .rfl
theorem amF{c:CH}(h:c.Ok)(bs:AT):Sp [] [] ((vG (qJ c) bs).map J.d) [] ((vG (qJ c) bs).map J.d)/\Wh c ([]++[(vG (qJ c) bs).map J.d]) (zX c):=by
 obtain⟨g0,i1,_,_⟩:=Lw h;have b:=h.k.il;refine⟨Wg (U2 _ _),.ini ?_⟩;rw[NH];have e:(qJ c).map xm=(inR c.is (zX c).1).map kF:=by
  rw[← i1,kq];exact nz λx _=>(Po x).symm
 rw[e];obtain⟨ch,_,e1,_⟩:=g0;unfold inR;refine sH _ _ _ λm a=>?_;rw[e1]at a;have mb:=uO h.k.n0 a;exact AW (h.i _ (getD_in We)) rfl rfl
def w1(d:D):Prop:=∃w r,d=.tup (.str w::r)/\((w="out" \/ w="in" \/ w="way")->∃m:Int,r=[.int m])
theorem US(xs:Ee):∀bs:AT,∀d∈(vG xs bs).map J.d,w1 d:=by
 induction xs with
 | nil=>intro bs d hd;cases hd
 | cons x xs a=>
  intro bs d hd;rw[vG,js]at hd;obtain rfl|hd:=fV.1 hd
  .cases x with
   | out m=>exact⟨_,_,rfl,λ_=>⟨m,rfl⟩⟩
   | yd m=>exact⟨_,_,rfl,λ_=>⟨m,rfl⟩⟩
   | way i=>exact⟨_,_,rfl,λ_=>⟨i,rfl⟩⟩
   | keep m p q=>exact⟨"keep",_,rfl,λz=>absurd z Wl⟩
   | kL q=>
    cases q with
    | put x b m=>exact⟨"put",_,rfl,λz=>absurd z Wl⟩
    | call s=>exact⟨"call",_,rfl,λz=>absurd z Wl⟩
    | say s b m=>exact⟨"say",_,rfl,λz=>absurd z Wl⟩
  .exact a _ d hd
theorem YI(c:CH):∀(j:Nat) (s:ZP),∀d∈(uP c j s).1,w1 d
 | 0,s,d,hd=>by cases hd
 | j+1,s,d,hd=>by
  have b:=YI c j s;rw[uP]at hd;generalize uP c j s=z at b hd;obtain⟨rs,w,a,bs⟩:=z;cases w with
  | nil=>exact b d hd
  | cons sg w=>
   dsimp only at b hd;obtain y|y:=gY.1 hd
   .exact b d y
   .obtain rfl|y:=fV.1 y
    .exact⟨"sign",_,rfl,λz=>absurd z Wl⟩
    .exact US _ _ d y
def YE(c:CH)(s:ZP):∀d∈Dr c s,w1 d:=λd hd=>by
 have h:=YI c 8 s;unfold Dr at hd;generalize uP c 8 s=z at h hd;obtain y|y:=gY.1 hd
 .exact h d y
 .split at y
  .cases y
  .rw[kf.1 y];exact⟨"rest",_,rfl,λz=>absurd z Wl⟩
theorem Lz:∀{rows:BA} {L:Cl} {l:BA} {P:D->Prop},(∀R∈L,∀d∈R,P d)->(∀d∈l,P d)->(∀d∈rows,P d)->∀R∈Nz L l rows,∀d∈R,P d
 | [],L,l,P,h1,h2,_,R,a,d,hd=>by
  rw[Nz]at a;obtain z|z:=gY.1 a
  .exact h1 R z d hd
  .rw[kf.1 z]at hd;exact h2 d hd
 | r::rows,L,l,P,h1,h2,f,R,a,d,hd=>by
  rw[Nz]at a;have b:=f r gj;have c:=λe he=>f e Qec;split at a
  .refine Lz (λR z=>?_) (λe he=>?_) c R a d hd
   .obtain y|y:=gY.1 z
    .exact h1 R y
    .rw[kf.1 y];exact h2
   .rw[kf.1 he];exact b
  .refine Lz h1 (λe he=>?_) c R a d hd;obtain y|y:=gY.1 he
   .exact h2 e y
   .rw[kf.1 y];exact b
seal L3.fh L3.Rl L3.cL L3.dR L3.wX L3.KL L3.Xo
abbrev tY:=inClass (top 8) 0
abbrev tZ:=BA×BA×V×BA×BA×BA
noncomputable abbrev AX:At:=["self","boxes","names","tree","ins","outs","ways"]
noncomputable def pV:tZ->BA:=λ(bs,nm,tv,is,os,ws)=>[.lst bs,.lst nm,.val tv,.lst is,.lst os,.lst ws]
def pW:tZ->Prop:=λ(bs,nm,tv,is,os,ws)=>D.bR bs=true/\D.bR nm=true/\D.bR is=true/\D.bR os=true/\D.bR ws=true
def pX:tZ->BS:=λ(bs,nm,tv,is,os,ws)=>(za bs nm (.sh (.val tv)) is os ws:BS)
structure LC(X:Cx)(CL:BC):Prop extends bI X where
 cg:Ln X 0 "self"
 cz:Ln X 1 "boxes"
 Em:Ln X 2 "names"
 bE:Ln X 3 "tree"
 Wi:Ln X 4 "ins"
 LD:Ln X 5 "outs"
 jO:Ln X 6 "ways"
 dI:Gl X "list"
 dJ:nR X "list"
 az:jJ X.K QJ
 aK:jJ X.K Qag
 fC:aD X.K QJ "boxes"
 cC:aD X.K Qag "boxes"
 jS:aD X.K QJ "names"
 aV:aD X.K QJ "tree"
 nu:aD X.K QJ "ins"
 kZ:aD X.K QJ "outs"
 bu:aD X.K QJ "ways"
variable{X:Cx}{CL:BC}{b:Bx}
def LJ(E:LC X CL)(bs nm:BA)(tv:V)(is os ws:BA)(y:Addr)(h:D.bR bs=true/\D.bR nm=true/\D.bR is=true/\D.bR os=true/\D.bR ws=true) :
  fh X CL b (eL tY) (Rt AX y "Chart" [.lst bs,.lst nm,.val tv,.lst is,.lst os,.lst ws]) {nx:=λδ=>δ[0]? = some (some (.pin y (.ins "Chart" (za bs nm (.sh (.val tv)) is os ws)))),rt:=λ_ _=>False}:=by
 obtain⟨h1,h2,d,c,a⟩:=h;refine jM E.az E.fC E.cg.1 (jo E.dJ (aF E.cz) h1 E.dI cH).m rfl Qbd ?_;refine jM E.az E.jS E.cg.1 (jo E.dJ (aF E.Em) h2 E.dI cH).m rfl Qbd ?_;refine jM E.az E.aV E.cg.1 (v_ E.bE.1).m rfl Qbd ?_;refine jM E.az E.nu E.cg.1 (jo E.dJ (aF E.Wi) d E.dI cH).m rfl Qbd ?_;exact jM E.az E.kZ E.cg.1 (jo E.dJ (aF E.LD) c E.dI cH).m rfl Qbd (jM E.az E.bu E.cg.1 (jo E.dJ (aF E.jO) a E.dI cH).m rfl Qbd (aj rfl))
def dS:FG AX ["self","boxes","names","tree","ins","outs","ways"] ["list"] (ak tY):=fG
def fW(x:Int)(w:bG):bG:=⟨w.src,w.sign,w.asks,w.ym,w.i3,if 0<x % 3/\w.i3 ≠ -1 then "far" else w.mode⟩
def HI(c:CH)(x:Int):CH:=⟨c.bs,c.nm,c.ks,c.es,c.ss,c.is,c.os,c.ws.map (fW x)⟩
def YA{c:CH}(h:c.Ok)(x:Int):(HI c x).Ok:=by
 have k:=h.k;have hw:∀w∈c.ws.map (fW x),∃v∈c.ws,w=fW x v:=λw hw=>by
  obtain⟨v,hv,rfl⟩:=j0.1 hw;exact⟨v,hv,rfl⟩
 refine⟨⟨k.n0,k.n1,k.kl,k.sl,k.il,k.ol,k.kd,k.pre,k.st,k.ir,k.or,λw z=>?_,by show(c.ws.map (fW x)).length<=8;rw[d8];exact k.wl⟩,λbs a w z=>?_,h.i,h.o,λw z=>?_,h.nl,h.bl⟩
 .obtain⟨v,hv,rfl⟩:=hw w z;have i:=k.wo v hv;refine⟨i.1,i.2.1,?_,i.2.2.2⟩;show qY (if 0<x % 3/\v.i3 ≠ -1 then "far" else v.mode);split
  .exact .inr QaH
  .exact i.2.2.1
 .obtain⟨v,hv,rfl⟩:=hw w z;exact h.q bs a v hv
 .obtain⟨v,hv,rfl⟩:=hw w z;exact h.w v hv
def Nl(c:CH):T:=.ins "Chart" Qj0
def YJ(c:CH):(Nl c).gT=c.d:=by
 unfold Nl CH.d;rw[FE,T.gT]
abbrev zf:=top 74
abbrev zj:=CH×Int
noncomputable abbrev F2:At:=["chart","cell","ways","way","mode"]
def oM:zj->BA:=λ(c,x)=>[c.d,.int x]
def oN:zj->Prop:=λ(c,x)=>c.Ok/\D.bR c.nm=true
def oO:zj->T:=λ(c,x)=>(Nl (HI c x):T)
structure SV(X:Cx)(CL:BC):Prop extends bI X where
 aC:Ln X 0 "chart"
 vJ:Ln X 1 "cell"
 jO:Ln X 2 "ways"
 eu:Ln X 3 "way"
 k6:Ln X 4 "mode"
 LK:Gl X "Chart"
 LN:Fm X CL "Chart" 1 7 pV pW pX
 az:jJ X.K QJ
 aK:jJ X.K Qag
 bu:aD X.K QJ "ways"
 fC:aD X.K QJ "boxes"
 cC:aD X.K Qag "boxes"
 jS:aD X.K QJ "names"
 aV:aD X.K QJ "tree"
 nu:aD X.K QJ "ins"
 kZ:aD X.K QJ "outs"
theorem SW(E:SV X CL) :
  ni X CL b zf F2 oM oN oO:=by
 rintro⟨c,x⟩ h;dsimp only [oN,oM,oO]at h ⊢;obtain⟨t,n⟩:=h;have m:=t.k;refine aM E.g E.jO QaS ?_;refine gK E.g E.eu (λj δ=>∃(p o:ES),δ=[some Qe8,some (.sh Qdx),some Qkh,p,o]) (dm Qeo) ⟨_,_,rfl⟩ (λj δ ⟨_,_,e⟩=>by subst e;exact jj rfl) ?turn ?fin
 case turn=>
  rintro j d δ A ⟨p,o,rfl⟩;obtain⟨w,rfl,_,hw,C,_,u⟩:=jL A;have B:=m.wl;have i:=m.wo w hw;refine aM E.g E.k6 (cM (aX Qbg ao (dg (j:=5) rfl)) rfl) ?_;refine yi (λδ=>δ=[some Qe8,some (.sh Qdx),some Qkh,some (.sh (gO w)),some (.sh (.str (fW x w).mode))]) (qW (iK (NN (aH (jK (aF E.vJ) ao Wp)) ao).1 (λ_=>jf (BU (aX Qbg ao (dg (j:=4) rfl)) Qbf).1))) (λa=>?_) (λa=>?_) ?_
  .rw[lh]at a;have p1:=ko a.1;have p2:¬ w.i3=-1:=by simpa using a.2
   refine aM E.g E.k6 fS (aj ?_);have e:(fW x w).mode="far":=di ⟨p1,p2⟩;rw[e];rfl
  .refine aj ?_;have e:(fW x w).mode=w.mode:=cq λz=>by rw[lx z.1,ky z.2]at a;exact absurd a Wp
   rw[e];rfl
  rintro δ rfl;refine jt E.jO.1 rfl (aR (je (ds:=[.int w.src,.str w.sign,.tup w.asks,.tup w.ym,.int w.i3,.str (fW x w).mode]) (aE (j9 Qga ao yV) (aE (j9 Qga ao Fg) (aE (j9 Qga ao IM) (aE (j9 Qga ao Pf) (aE (j9 Qga ao (dg (j:=4) rfl)) (aE (v_ E.k6.1) f9)))))) aP) (t2:=.sh (gO (fW x w))) rfl) rfl (by rw[d8,d8,d8,nr];lia) (aj ⟨some (.sh (gO w)),some (.sh (.str (fW x w).mode)),?_⟩);rw[u,jI,jI,jI];rfl
 case fin=>
 rintro δ ⟨p,o,rfl⟩;rw[d8,me];have s:D.bR (c.bs.map vC)=true:=dX Qa0 _;have ir:∀{l:Cl},q8 l->D.bR (l.map D.tup)=true:=λ{l} h=>g7 λd hd=>by
  obtain⟨r,y,rfl⟩:=j0.1 hd;exact(h r y).2
 have q:D.bR (((c.ws.map (fW x)).map gO))=true:=g7 λd hd=>by
  obtain⟨w,hw,rfl⟩:=j0.1 hd;exact AV ((YA t x).k.wo w hw)
 exact bB (OT (f:="tree") (QI:=Ci (c.bs.map vC) c.nm) (XI:=Cj (c.is.map .tup) (c.os.map .tup) ((c.ws.map (fW x)).map gO)) (λv=>(c.bs.map vC,c.nm,v,c.is.map .tup,c.os.map .tup,(c.ws.map (fW x)).map gO)) E.LN E.LK
  (Am (bN E.az E.fC QaC Dm) (Am (bN E.az E.jS QaC Dn) (Ot (kT E.az E.aV (v_ E.aC.1) e9) (ai (bN E.az E.nu QaC JY) (ai (bN E.az E.kZ QaC FD) (ai (vL E.jO.1) aG))))))
  (λv=>rfl) (λv=>⟨s,n,ir m.ir,ir m.or,q⟩) (λv=>rfl) (AI s n) (AJ (ir m.ir) (ir m.or) q)) rfl
def jv:FG F2 ["chart","cell"] ["Chart"] (ak zf):=fG
abbrev Cv:=top 63
abbrev Cw:=AT×Int
abbrev Ke:At:=["script","k"]
def kG:Cw->BA:=λ(ns,j)=>[.lst (ns.map .int),.int j]
def kH:Cw->Prop:=λ(ns,j)=>0<=j
def kI:Cw->T:=λ(ns,j)=>(.sh (.int (dP ns j)):T)
structure YK(X:Cx)(CL:BC):Prop extends bI X where
 bT:Ln X 0 "script"
 Im:Ln X 1 "k"
 iY:Gl X "len"
 iZ:nR X "len"
def YL(E:YK X CL) :
  ni X CL b Cv Ke kG kH kI:=by
 rintro⟨ns,j⟩ h;refine fq (JG Qbv (aH (KQ E.iZ Qcx E.iY))).1 (λa=>?_) (λa=>?_)
 .have e:=by simpa using of_decide_eq_true a
  apply bB (cM (bJ Qcx Qbv (f7 h e)) rfl);show T.sh _=T.sh _;rw[dP,di e]
 .have e:¬ j<ns.length:=by simpa using of_decide_eq_false a
  refine aj (bB bF ?_);show T.sh _=T.sh _;rw[dP,cq e]
def t6:FG Ke ["script","k"] ["len"] (ak Cv):=fG
abbrev SX:=top 64
abbrev LQ:=Addr×Int×Int
noncomputable abbrev Yf:At:=["pot","many","digit"]
noncomputable def k7:LQ->B2:=λ(y,p,m)=>[.pin y Qhn,.sh Qc9]
noncomputable def k8:LQ->B2:=λ(y,p,m)=>[.pin y (.lst [.sh (.int (p / m))]),.sh Qc9]
def pre_take:LQ->Prop:=λ(y,p,m)=>0<m/\m.natAbs.log2<9000
noncomputable def k9:LQ->T:=λ(y,p,m)=>(.sh (.int (p % m)):T)
structure amH(X:Cx)(CL:BC):Prop extends bI X where
 c7:Ln X 0 "pot"
 dM:Ln X 1 "many"
 Wj:Ln X 2 "digit"
def amI(E:amH X CL) :
  r4 X CL b SX Yf k7 pre_take k9 k8:=by
 rintro⟨y,p,m⟩ h;exact aM E.g E.Wj (jK Qkj Qea h.1) (B9 (abF Qkj Qea h) (c6 E.c7.1 rfl) ao rfl rfl rfl (bB (v_ E.Wj.1) ⟨rfl,nU (ds:=[_])⟩))
def En:FG Yf ["pot","many"] [] (ak SX):=fG
abbrev SY:=top 65
abbrev S9:=AT×Int
noncomputable abbrev Ya:At:=["elders","at","chain"]
noncomputable def vK:S9->BA:=λ(es,m)=>[.lst Qcm,.int m]
def vN:S9->Prop:=λ(es,m)=>e7 es/\0<=m/\m<es.length/\es.length<=1000
def vO:S9->T:=λ(es,m)=>(.lst (((m::bz es m).map .int).map T.sh):T)
structure amJ(X:Cx)(CL:BC):Prop extends bI X where
 eU:Ln X 0 "elders"
 au5:Ln X 1 "at"
 gf:Ln X 2 "chain"
theorem amK(E:amJ X CL) :
  ni X CL b SY Ya vK vN vO:=by
 rintro⟨es,m⟩ h;obtain⟨f,h0,h1,hlen⟩:=h;apply aM E.g E.gf (aR (cJ (aY (v_ E.au5.1) bA) aP) rfl);apply KZ E.g (λn δ=>∃(k:Int) (l:AT),δ=[some _,some _,some (.lst (((l++[k]).map _).map _))]/\0<=k/\k<es.length/\k.toNat=n/\l++k::bz es k=m::bz es m) _ ⟨m,[],rfl,h0,h1,rfl,rfl⟩;rintro n δ ⟨k,l,rfl,k0,k1,k2,a⟩;have o:=f.at k0 k1;have i:wV ((l++[k]).map D.int) (-1)=some (.int k):=jI▸aas _ _;have c:=fK f k0 k1;have hle:(m::bz es m).length<=es.length+2:=by rw[lr];have:(bz es m).length<=es.length+1:=tT _ _ _;lia
 refine⟨_,_,(BU Qk3 Qbf).1,λd=>?_,λd=>?_⟩
 .have e:¬ es.getD k.toNat 0=-1:=by simpa using d
  rw[cq e]at c;have j:(l++[k]).length<=1100:=by
   have:=congrArg List.length a;rw[kr]at this;rw[kr,rr];lia
  refine jt E.gf.1 rfl (cM Qk3 rfl) rfl (by rw[d8,d8];lia) (aj ⟨ _,We,es.getD k.toNat 0,l++[k],?_,We,We,rfl,?_⟩)
  .rw[jI (l₂:=[es.getD _ 0]),jI (l₂:=[es.getD _ 0].map _)];rfl
  .rw[← a,c,jc];rfl
 .have e:es.getD k.toNat 0=-1:=by simpa using d
  rw[di e]at c;rw[c]at a;exact a▸bB (vM E.gf.1) rfl
def Eo:FG Ya ["elders","at"] [] (ak SY):=fG
abbrev F3:=top 66
abbrev F4:=AT×Nat×Nat
noncomputable abbrev Py:At:=["script","moods","style","elders","k","chain"]
noncomputable def zk:F4->BA:=λ(s,n,st)=>[.lst (s.map .int),.int n,.int st]
def zl:F4->Prop:=λ(s,n,st)=>s.length<=1000/\1<=n/\n<=40
def zm:F4->T:=λ(s,n,st)=>(.lst (((Il s n st).map .int).map T.sh):T)
structure adq(X:Cx)(CL:BC):Prop extends bI X where
 bT:Ln X 0 "script"
 fP:Ln X 1 "moods"
 iU:Ln X 2 "style"
 eU:Ln X 3 "elders"
 Im:Ln X 4 "k"
 gf:Ln X 5 "chain"
 fD:Gl X "range"
 vP:Gl X "_law_line"
 iY:Gl X "len"
 fL:Gl X "_law_cell_at"
 fE:nR X "range"
 F5:Fc X CL "_law_line" 1 2 vK vN vO
 iZ:nR X "len"
 gQ:Fc X CL "_law_cell_at" 1 2 kG kH kI
theorem ads(E:adq X CL) :
  ni X CL b F3 Py zk zl zm:=by
 rintro⟨s,n,st⟩ h;obtain⟨_,w,r⟩:=h;show fh X CL b _ _ {nx:=_,rt:=λu _=>u=T.lst _,bk:=_,ct:=_};refine fq (gB QcC ao).1 (λc=>?_) (λc=>aj ?_)
 .have e:st=1:=by lia
  exact show Il s n st=E7 by unfold Il;rw[di e]▸bB (aR (fO (aE (gW ao) (aE bF (aE bF Qfe))) aP) rfl) rfl
 have e:¬ st=1:=by lia
 rw[show Il s n st=V9 s _ by unfold Il;rw[cq e]];apply aM E.g E.eU (fO (aE (gW ao) f9) aP);refine gK E.g E.Im (λj δ=>∃i f,δ=[some _,some _,some _,some (.lst (((V9 s j).map _).map _)),i,f])
  (Xs E.fE ao Qd4 We E.fD) ⟨_,_,rfl⟩ (λj δ ⟨_,_,e⟩=>by subst e;exact jj rfl) ?turn ?fin
 case turn=>
  rintro j d δ t ⟨i,f,rfl⟩;obtain⟨rfl,x⟩:=Oa t;obtain⟨o,v⟩:=SK s j;have k:=v.1;obtain⟨m,l,p⟩:=Ds k o.symm;have q:V9 s QA=V9 s j++[zt s _ j]:=rfl;show fh X CL b _ _ _;rw[q];generalize V9 s j=es at o k m l p ⊢;refine aM E.g E.gf (aR (c_ (es,(j:Int)) E.F5 E.vP (ai (vL E.eU.1) (ai (Dd (aH (KN Qbv ao)) We) aG)) (⟨k,We,We,We⟩) (aL _)) rfl) ?_;refine yi (λδ=>δ=[some QcU,some Qbt,some Qa6,some (.lst ((es.map .int).map T.sh)),some (.sh (.int (1+j))),some (.lst (((gF es j).map .int).map T.sh))]) (NN (aH (jB (d8 ..) E.iZ Qb3 E.iY)) ao).1 (λc=>?_) (λc=>?_) ?_
  .have e:(12:Int)<(([(j:Int)]++bz es j).length):=ko c;refine aM E.g E.gf (vo Qb3 (b9 _) (tL ao) wZ) (aj ?_);rw[Af];unfold gF;rw[di e];rfl
  .have e:¬ (12:Int)<(([(j:Int)]++bz es j).length):=l5 c;apply aj;unfold gF;rw[cq e];rfl
  rintro δ rfl;have a:((es.map D.int).map T.sh)++[T.sh (.int (zt s es j))]=((es++[zt s es j]).map D.int).map T.sh:=by simp
  unfold zt at a ⊢;rw[show 1+j=(j:Int)+1 by lia];generalize gF es j=rs at m l a ⊢;have b1:=mu (dP s QA) (b:=rs.length) We;have b2:=l8 (dP s QA) (b:=rs.length) We;refine jt E.eU.1 rfl (cM (bJ Qb3 (aH (jK (aH (c_ ((s,(j:Int)+1)) E.gQ E.fL QjD (show 0<=(j:Int)+1 by lia) rfl)) (aH (jB (d8 ..) E.iZ Qb3 E.iY)) We)) (f7 b1 b2)) rfl) rfl (by rw[d8,d8];lia) (aj ?_);rw[a];exact⟨_,_,rfl⟩
 case fin=>
  rintro δ ⟨i,f,rfl⟩;apply bB (vM E.eU.1);rw[show(d9 1 _).length=n-1 by simp[d9]]
def iy:FG Py ["script","moods","style"] ["range","_law_line","len","_law_cell_at"] (ak F3):=fG
abbrev vQ:=inClass (top 11) 0
abbrev vR:=At×AT×AT
noncomputable abbrev Dv:At:=["self","kinds","elders","starts"]
noncomputable def yq:vR->BA:=λ(ks,es,ss)=>[.lst QdR,.lst Qcm,.lst QdS]
def yr:vR->Prop:=λ(ks,es,ss)=>True
def yt:vR->BS:=λ(ks,es,ss)=>(Av ks es ss:BS)
structure Pz(X:Cx)(CL:BC):Prop extends bI X where
 cg:Ln X 0 "self"
 qK:Ln X 1 "kinds"
 eU:Ln X 2 "elders"
 sJ:Ln X 3 "starts"
 dI:Gl X "list"
 dJ:nR X "list"
 bU:jJ X.K Qac
 bP:aD X.K Qac "kinds"
 ck:aD X.K Qac "elders"
 jT:aD X.K Qac "starts"
def PB(E:Pz X CL)(ks:At)(es ss:AT)(y:Addr)(h:True) :
  fh X CL b (eL vQ) (Rt Dv y "Tree" [.lst QdR,.lst Qcm,.lst QdS]) {nx:=λδ=>δ[0]? = some (some (.pin y (.ins "Tree" (Av ks es ss)))),rt:=λ_ _=>False}:=by
 have hi:D.bR (ks.map D.str)=true:=dX Qa0 _;refine jM E.bU E.bP E.cg.1 (jo E.dJ (aF E.qK) hi E.dI cH).m rfl Qbd ?_;exact jM E.bU E.ck E.cg.1 (jo E.dJ Qe2 (b9 _) E.dI cH).m rfl Qbd (jM E.bU E.jT E.cg.1 (jo E.dJ (aF E.sJ) (b9 _) E.dI cH).m rfl Qbd (aj rfl))
def iV:FG Dv ["self","kinds","elders","starts"] ["list"] (ak vQ):=fG
abbrev LR:=top 67
abbrev Tc:=AT×Nat×Nat
noncomputable abbrev X2:At:=["script","moods","style","elders","kinds","starts","k","near"]
noncomputable def F6:Tc->BA:=λ(s,n,st)=>[.lst (s.map .int),.int n,.int st]
def F7:Tc->Prop:=λ(s,n,st)=>s.length<=1000/\1<=n/\n<=40/\st<3
def F8:Tc->T:=λ(s,n,st)=>(.ins "Tree" (Av (Ek s st Qf9 (Il s n st).length) Qf9 (Kc s st Qf9 (Il s n st).length)):T)
structure amM(X:Cx)(CL:BC):Prop extends bI X where
 bT:Ln X 0 "script"
 fP:Ln X 1 "moods"
 iU:Ln X 2 "style"
 eU:Ln X 3 "elders"
 F9:yW X "elders"
 qK:Ln X 4 "kinds"
 sJ:Ln X 5 "starts"
 Im:Ln X 6 "k"
 k_k:yW X "k"
 Ga:Ln X 7 "near"
 Io:Gl X "_law_elders"
 fD:Gl X "range"
 iY:Gl X "len"
 fL:Gl X "_law_cell_at"
 aqZ:Gl X "int"
 amN:Gl X "Tree"
 adu:Fc X CL "_law_elders" 2 3 zk zl zm
 fE:nR X "range"
 iZ:nR X "len"
 gQ:Fc X CL "_law_cell_at" 1 2 kG kH kI
 aq0:nR X "int"
 amO:Fm X CL "Tree" 1 4 yq yr yt
theorem amP(E:amM X CL) :
  ni X CL b LR X2 F6 F7 F8:=by
 rintro⟨s,n,st⟩ h;obtain⟨h0,v,o,w⟩:=h;refine aM E.g E.eU (dD (aR (c_ (s,n,st) E.adu E.Io Qk5 ⟨h0,v,o⟩ (aL _)) rfl)) ?_;obtain⟨y,K⟩:=acS s (st:=st) v;have r:(Il s n st).length<=40:=by rw[y];split<;>lia
 show fh X CL b _ _ {nx:=_,rt:=λH _=>H=T.ins "Tree" (Av _ Qf9 _),bk:=_,ct:=_};generalize Il s n st=es at r ⊢;refine aM E.g E.qK QaS ?_;refine aM E.g E.sJ QaS ?_;refine gK E.g E.Im (λj δ=>∃f c,δ=[some _,some Qbt,some Qa6,some _,some (.lst (((Ek s st es j).map .str).map T.sh)),some (.lst (((Kc s st es j).map .int).map T.sh)),f,c])
  (pN E.fE (aH (jB (d8 ..) E.iZ Qe2 E.iY)) We E.fD) ⟨_,_,rfl⟩ (λj δ ⟨_,_,e⟩=>by subst e;exact jj rfl) ?turn ?fin
 case turn=>
  rintro j d δ A ⟨f,c,rfl⟩;obtain⟨rfl,M⟩:=Oa A;rw[rF];have lk:(Ek s st es j).length=j:=by unfold Ek;rw[d8,m3]
  have ls:(Kc s st es j).length=j:=by unfold Kc;rw[d8,m3]
  refine RJ (p:=λd=>decide (es.getD d.yb.toNat 0=(j:Int))) (gg:=λd=>T.sh d) E.g E.Ga (bM (.cons E.eU.1 (.inl E.F9) (.cons E.Im.1 (.inl E.k_k) .nil)) Wl) (pN E.fE (aH (jB (d8 ..) E.iZ Qe2 E.iY)) We E.fD) QaH (λC s0 L f0 J d hd=>?Ca) (by simp[d9,mx];lia) ?rest (by exact jj rfl) QhC
  case Ca=>
   obtain⟨i,hi,rfl⟩:=j0.1 hd;have hi:=mN.1 hi;exact⟨(gB (bJ (gC 1) (kD 0) (f7 (show(0:Int)<=0+(i:Int) by lia) (show 0+(i:Int)<es.length by lia))) (gC 2)).1,λ_=>v_ (Fi 0)⟩
  case rest=>
  have B:((d9 0 ((es.length:Nat):Int).toNat).filter _).map (λd=>T.sh d)=((jl es j).map D.int).map T.sh:=aqJ es j;rw[B];refine jt E.qK.1 rfl fS rfl (by rw[d8,d8];lia) ?_;refine jt E.sJ.1 rfl (gW ao) rfl (by rw[d8,d8];lia) ?_;have k:(((Ek s st es j).map D.str).map T.sh).length=j:=by rw[d8,d8,lk]
  have t:(((Kc s st es j).map D.int).map T.sh).length=j:=by rw[d8,d8,ls]
  have ix:∀{x:T},HB ((((Ek s st es j).map D.str).map T.sh)++[x]).length (j:Int)=some j:=λ{x}=>by rw[kr,k];exact Wa (yn j)
  have m:∀{x:T},HB ((((Kc s st es j).map D.int).map T.sh)++[x]).length (j:Int)=some j:=λ{x}=>by rw[kr,t];exact Wa (yn j)
  have c0:=mu (dP s (j:Nat) / 60) (b:=3) Wp;have F:=l8 (dP s (j:Nat) / 60) (b:=3) Wp;have ne:(!Rp (.lst ((jl es j).map D.int)) Qe6)=decide (jl es j≠[]):=by
   rw[show Rp _ Qe6=decide (jl es j=[]) from abf (jl es j) []];by_cases e:jl es j=[]
   .rw[lx e,ky (λz=>z e)];rfl
   .rw[ky e,lx e];rfl
  refine yi (λδ=>δ=[some QcU,some Qbt,some Qa6,some Qcl,some (.lst (((Ek s st es j).map .str).map T.sh++[T.sh (.str (xp s st es j))])),some Qkb,some QcZ,some Qim]) (Yh (Rq E.u (vL E.Ga.1) (bS QaS) (AQ _) (AQ [])).1 ne) (λa=>?_) (λa=>?_) ?_
  .have hz:=ko a;refine B9 (cM (bJ (bS (fO (ds:=(["one","all",vf.getD st Str.empty]:At).map .str) (aE fS (aE fS (aE (cM (bJ (bS (fO (qz (l:=vf) rfl) aP)) QcC (fH Str.empty (l:=vf) We (show((st:Nat):Int)<3 by lia))) rfl) f9))) aP)) (aH (jK (aH (D4 (aH (c_ ((s,(j:Int))) E.gQ E.fL QjD (show(0:Int)<=(j:Int) by lia) rfl)) ao ⟨Wp,Wp⟩)) ao Wp)) (fH Str.empty c0 (F))) rfl) (c6 E.qK.1 rfl) Qbv rfl rfl ix (aj ?_);show [_,_,_,_,some (T.lst ((((Ek s st es j).map D.str).map T.sh++[T.sh (.str "leaf")]).set j _)),_,_,_]=_;rw[El k];unfold xp;rw[cq hz]
  .have hz:jl es j=[]:=Classical.not_not.1 (l5 a);refine aj ?_;unfold xp;rw[di hz];rfl
  rintro δ rfl;refine yi (λδ=>δ=[some QcU,some Qbt,some Qa6,some Qcl,some Qkv,some Qkb,some QcZ,some Qim]) (Yh (qW (iK (gB QcC ao).1 (λI=>(jf (Rq E.u (vL E.Ga.1) (bS QaS) (AQ _) (AQ [])).1)))) (show _=(decide (st=1)&&decide (jl es j≠[])) by rw[show(!Rp _ (.lst (([]:AT).map D.int)))=decide (jl es j≠[]) from ne];congr 1;rw[decide_eq_decide];lia)) (λa=>?_) (λa=>?_) ?_
  .rw[lh]at a;have h1:=ko a.1;have hz:=ko a.2;refine B9 (cM (bJ (bS (fO (qz rfl) aP)) (aH (afU E.aq0 (aH (gB Qbv ao).2) E.aqZ)) (fH Str.empty (by split<;>decide) (by split<;>decide))) rfl) (c6 E.qK.1 rfl) Qbv rfl rfl ix (aj ?_);show [_,_,_,_,some (T.lst ((((Ek s st es j).map D.str).map T.sh++[T.sh (.str (xp s st es j))]).set j _)),_,_,_]=_;rw[El k,← Pj];rw[show QN s st es j=if j=0 then("all":Str) else "one" by unfold QN;rw[cq hz,di h1]];by_cases e:j=0
   .subst e;rfl
   .rw[cq e,ky (show ¬ (j:Int)=0 by lia)];rfl
  .refine aj ?_;rw[← Pj];have e:QN s st es j=xp s st es j:=by
    unfold QN xp;by_cases hz:jl es j=[]
    .rw[di hz,di hz]
    .have:¬ st=1:=λz=>by rw[lx z,lx hz]at a;exact absurd a Wp
     rw[cq hz,cq hz,cq this]
   rw[e]
  rintro δ rfl;have q:wV ((Ek s st es QA).map D.str) (j:Int)=some (.str (QN s st es j)):=by
   refine dg ?_;unfold Ek;rw[k4,k4,oT (yn j)];rfl
  refine yi (λδ=>δ=[some QcU,some Qbt,some Qa6,some Qcl,some Qkv,some (.lst (((Kc s st es QA).map .int).map T.sh)),some QcZ,some Qim]) (cW (bJ (vL E.qK.1) Qbv q) bK).1 (λa=>?_) (λa=>?_) ?_
  .have e:=ko a;have hm:=acV w e;have G:0<(jl es j).length:=List.length_pos_of_mem hm;have b1:=mu (dP s (j:Nat) / 180) (b:=((jl es j).length:Nat)) We;have b2:=l8 (dP s (j:Nat) / 180) (b:=((jl es j).length:Nat)) We;refine B9 (cM (bJ (vL E.Ga.1) (aH (jK (aH (D4 (aH (c_ ((s,(j:Int))) E.gQ E.fL QjD (show(0:Int)<=(j:Int) by lia) rfl)) ao ⟨Wp,Wp⟩)) (aH (jB (d8 ..) E.iZ (vL E.Ga.1) E.iY)) We)) (f7 b1 b2)) rfl) (c6 E.sJ.1 rfl) Qbv rfl rfl m (aj ?_);show [_,_,_,_,_,some (T.lst ((((Kc s st es j).map D.int).map T.sh++[T.sh (.int (-1))]).set j _)),_,_]=_;rw[El t,← Pk];unfold Va;rw[di e]
  .have e:=l5 a;refine aj ?_;rw[← Pk];unfold Va;rw[cq e]
  rintro δ rfl;exact aj ⟨_,_,rfl⟩
 case fin=>
  rintro δ ⟨f,c,rfl⟩;rw[show(d9 0 ((es.length:Nat):Int).toNat).length=es.length by simp[d9]];exact bB (aR (mk_ (Ek s st es es.length,es,Kc s st es es.length) E.amO E.amN (ai (vL E.qK.1) (ai Qe2 (ai (vL E.sJ.1) aG))) trivial (Dl ..)) rfl) rfl
def g9:N9 (ak LR) ([("script",cZ),("moods",cZ),("style",cZ),("elders",.cell),("kinds",cZ),("starts",cZ),("k",.cell),("near",cZ),("_law_elders",bX),("range",bX),("len",bX),("_law_cell_at",bX),("int",bX),("Tree",bX)])=true:=by decide +kernel
def ahj:cU X2 ["script","moods","style"] (ak LR):=jC
def Ep{k i:Nat}{e:Expr}{δ:BB}{q a n:Int}{p1 p2 d:Pos}(c:QK X CL "_law_take" k 2 k7 pre_take k9 k8)(g:Gl X "_law_take")(l:Vn X i "pot")(h:δ[i]? = some (some (.pin y (.lst [.sh (.int q)]))))(he:cL X CL b e (δ.set i none) Qbt (δ.set i none))(j:0<n/\n.natAbs.log2<9000)(f:a=q / n)(m:i<δ.length:=by exact jj rfl)(s1:starEach [.Name "pot" p2,e] X.env=(false,eval (.Name "pot" p2) X.env)::starEach [e] X.env:=by exact bq rfl)(s2:Qad:=by exact bq rfl)(s3:(backTo d Qjq).any (·.1)=false:=by rfl):mS X CL b (.Call (.Name "_law_take" p1) [.Name "pot" p2,e] [] d) δ (.sh (.int (q % n))) ((δ.set i none).set i (some (.pin y (.lst [.sh (.int a)])))):=by
 subst f;exact tf (y,q,n) _ c g (An l h (qD he tR s2) s1) j rfl ⟨rfl,.inr rfl,trivial⟩ rfl rfl (by rw[oz];exact m) Wp s1 s3
abbrev Td:=top 68
abbrev LV:=Addr×Int×Nat
noncomputable abbrev X1:At:=["pot","many","box","far"]
noncomputable def AY:LV->B2:=λ(y,p,m)=>[.pin y Qhn,.sh Qc9]
def vS:LV->B2:=λ(y,p,m)=>[.pin y (.lst [.sh (.int (pe m p))]),.sh Qc9]
def vU:LV->Prop:=λ(y,p,m)=>m<=10
def vV:LV->T:=λ(y,p,m)=>(.sh (.tup [.int (p7 m p),.int (u7 m p)]):T)
structure amQ(X:Cx)(CL:BC):Prop extends bI X where
 c7:Ln X 0 "pot"
 dM:Ln X 1 "many"
 yu:Ln X 2 "box"
 UP:Ln X 3 "far"
 aS:Gl X "_law_take"
 dY:QK X CL "_law_take" 1 2 k7 pre_take k9 k8
def amR(E:amQ X CL) :
  r4 X CL b Td X1 AY vU vV vS:=by
 rintro⟨y,p,m⟩ h;dsimp [vU,vV,vS]at h ⊢;apply iM E.g E.yu (qX (Eb (Ep E.dY E.aS E.c7.1 rfl (pL Qea ao) Qed rfl) bF.m) rfl);apply iM E.g E.UP QcR;refine fq (gB (aF E.UP) ao).1 (λa=>?_) (λa=>aj ?_)
 .have a:=ko a;refine vv (pR (ds:=[.int (p7 m p),.int (xc m p % (2*10 ^ (9:Int).toNat+1)-10 ^ (9:Int).toNat)]) (fJ (v_ E.yu.1).m (fJ (Eb (Ep E.dY E.aS E.c7.1 rfl (pL (aH (alc ao (aH (yL ao ao ⟨Wp,Wp,Wp⟩)) (.inl ⟨Wp,Wp⟩))) ao) QcI rfl) ((yL ao ao ⟨Wp,Wp,Wp⟩)).m) tS)) aP) ⟨?_,?_⟩
  .unfold u7;rw[di a]
  .unfold pe;rw[di a];exact nU (ds:=[_])
 .have a:=l5 a;refine vv (pR (ds:=[.int (p7 m p),.int (xc m p % 7-3)]) (fJ (v_ E.yu.1).m (fJ (Eb QcR bF.m) tS)) aP) ⟨?_,?_⟩
  .unfold u7;rw[cq a]
  .unfold pe;rw[cq a];exact nU (ds:=[_])
def xx:FG X1 ["pot","many"] ["_law_take"] (ak Td):=fG
abbrev Te:=top 69
abbrev LW:=Addr×Int×Nat×At
noncomputable abbrev X0:At:=["pot","many","heard","way","box"]
noncomputable def AZ:LW->B2:=λ(y,p,m,hs)=>[.pin y Qhn,.sh Qc9,.sh Qh6]
def A0:LW->B2:=λ(y,p,m,hs)=>[.pin y (.lst [.sh (.int (z6 m hs p))]),.sh Qc9,.sh Qh6]
def A3:LW->Prop:=λ(y,p,m,hs)=>m<=10/\0<hs.length/\hs.length<=10
def A4:LW->T:=λ(y,p,m,hs)=>(.sh (pz m hs p).d:T)
structure amS(X:Cx)(CL:BC):Prop extends bI X where
 c7:Ln X 0 "pot"
 dM:Ln X 1 "many"
 jg:Ln X 2 "heard"
 eu:Ln X 3 "way"
 yu:Ln X 4 "box"
 aS:Gl X "_law_take"
 ny:Gl X "_law_term"
 aq1:Gl X "str"
 iY:Gl X "len"
 dY:QK X CL "_law_take" 1 2 k7 pre_take k9 k8
 Gb:QK X CL "_law_term" 2 2 AY vU vV vS
 Wk:nR X "str"
 iZ:nR X "len"
theorem amT(E:amS X CL) :
  r4 X CL b Te X0 AZ A3 A4 A0:=by
 rintro⟨y,p,m,hs⟩ h;obtain⟨hm,h0,h1⟩:=h;apply iM E.g E.eu QcR;refine fq (qW (iK (JG Qbg ao).1 (λj=>(jf (NN Qea ao).1)))) (λa=>?_) (λa=>aj ?_)
 .rw[lh]at a;have p1:=ko a.1;have e:p % 5<2/\0<m:=⟨p1,We⟩;apply iM E.g E.yu (Ep E.dY E.aS E.c7.1 rfl (v_ E.dM.1) Qed rfl);refine vv (pR (ds:=[.str _,.int _,.tup _]) (fJ fS.m (fJ (v_ E.yu.1).m (fJ (tf (y,(p / 5 / m),m) _ E.Gb E.ny QgB (show m<=10 by lia) rfl ⟨rfl,.inr rfl,trivial⟩) tS))) aP) ⟨?_,?_⟩
  .show T.sh _=T.sh _;unfold pz;rw[di e]
   try rfl
  .show Keeps _ [.pin y _,.sh _,.sh _];unfold z6;exact di e▸nU (ds:=[_,_])
 have c:¬ (p % 5<2/\0<m):=λ⟨f,i⟩=>by
  rw[lx f,lx (show 0<(m:Int) by lia)]at a;exact absurd a Wp
 refine fq (JG Qbg ao).1 (λa=>?_) (λa=>aj ?_)
 .have a:=ko a;have s0:=mu (p / 5) (b:=3) Wp;have cl:∀k:Nat,k<3->(toString (k:Int):Str).length<=2/\(k:Int).natAbs.log2<1920:=by decide +kernel
  obtain⟨sl,sg⟩:=cl (p / 5 % 3).toNat We;rw[show(((p / 5 % 3).toNat:Nat))=p / 5 % 3 by lia]at sl sg;refine vv (pR (ds:=[.str _,.str _,.tup _]) (fJ fS.m (fJ (abQ fS.m (abR E.Wk E.aq1 QcR sg) (by rw[mx];have h1:("w":Str).length=1:=Wl;lia)) (fJ (tf (y,(p / 5 / 3),m) _ E.Gb E.ny QgB (show m<=10 by lia) rfl ⟨rfl,.inr rfl,trivial⟩) tS))) aP) ⟨?_,?_⟩
  .show T.sh _=T.sh _;unfold pz;rw[cq c,di a]
   try rfl
  .show Keeps _ [.pin y _,.sh _,.sh _];unfold z6;rw[cq c,di a];exact nU (ds:=[_,_])
 have d:=l5 a;have g0:=mu (p / 5) (b:=hs.length) We;have g1:=l8 (p / 5) (b:=hs.length) We
 .refine vv (pR (ds:=[.str _,.str _]) (fJ fS.m (fJ (xj (v_ E.jg.1).m (Ep E.dY E.aS E.c7.1 rfl (jB (d8 ..) E.iZ (aF E.jg) E.iY) Qed rfl) (fH Str.empty g0 g1)) tS)) aP) ⟨?_,?_⟩
  .show T.sh _=T.sh _;unfold pz;rw[cq c,cq d]
   try rfl
  .show Keeps _ [.pin y _,.sh _,.sh _];unfold z6;rw[cq c,cq d];exact nU (ds:=[_,_])
def mV:FG X0 ["pot","many","heard"] ["_law_take","_law_term","str","len"] (ak Te):=fG
abbrev oQ:=top 72
abbrev t7:=Int×Nat×At
noncomputable abbrev A5:At:=["cell","many","heard","pot"]
noncomputable def pY:t7->BA:=λ(c,m,hs)=>[.int c,.int m,.lst (hs.map .str)]
def pZ:t7->Prop:=λ(c,m,hs)=>m<=10/\0<hs.length/\hs.length<=10
def p9:t7->T:=λ(c,m,hs)=>(.sh (.tup ((xl c m hs).map fB.d)):T)
structure LX(X:Cx)(CL:BC):Prop extends bI X where
 vJ:Ln X 0 "cell"
 dM:Ln X 1 "many"
 vW:yW X "many"
 jg:Ln X 2 "heard"
 t8:yW X "heard"
 c7:Ln X 3 "pot"
 Wm:yW X "pot"
 xA:Gl X "tuple"
 fD:Gl X "range"
 aS:Gl X "_law_take"
 xB:nR X "tuple"
 fE:nR X "range"
 dY:QK X CL "_law_take" 1 2 k7 pre_take k9 k8
 Tf:QK X CL "_law_deed" 3 3 AZ A3 A4 A0
theorem LY(E:LX X CL) :
  ni X CL b oQ A5 pY pZ p9:=by
 rintro⟨c,m,hs⟩ h;have q:=h;apply aM E.g E.c7 (aR (cJ (aY (D4 (aH (jK (aF E.vJ) (aH (yL ao ao ⟨Wp,Wp,Wp⟩)) Wp)) ao ⟨Wp,Wp⟩) bA) aP) rfl);refine Lc (i:=3) rfl λy=>?_;obtain⟨p,l⟩:∃p,p=c % 10 ^ (64:Int).toNat / 13:=⟨_,rfl⟩;show fh X CL b _ _ {nx:=_,rt:=λr _=>r=T.sh _,bk:=_,ct:=_};unfold xl;rw[← l];have s:=l8 p (b:=4) Wp;obtain⟨k,a⟩:∃k:Nat,k=[0,1,0,2].getD (p % 4).toNat 0:=⟨_,rfl⟩;have o:=by
  have:∀j,j<4->[0,1,0,2].getD j 0<=2:=by decide +kernel
  exact a▸this _ We
 rw[← a];refine vv (abU E.xB (qX (JV (n:=k) (i:=3) (λj=>.lst [.sh (.int (qr m hs _ j))]) (λj=>(pz m hs (qr m hs (p / 4) j)).d) QjW E.g.calm E.fE E.fD (qX (xj (dD (fO Qfe aP)).m QcR ?ix) rfl) We rfl Wp Wp (λC s0 u f0 t j f=>?Ca)) ?ceq) (dX sF _) E.xA) rfl
 case Ca=>
  exact tf (y,qr m hs _ j,m,hs) _ (Ff E.Tf) uV Qkk q rfl ⟨rfl,.inr rfl,trivial⟩
 case ceq=>
  unfold ZQ;rw[kq,kq];rfl
 case ix=>
  obtain⟨j,f⟩:∃j:Nat,p % 4=j:=⟨(p % 4).toNat,We⟩;have e:j<4:=by lia
  rw[f,ke]at a;rw[f,a]
  match j,e with
  | 0,_=>rfl
  | 1,_=>rfl
  | 2,_=>rfl
  | 3,_=>rfl
def dU:N9 (ak oQ) ([("cell",cZ),("many",.cell),("heard",.cell),("pot",.cell),("tuple",bX),("range",bX),("_law_take",bX)])=true:=by decide +kernel
def Iq:cU A5 ["cell","many","heard"] (ak oQ):=jC
abbrev Nd:=top 70
abbrev Wn:=Addr×Int×Nat×Nat
noncomputable abbrev Us:At:=["pot","many","moods","way","one"]
noncomputable def LZ:Wn->B2:=λ(y,p,m,n)=>[.pin y Qhn,.sh Qc9,.sh Qex]
def L0:Wn->B2:=λ(y,p,m,n)=>[.pin y (.lst [.sh (.int (JO m n p))]),.sh Qc9,.sh Qex]
def L4:Wn->Prop:=λ(y,p,m,n)=>m<=10/\0<n/\n<=100
def L5:Wn->T:=λ(y,p,m,n)=>(.sh (tX (tj m n p)):T)
structure aq3(X:Cx)(CL:BC):Prop extends bI X where
 c7:Ln X 0 "pot"
 dM:Ln X 1 "many"
 fP:Ln X 2 "moods"
 eu:Ln X 3 "way"
 lg:Ln X 4 "one"
 aS:Gl X "_law_take"
 ny:Gl X "_law_term"
 dY:QK X CL "_law_take" 1 2 k7 pre_take k9 k8
 Gb:QK X CL "_law_term" 2 2 AY vU vV vS
theorem aq4(E:aq3 X CL) :
  r4 X CL b Nd Us LZ L4 L5 L0:=by
 rintro⟨y,p,m,n⟩ h;obtain⟨hm,h0,h1⟩:=h;have w0:=mu p (b:=6) Wp;apply iM E.g E.eu QcR;refine fq (JG Qbg ao).1 (λa=>?_) (λa=>aj ?_)
 .have a:=ko a;refine vv (pR (ds:=[.str _,.int _]) (fJ (cM (bJ (bS (fO (qz (l:=(["open","shut"])) rfl) aP)) Qbg (fH Str.empty w0 (a))) rfl).m (fJ (Ep E.dY E.aS E.c7.1 rfl (v_ E.fP.1) Qed rfl) tS)) aP) ⟨?_,?_⟩
  .show T.sh _=T.sh _;unfold tj;have:p % 6=0\/p % 6=1:=by lia
   obtain z|z:=this<;>rw[z]<;>rfl
  .show Keeps _ [.pin y _,.sh _,.sh _];unfold JO;exact di a▸nU (ds:=[_,_])
 have c:=l5 a;refine iM E.g E.lg (tf (y,(p / 6),m) _ E.Gb E.ny QgB (show m<=10 by lia) rfl ⟨rfl,.inr rfl,trivial⟩) ?_;refine vv (pR (ds:=[.str _,.tup _,.tup _]) (fJ (cM (bJ (bS (fO (qz rfl) aP)) (aH (KN Qbg ao)) (fH Str.empty We (show p % 6-2<4 by lia))) rfl).m (fJ (v_ E.lg.1).m (fJ (tf (y,(pe m _),m) _ E.Gb E.ny QgB (show m<=10 by lia) rfl ⟨rfl,.inr rfl,trivial⟩) tS))) aP) ⟨?_,?_⟩
 .show T.sh _=T.sh _;unfold tj;rw[cq c];rfl
 .show Keeps _ [.pin y _,.sh _,.sh _];unfold JO;exact cq c▸nU (ds:=[_,_])
def vX:FG Us ["pot","many","moods"] ["_law_take","_law_term"] (ak Nd):=fG
abbrev Wo:=top 71
abbrev Na:=Int×AT×Nat×At×Nat
noncomputable abbrev T2:At:=["cell","elders","many","heard","style","pot","moods","source","sign","target","mode","asks","deeds"]
noncomputable def L6:Na->BA:=λ(c,es,m,hs,st)=>[.int c,.lst Qcm,.int m,.lst (hs.map .str),.int st]
def L7:Na->Prop:=λ(c,es,m,hs,st)=>m<=10/\0<hs.length/\hs.length<=10/\0<es.length/\es.length<=100/\(st=1->es=E7)
def L8:Na->T:=λ(c,es,m,hs,st)=>(.sh (gO (n8 c es.length m hs st)):T)
structure aq5(X:Cx)(CL:BC):Prop extends bI X where
 vJ:Ln X 0 "cell"
 eU:Ln X 1 "elders"
 F9:yW X "elders"
 dM:Ln X 2 "many"
 vW:yW X "many"
 jg:Ln X 3 "heard"
 t8:yW X "heard"
 iU:Ln X 4 "style"
 c7:Ln X 5 "pot"
 Wm:yW X "pot"
 fP:Ln X 6 "moods"
 ahk:yW X "moods"
 vY:Ln X 7 "source"
 adz:yW X "source"
 lq:Ln X 8 "sign"
 lu:Ln X 9 "target"
 k6:Ln X 10 "mode"
 zo:Ln X 11 "asks"
 A6:Ln X 12 "deeds"
 iY:Gl X "len"
 aS:Gl X "_law_take"
 fD:Gl X "range"
 xA:Gl X "tuple"
 iZ:nR X "len"
 dY:QK X CL "_law_take" 1 2 k7 pre_take k9 k8
 fE:nR X "range"
 xB:nR X "tuple"
 aq6:QK X CL "_law_ask" 3 3 LZ L4 L5 L0
 Tf:QK X CL "_law_deed" 3 3 AZ A3 A4 A0
theorem aq7(E:aq5 X CL) :
  ni X CL b Wo T2 L6 L7 L8:=by
 rintro⟨c,es,m,hs,st⟩ h;obtain⟨hm,h0,h1,n0,n1,hE⟩:=h;obtain⟨n,R⟩:∃n,n=es.length:=⟨_,rfl⟩;have F:st=1->n=7:=λe=>by rw[R,hE e];rfl
 have I:=ac0 (c:=c) (st:=st) (n:=n) We F;have H:=λe=>(ac1 (c:=c) (n:=n) (st:=st) e 0).1;have q:n8 c n m hs st=⟨ZR c n st,_,_,_,oa c n hs st,sk c n hs st⟩:=rfl;have P:u4 c n hs<=2:=by
  have:∀j:Nat,j<4->JP.getD j 0<=2:=by decide +kernel
  exact this _ We
 have r:y6 c n m hs % 3=(zd c n m hs:Nat):=by
  unfold zd;lia
 have o:ZR c n st=if st=1 then sm.getD _ 0 else c % 10 ^ (64:Int).toNat % (n:Int):=rfl
 have e1:w8 c n=c % 10 ^ (64:Int).toNat / (n:Int):=rfl;have e2:u3 c n hs=w8 c n / (hs.length:Int):=rfl;have e0:pd c n hs=u3 c n hs % ((n:Int)+1)-1:=rfl;have e3:w7 c n hs=u3 c n hs / ((n:Int)+1):=rfl;have f:oa c n hs st=if st=1/\pd c n hs % 2=0 then(ti (ZR c n st)).getD (pd c n hs / 2 % 2).toNat 0 else pd c n hs:=rfl
 have J:sk c n hs st=if oa c n hs st=-1 then("new":Str) else zr.getD (w7 c n hs % 3).toNat Str.empty:=rfl
 have Y:w4 c n hs=w7 c n hs / 3:=rfl;have s:u4 c n hs=JP.getD (w4 c n hs % 4).toNat 0:=rfl;have W:y8 c n hs=w4 c n hs / 4:=rfl;have L:y6 c n m hs=tq m n (y8 c n hs) (u4 c n hs):=rfl;generalize zd c n m hs=G at q r;generalize y6 c n m hs=t at q r L;generalize u4 c n hs=an at q P s L;generalize y8 c n hs=u at q W L;generalize w4 c n hs=w at Y s W;generalize sk c n hs st=mo at q J;generalize w7 c n hs=v at e3 J Y;generalize oa c n hs st=tg at q f J;generalize pd c n hs=t0 at e0 f;generalize w8 c n=N at q e1 e2;generalize ZR c n st=k at q o f I H;obtain⟨z,B⟩:∃p,p=c % 10 ^ (64:Int).toNat:=⟨_,rfl⟩;rw[← B]at o e1;refine aM E.g E.c7 (aR (cJ (aY (jK (aF E.vJ) (aH (yL ao ao ⟨Wp,Wp,Wp⟩)) Wp) bA) aP) (t2:=.lst [.sh (.int z)]) (by rw[B])) ?_;refine Lc (i:=5) rfl λy=>?_;refine aM E.g E.fP (aR (jB (d8 ..) E.iZ Qe2 E.iY) (t2:=.sh (.int (n:Nat))) (by rw[R])) ?_;show fh X CL b _ [some QeJ,some Qcl,some QbI,some QeU,some Qa6,some (.pin y (.lst [.sh (.int z)])),some Qbt,none,none,none,none,none,none] {nx:=_,rt:=λR4 _=>R4=T.sh (gO (n8 c es.length m hs st)),bk:=_,ct:=_};rw[← R]at n0 n1 ⊢;have g0:=mu (N) (b:=(hs.length:Int)) We;have g1:=l8 (N) (b:=(hs.length:Int)) We;have m0:=mu (v) (b:=3) Wp;have m1:=l8 (v) (b:=3) Wp;refine iM E.g E.vY (Ep E.dY E.aS E.c7.1 rfl (v_ E.fP.1) Qed e1) ?_;refine iM E.g E.lq (xj (v_ E.jg.1).m (Ep E.dY E.aS E.c7.1 rfl (jB (d8 ..) E.iZ (aF E.jg) E.iY) Qed e2) (fH Str.empty g0 g1)) ?_;refine iM E.g E.lu (qX (Eb (Ep E.dY E.aS E.c7.1 rfl (pL Qd4 ao) Qed e3) bF.m) (t2:=.sh (.int t0)) (by rw[e0])) ?_;show fh X CL b _ [some QeJ,some Qcl,some QbI,some QeU,some Qa6,some QiG,some Qbt,some (.sh (.int (z % (n:Int)))),some _,some (.sh (.int t0)),none,none,none] _;obtain⟨sg,A⟩:∃sg,sg=hs.getD (N % (hs.length:Int)).toNat Str.empty:=⟨_,rfl⟩;rw[← A];refine yi (λδ=>δ=[some QeJ,some Qcl,some QbI,some QeU,some Qa6,some QiG,some Qbt,some (.sh (.int (k))),some QfN,some (.sh (.int (t0))),none,none,none]) (gB QcC ao).1 (λa=>?_) (λa=>?_) ?_
 .have e:st=1:=by have:=ko a;lia
  have a0:=mu (z % (n:Int)) (b:=4) Wp;have a1:=l8 (z % (n:Int)) (b:=4) Wp;refine aM E.g E.vY (cM (bJ (bS (fO (ds:=sm.map .int) Qfe aP)) (aH (jK (aF E.vY) ao Wp)) (f7 (bs:=sm) a0 (show _<((4:Nat):Int) from a1))) rfl) (aj ?_);rw[o,di e];rfl
 .have e:¬ st=1:=by have:=l5 a;lia
  refine aj ?_;rw[o,cq e]
 rintro δ rfl;have u0:=mu (t0 / 2) (b:=2) Wp;have u1:=l8 (t0 / 2) (b:=2) Wp;refine yi (λδ=>δ=[some QeJ,some Qcl,some QbI,some QeU,some Qa6,some QiG,some Qbt,some (.sh (.int (k))),some QfN,some (.sh (.int (tg))),none,none,none]) (qW (iK (gB QcC ao).1 (λV=>(jf (gB (aH (jK (aF E.lu) ao Wp)) ao).1)))) (λa=>?_) (λa=>?_) ?_
 .rw[lh]at a;have e:st=1:=by have:=ko a.1;lia
  have ev:=ko a.2;have K:=hE e;have V:=H e;have O:k<7:=by have:=F e;lia
  obtain⟨bl,OJ⟩:∃bl,bl=ti k:=⟨_,rfl⟩;rw[← OJ]at V f;obtain⟨M,Z⟩:∃x,x=E7.getD k.toNat 0:=⟨_,rfl⟩;refine aM E.g E.lu (cM (bJ (bS (aR (oH (p:=λd=>decide (E7.getD d.yb.toNat 0=M)) (g:=λd=>T.sh d) (bM (.cons E.eU.1 (.inl E.F9) (.cons E.vY.1 (.inl E.adz) .nil)) Wl) E.g.calm (pN E.fE ao We E.fD) QaH (λC s0 H0 f0 b' d hd=>?Ca) (by simp[d9,mx])) ?ceq)) (aH (jK (aH (D4 (aF E.lu) ao ⟨Wp,Wp⟩)) ao Wp)) (f7 (bs:=bl) u0 (by rw[V];exact u1))) rfl) (aj ?_)
  case Ca=>
   obtain⟨i,hi,rfl⟩:=j0.1 hd;have hi:=mN.1 hi;have hi:i<7:=hi;exact⟨(gB (Dd (bJ (gC 1) (kD 0) (f7 (show(0:Int)<=0+(i:Int) by lia) (show 0+(i:Int)<es.length by rw[K];show 0+(i:Int)<7;lia))) (by rw[K];rfl)) (Dd (bJ (gC 1) (gC 2) (f7 I.1 (show k<es.length by rw[K];exact O))) (by rw[K,Z]))).1,λ_=>v_ (Fi 0)⟩
  case ceq=>
   refine congrArg T.lst ?_;rw[OJ];unfold ti d9;rw[← Z,q9,kq,kq,kq];have e1:((λd:D=>decide (E7.getD d.yb.toNat 0=M))∘λ(i:Nat)=>D.int (0+(i:Int)))=λ(i:Nat)=>decide (E7.getD i 0=M):=by
    funext i;show decide (E7.getD (0+(i:Int)).toNat 0=_)=_;rw[rF,ke]
   rw[e1];exact nz λi _=>by
    show T.sh (.int (0+(i:Int)))=T.sh (.int (i:Int));rw[rF]
  rw[f,di ⟨e,ev⟩];rfl
 .refine aj ?_;rw[f,cq λ⟨z1,z2⟩=>by rw[lx (show(st:Int)=1 by lia),lx z2]at a;exact absurd a Wp]
 rintro δ rfl;refine iM E.g E.k6 (xj (dD (fO (qz (l:=zr) rfl) aP)).m (Ep E.dY E.aS E.c7.1 rfl bF QcI Y) (fH Str.empty (l:=zr) m0 (show v % 3<3 from m1))) ?_;show fh X CL b _ [some QeJ,some Qcl,some QbI,some QeU,some Qa6,some (.pin y (.lst [.sh (.int w)])),some Qbt,some QeI,some QfN,some (.sh (.int tg)),some _,none,none] _;refine yi (λδ=>δ=[some QeJ,some Qcl,some QbI,some QeU,some Qa6,some (.pin y (.lst [.sh (.int w)])),some Qbt,some (.sh (.int (k))),some QfN,some (.sh (.int (tg))),some (.sh (.str (mo))),none,none]) (gB (aF E.lu) Qbf).1 (λa=>?_) (λa=>?_) ?_
 .refine aM E.g E.k6 fS (aj ?_);rw[J,di (ko a)];rfl
 .refine aj ?_;rw[J,cq (l5 a)]
 rintro δ rfl;refine VJ (n:=an) (i:=5) (y:=y) (λj=>.lst [.sh (.int (tq m n (u) j))]) (λj=>tX (tj m n (tq m n (u) j))) E.g E.zo (bM (.cons E.dM.1 (.inl E.vW) (.cons E.fP.1 (.inl E.ahk) (.cons E.c7.1 (.inl E.Wm) .nil))) Wl) E.fE E.fD (xj (dD (fO Qfe aP)).m (Ep E.dY E.aS E.c7.1 rfl bF QcI W) ?ix) We rfl Wp Wp (λC s0 H0 f0 b' j U=>?amU) ?rest (by exact jj rfl) QhC
 case ix=>
  show wV [D.int 0,.int 1,.int 1,.int 2] (w % 4)=some (.int (an:Nat));rw[s];obtain⟨j,U⟩:∃j:Nat,w % 4=j:=⟨(w % 4).toNat,We⟩;have S:j<4:=by lia
  rw[U,ke];refine dg ?_
  match j,S with
  | 0,_=>rfl
  | 1,_=>rfl
  | 2,_=>rfl
  | 3,_=>rfl
 case amU=>
  exact tf (y,tq m n (u) j,m,n) _ (Ff E.aq6) uV (An (HX 3) rfl (qD (v_ (HX 1)) (qD (v_ (HX 2)) tR))) ⟨hm,n0,n1⟩ rfl ⟨rfl,.inr rfl,trivial⟩
 case rest=>
 rw[← L];refine VJ (n:=G) (i:=5) (y:=y) (λj=>.lst [.sh (.int QjB)]) (λj=>(pz m hs QjB).d) E.g E.A6 QjW E.fE E.fD (qX QcR (t2:=.sh (.int (G:Nat))) (by rw[r])) We rfl Wp Wp (λC s0 H0 f0 b' j U=>?amV) ?ara (by exact jj rfl) QhC
 case amV=>
  exact tf (y,qr m hs (t / 3) j,m,hs) _ (Ff E.Tf) uV Qkk ⟨hm,h0,h1⟩ rfl ⟨rfl,.inr rfl,trivial⟩
 case ara=>
 have ea:((List.range an).map λj=>T.sh (tX (tj m n (tq m n (u) j))))=((FR m n (u) an).map tX).map T.sh:=by unfold FR;rw[kq,kq];rfl
 have ed:((List.range G).map λj=>T.sh (pz m hs QjB).d)=((ZQ m hs (t / 3) G).map fB.d).map T.sh:=by unfold ZQ;rw[kq,kq];rfl
 rw[ea,ed];exact bB (aR (je (ds:=[.int (k),.str sg,.tup ((FR m n (u) an).map tX),.tup ((ZQ m hs (t / 3) G).map fB.d),.int (tg),.str (mo)]) (aE (v_ E.vY.1) (aE (v_ E.lq.1) (aE (BZ E.xB (vL E.zo.1) (dX FQ _) E.xA) (aE (BZ E.xB (vL E.A6.1) (dX sF _) E.xA) (aE (v_ E.lu.1) (aE (v_ E.k6.1) f9)))))) aP) (by rw[q,A];rfl)) rfl
def gH:N9 (ak Wo) ([("cell",cZ),("elders",.cell),("many",.cell),("heard",.cell),("style",cZ),("pot",.cell),("moods",.cell),("source",.cell),("sign",cZ),("target",cZ),("mode",cZ),("asks",cZ),("deeds",cZ),("len",bX),("_law_take",bX),("range",bX),("tuple",bX)])=true:=by decide +kernel
def amW:cU T2 ["cell","elders","many","heard","style"] (ak Wo):=jC
theorem avb{l:QR}{k:Nat}{z:Int}(hz:z=(k:Int)):cutD l none (some z)=l.take k:=by
 subst hz;unfold cutD;have e1:HT.DG l.length 0 none=0:=rfl;have e2:HT.DG l.length l.length (some k)=min k l.length:=by
  unfold HT.DG;simp;lia
 rw[e1,e2];simp
def nW:CO:=[0,1,0,1,0,1,0,1]
def PC(c:CH):T:=.ins "Chart" Qj0
def YN(c:CH):(PC c).gT=c.d:=by
 unfold PC CH.d;rw[FE,T.gT]
def Pd:∀k:Nat,k<100->((toString (k:Int):Str).length<=2/\(k:Int).natAbs.log2<1920):=by decide +kernel
abbrev Er:=top 73
abbrev Ma:=AT
noncomputable abbrev Wr:At:=["script","pot","style","moods","many","ways","heard","tree","boxes","ins","outs","drawn","names"]
noncomputable def xC:Ma->BA:=λs=>[.lst (s.map .int)]
def xD:Ma->Prop:=λs=>s.length<=1000
def xE:Ma->T:=λs=>(PC (qs nW 9 s):T)
structure ahl(X:Cx)(CL:BC):Prop extends bI X where
 bT:Ln X 0 "script"
 sL:yW X "script"
 c7:Ln X 1 "pot"
 iU:Ln X 2 "style"
 ahm:yW X "style"
 fP:Ln X 3 "moods"
 dM:Ln X 4 "many"
 vW:yW X "many"
 jO:Ln X 5 "ways"
 jg:Ln X 6 "heard"
 t8:yW X "heard"
 bE:Ln X 7 "tree"
 Ge:yW X "tree"
 cz:Ln X 8 "boxes"
 Wi:Ln X 9 "ins"
 LD:Ln X 10 "outs"
 Ws:Ln X 11 "drawn"
 Em:Ln X 12 "names"
 fL:Gl X "_law_cell_at"
 aS:Gl X "_law_take"
 PD:Gl X "_law_tree"
 iY:Gl X "len"
 fD:Gl X "range"
 LK:Gl X "Chart"
 eV:Gl X "sorted"
 gQ:Fc X CL "_law_cell_at" 1 2 kG kH kI
 dY:QK X CL "_law_take" 1 2 k7 pre_take k9 k8
 amX:Fc X CL "_law_tree" 3 3 F6 F7 F8
 iZ:nR X "len"
 fE:nR X "range"
 LN:Fm X CL "Chart" 1 7 pV pW pX
 eW:nR X "sorted"
 Wk:nR X "str"
 A7:Fc X CL "_law_some_deeds" 4 3 pY pZ p9
 arc:Fc X CL "_law_way" 4 5 L6 L7 L8
 bU:jJ X.K Qac
 bP:aD X.K Qac "kinds"
 ck:aD X.K Qac "elders"
 lam:XY X CL "#_law_chart.<locals>.<lambda>" "_law_chart.<locals>.<lambda>"
 dp:X.A.depth<recursionLimit
 rm:eG 4 X.A
theorem ahn(E:ahl X CL) :
  ni X CL b Er Wr xC xD xE:=by
 intro s h;dsimp only [xD,xC,xE]at h ⊢;have ab:s.length<=1000:=h;have z0:(0:Int)<=0:=by decide
 have G:1<=9/\9<=10:=by decide
 have nQ:=ac2 (SL:=nW) (s:=s) Wp;obtain⟨x,Oh,I⟩:=SN (SL:=nW) (mm:=9) (s:=s);have Px:=Tb (SL:=nW) (s:=s) G;obtain⟨ax,aw,H⟩:=SQ (SL:=nW) (s:=s) G;have ae:=XA (mm:=9) (s:=s);have aa:=Xt (mm:=9) (s:=s);obtain⟨Xj,hw⟩:=ac3 (SL:=nW) (s:=s) G;have i1:=(Ly (SL:=nW) (mm:=9) (s:=s) 1).2;have i2:=(Ly (SL:=nW) (mm:=9) (s:=s) 2).2;have DP:PC (qs nW 9 s)=.ins "Chart" (za (((List.range (SM 9 s)).map (x3 s)).map vC) (((List.range (tu nW 9 s).length).map zp).map .str) (.sh (cQ (Ek s (cst nW s) (tu nW 9 s) (tu nW 9 s).length) (tu nW 9 s) (Kc s (cst nW s) (tu nW 9 s) (tu nW 9 s).length))) ((q7 nW 9 s 1).map .tup) ((q7 nW 9 s 2).map .tup) ((vr nW 9 s).map gO)):=rfl;have n:vr nW 9 s=eS bG.src ((List.range (sy 9 s)).map λ(k:Nat)=>n8 Qcp (tu nW 9 s).length (SM 9 s) (Wc nW 9 s) (cst nW s)):=rfl;have u:∀j,q7 nW 9 s j=(List.range (tu nW 9 s).length).map λ(k:Nat)=>(xl (dP s (j+(k:Int))) (SM 9 s) (Wc nW 9 s)).map fB.d:=λ_=>rfl;have F:tu nW 9 s=Il s (vx nW 9 s) (cst nW s):=rfl;have W:vu s=dP s 0 % 10 ^ (9:Int).toNat:=rfl;have L:cst nW s=nW.getD (vu s % 8).toNat 0:=rfl;have eq1:tc s=vu s / 8:=rfl;have N:((cmd 9 s:Nat):Int)=1+tc s % ((9:Nat):Int):=by unfold cmd;lia
 have eq2:x1 9 s=tc s / ((9:Nat):Int):=rfl;have M:((SM 9 s:Nat):Int)=x1 9 s % 4:=by unfold SM;lia
 have eq3:xI 9 s=x1 9 s / 4:=rfl;have K:((sy 9 s:Nat):Int)=2+xI 9 s % 7:=by unfold sy;lia
 have eq4:xy 9 s=xI 9 s / 7:=rfl;have O:Ar 9 s=p8.take (1+xy 9 s % 3).toNat:=rfl;have eq5:sT 9 s=xy 9 s / 3:=rfl;have r:Wc nW 9 s=if cst nW s=1/\0<sT 9 s % 3 then [("go":Str)] else Ar 9 s:=rfl
 have p:IF nW 9 s=if cst nW s=1 then sT 9 s / 3 else sT 9 s:=rfl
 have P:vx nW 9 s=if cst nW s=2 then(11+IF nW 9 s % 20).toNat else cmd 9 s:=rfl
 show fh X CL b _ _ {nx:=_,rt:=λR4 _=>R4=PC (qs nW 9 s),bk:=_,ct:=_};rw[DP];clear DP;generalize vr nW 9 s=ws at Xj hw n ⊢;generalize q7 nW 9 s=R at i1 i2 u ⊢;generalize tu nW 9 s=es at ax aw H hw n u F ⊢;generalize vx nW 9 s=mo at Px F P;generalize IF nW 9 s=q6 at p P;generalize Wc nW 9 s=t at x Oh I hw n u r;generalize sT 9 s=q5 at eq5 r p;generalize Ar 9 s=h0 at O r;generalize xy 9 s=q4 at eq4 O eq5;generalize sy 9 s=wn at aa n K;generalize xI 9 s=q3 at eq3 K eq4;generalize SM 9 s=a at ae i1 i2 hw n u M ⊢;generalize x1 9 s=q2 at eq2 M eq3;generalize cmd 9 s=md at N P;generalize tc s=q1 at eq1 N eq2;generalize cst nW s=st at nQ H n F L r p P ⊢;generalize vu s=S at W L eq1;have p4:a<=10/\0<t.length/\t.length<=10:=⟨We,x,We⟩;refine aM E.g E.c7 (aR (cJ (aY (jK (aH (c_ ((s,0)) E.gQ E.fL (ai Qcx (ai ao aG)) (z0) rfl)) (aH (yL ao ao ⟨Wp,Wp,Wp⟩)) Wp) bA) aP) (t2:=.lst [.sh (.int S)]) (by rw[W])) ?_;refine Lc (i:=1) rfl λy=>?_;have c0:=mu S (b:=8) Wp;have c1:=l8 S (b:=8) Wp;refine iM E.g E.iU (xj (dD (fO (ds:=[.int 0,.int 1,.int 0,.int 1,.int 0,.int 1,.int 0,.int 1]) (aE bF (aE bF (aE bF (aE bF Qfe)))) aP)).m (Ep E.dY E.aS E.c7.1 rfl bF QcI eq1) (show _=some (D.int (st:Nat)) from ?ix)) ?_
 case ix=>
  rw[L];obtain⟨j,hj⟩:∃j:Nat,S % 8=j:=⟨(S % 8).toNat,We⟩;have ag:j<8:=by lia
  rw[hj,ke];refine dg ?_
  match j,ag with
  | 0,_=>rfl
  | 1,_=>rfl
  | 2,_=>rfl
  | 3,_=>rfl
  | 4,_=>rfl
  | 5,_=>rfl
  | 6,_=>rfl
  | 7,_=>rfl
 refine iM E.g E.fP (qX (Ea bF.m (Ep E.dY E.aS E.c7.1 rfl bF QcI eq2)) (t2:=.sh (.int (md:Nat))) (by rw[N];rfl)) ?_;refine iM E.g E.dM (qX (Ep E.dY E.aS E.c7.1 rfl bF QcI eq3) (t2:=.sh (.int (a:Nat))) (by rw[M])) ?_;show fh X CL b _ [some QcU,some (.pin y (.lst [.sh (.int q3)])),some Qa6,some (.sh (.int md)),some QhS,none,none,none,none,none,none,none,none] _;refine iM E.g E.jO (qX (Ea bF.m (Ep E.dY E.aS E.c7.1 rfl bF QcI eq4)) (t2:=.sh (.int (wn:Nat))) (by rw[K])) ?_;have d0:=mu q4 (b:=3) Wp;have aI:cutD (p8.map D.str) none (some (1+q4 % 3))=h0.map D.str:=by
  rw[avb (k:=(1+q4 % 3).toNat) We,← List.map_take,O]
 refine iM E.g E.jg (qX (Yi (ds:=p8.map .str) (dD (fO (qz (l:=p8) rfl) aP)) (se _) (Ea bF.m (Ep E.dY E.aS E.c7.1 rfl bF QcI eq5))) (t2:=.lst ((h0.map .str).map T.sh)) (by rw[aI])) ?_;show fh X CL b _ [some QcU,some (.pin y (.lst [.sh (.int q5)])),some Qa6,some (.sh (.int md)),some QhS,some (.sh (.int wn)),some (.lst ((h0.map .str).map T.sh)),none,none,none,none,none,none] _;refine L1 (λδ=>δ=[some QcU,some (.pin y (.lst [.sh (.int q6)])),some Qa6,some (.sh (.int md)),some QhS,some (.sh (.int wn)),some (.lst ((t.map .str).map T.sh)),none,none,none,none,none,none]) ?k1 (λk=>?i1)
 case i1=>
  by_cases e:st=1
  .rw[di e]at p;refine aqh (aqg (abY (Yh (gB QcC ao).1 (lx (show(st:Int)=1 by lia))) (abX (agw (Ep E.dY E.aS E.c7.1 rfl bF QcI p) ao)))) (λA=>?_) (λA=>aj (k _ ?_))
   .refine aM E.g E.jg (fO (ds:=[.str "go"]) (aE fS f9) aP) (aj (k _ ?_));rw[r,di ⟨e,ko A⟩];rfl
   .rw[r,cq λz=>absurd z.2 (l5 A)];rfl
  .rw[cq e]at p;refine fq (qW (iK (q:=false) (Yh (gB QcC ao).1 (ky (show ¬ (st:Int)=1 by lia))) (λz=>by cases z))) (λA=>by cases A) (λ_=>aj (k _ ?_));rw[r,cq λz=>e z.1,p]
 case k1=>
 rintro δ rfl;refine L1 (λδ=>∃o,δ=[some QcU,o,some Qa6,some (.sh (.int mo)),some QhS,some (.sh (.int wn)),some (.lst ((t.map .str).map T.sh)),none,none,none,none,none,none]) ?k2 (λk=>?i2)
 case i2=>
  refine fq (gB QcC ao).1 (λA=>?_) (λA=>aj (k _ ⟨some (.pin y (.lst [.sh (.int q6)])),?_⟩))
  .have e:st=2:=by have:=ko A;lia
   rw[di e]at P;refine iM E.g E.fP (qX (Ea bF.m QcR) (t2:=.sh (.int (mo:Nat))) (by rw[show((mo:Nat):Int)=11+q6 % 20 by lia])) (aj (k _ ⟨_,rfl⟩))
  .have e:¬ st=2:=by have:=l5 A;lia
   rw[cq e]at P;rw[P]
 case k2=>
 rintro δ ⟨o,rfl⟩;refine aM E.g E.bE (xg (aR (c_ (s,mo,st) E.amX E.PD Qk5 ⟨ab,We,We,nQ⟩ (Dl ..)) (t2:=.ins "Tree" (Av (Ek s st es es.length) es (Kc s st es es.length))) (by rw[F];rfl)) (Yk ..)) ?_;have HZ:((Ek s st es es.length).map D.str).length=es.length:=by unfold Ek;rw[d8,d8,m3]
 refine aM E.g E.fP (jB HZ E.iZ QdD E.iY) ?_;refine TU (i:=6) (d:=.lst (t.map .str)) rfl (fz _) ?_;refine Fj vC (x3 s) E.g E.cz (bM (.cons E.bT.1 (.inl E.sL) .nil) Wl) E.fE E.fD Qea We (λC s0 Z f0 Y i B=>?Ca) ?_
 case Ca=>
  obtain⟨sl,sg⟩:=Pd i We;have i0:=mu (i:Int) (b:=2) Wp;have ar:=(show ∀j:Nat,j<2->0<zv.getD j 0 by decide +kernel) ((i:Int) % 2).toNat We;refine aR (je (ds:=[.str (("b":Str)++(toString (i:Int):Str)),.int (dP s (10+(i:Int)) % 10 ^ (30:Int).toNat % zv.getD ((i:Int) % 2).toNat 0-2)]) (aE (aaN bK (aH (Vw E.Wk uV (kD 0) (by exact sg))) ((by rw[mx];have h1:("b":Str).length=1:=Wl;show("b":Str).length+(toString (i:Int):Str).length<=_;lia))) (aE (KN (aH (jK (aH (jK (aH (c_ ((s,10+(i:Int))) (jV E.gQ) uV (ai (gC 1) QgW) (show(0:Int)<=10+(i:Int) by lia) rfl)) (aH (yL ao ao ⟨Wp,Wp,Wp⟩)) Wp)) (bJ (bS (aR (cJ (aY bF (aY (yL ao ao ⟨Wp,Wp,Wp⟩) bA)) aP) (t2:=.lst ((zv.map D.int).map T.sh)) rfl)) (aH (jK (kD 0) ao Wp)) (f7 (bs:=zv) i0 (show(i:Int) % 2<2 by lia))) ar)) ao) f9)) aP) ?_;rw[show((i:Int) % 2).toNat=i % 2 by lia];rfl
 refine Fj .tup (λk=>(xl (dP s (1+(k:Int))) a t).map fB.d) E.g E.Wi QjX E.fE E.fD Qd4 We (λC s0 Z f0 Y i B=>aR (c_ ((dP s (1+(i:Int)),a,t)) (jV E.A7) uV (ai (aH (c_ ((s,1+(i:Int))) (jV E.gQ) uV (ai (gC 3) QgW) (show(0:Int)<=1+(i:Int) by lia) rfl)) (ai (gC 2) (ai (gC 1) aG))) (p4) (dX sF _)) rfl) ?_;rw[← u 1];refine Fj .tup (λk=>(xl (dP s (2+(k:Int))) a t).map fB.d) E.g E.LD QjX E.fE E.fD Qd4 We (λC s0 Z f0 Y i B=>aR (c_ ((dP s (2+(i:Int)),a,t)) (jV E.A7) uV (ai (aH (c_ ((s,2+(i:Int))) (jV E.gQ) uV (ai (gC 3) QgW) (show(0:Int)<=2+(i:Int) by lia) rfl)) (ai (gC 2) (ai (gC 1) aG))) (p4) (dX sF _)) rfl) ?_;rw[← u 2];have J:st=1->es=E7:=H;refine Fj gO (λk=>n8 Qcp es.length a t st) E.g E.Ws (bM (.cons E.jg.1 (.inl E.t8) (.cons E.dM.1 (.inl E.vW) (.cons E.bT.1 (.inl E.sL) (.cons E.iU.1 (.inl E.ahm) (.cons E.bE.1 (.inl E.Ge) .nil))))) Wl) E.fE E.fD (aF E.jO) We (λC s0 Z f0 Y i B=>aR (c_ (dP s (13+(i:Int)),es,a,t,st) (jV E.arc) uV (ai (aH (c_ ((s,13+(i:Int))) (jV E.gQ) uV (ai (gC 3) QgW) (show(0:Int)<=13+(i:Int) by lia) rfl)) (ai (bN (by exact E.bU) (by exact E.ck) (gC 5) ju) (ai (gC 2) (ai (gC 1) (ai (gC 4) aG))))) ⟨p4.1,x,p4.2.2,We,We,J⟩ (AV (SR We (λe=>by rw[J e];rfl) x I).i)) rfl) ?_;have V:∀w∈(List.range wn).map λ(k:Nat)=>n8 Qcp es.length a t st,D.tG (gO w)=true:=λw hm=>by
  obtain⟨k,_,rfl⟩:=j0.1 hm;exact AV (SR We (λe=>by rw[J e];rfl) x I).i
 have U:(((List.range wn).map λ(k:Nat)=>n8 Qcp es.length a t st).map gO).length<64:=by rw[d8,d8,m3];lia
 generalize (List.range wn).map (λ(k:Nat)=>n8 Qcp es.length a t st)=dr at V U n ⊢;refine Fj .str zp E.g E.Em (bM .nil Wl) E.fE E.fD Qd4 We (λC s0 Z f0 Y i B=>?avl) ?_
 case avl=>
  obtain⟨sl,sg⟩:=Pd i We;exact aR (aaN bK (aH (Vw E.Wk uV (kD 0) (sg))) ((by rw[mx];have h1:("m":Str).length=1:=Wl;show("m":Str).length+(toString (i:Int):Str).length<=_;lia))) rfl
 have ib:D.bR (((List.range a).map (x3 s)).map vC)=true:=dX Qa0 _;have iw:D.bR QaV=true:=g7 λd hd=>by
  obtain⟨w,hm,rfl⟩:=j0.1 hd;exact AV (hw w hm).i
 have iT:∀j:Int,(∀l∈R j,(l.length<=2/\D.bR l=true)/\∀d∈l,YD a d)->D.bR ((R j).map D.tup)=true:=λj h=>g7 λd hd=>by
  obtain⟨l,hm,rfl⟩:=j0.1 hd;exact(h l hm).1.2
 refine bB (OT (f:="tree") (QI:=Ci (((List.range a).map (x3 s)).map vC) (((List.range es.length).map zp).map .str)) (XI:=Cj ((R 1).map .tup) ((R 2).map .tup) QaV) (λv=>(((List.range a).map (x3 s)).map vC,((List.range es.length).map zp).map .str,v,(R 1).map .tup,(R 2).map .tup,ws.map gO)) E.LN E.LK
  (Am (vL E.cz.1) (Am (vL E.Em.1) (Ot (v_ E.bE.1) (ai (vL E.Wi.1) (ai (vL E.LD.1) (ai (bS (aR (yS (y:="way") (g:=λd=>d.ox.yb) E.lam E.g E.dp E.eW E.eV (bM .nil Wl) (vL E.Ws.1) (g7 λd hd=>?tG) U (λf c s0 Z Y d hd=>?key)) (t2:=.lst ((ws.map gO).map T.sh)) ?eq)) aG))))))
  (λv=>rfl) (λv=>⟨ib,se _,iT 1 i1,iT 2 i2,iw⟩) (λv=>rfl) (AI ib (se _)) (AJ (iT 1 i1) (iT 2 i2) iw)) rfl
 case tG=>
  obtain⟨w,hm,rfl⟩:=j0.1 hd;exact V w hm
 case key=>
  obtain⟨w,hm,rfl⟩:=j0.1 hd;exact aX QiP ao rfl
 case eq=>
  rw[pH,n];rfl
def cD:N9 (ak Er) ([("script",.cell),("pot",cZ),("style",.cell),("moods",cZ),("many",.cell),("ways",cZ),("heard",.cell),("tree",.cell),("boxes",cZ),("ins",cZ),("outs",cZ),("drawn",cZ),("names",cZ),("_law_cell_at",bX),("_law_take",bX),("_law_tree",bX),("len",bX),("range",bX),("Chart",bX),("sorted",bX)])=true:=by decide +kernel
def PF:cU Wr ["script"] (ak Er):=jC
def xb(s:AT)(st mo:Nat):AT:=(List.range (min mo (s.length-st))).map λ(k:Nat)=>(oJ s (some ((st:Int)+(k:Int))) none (some (mo:Int))).sum
theorem aho(s:AT)(st mo:Nat):(xb s st mo).length<=s.length:=by unfold xb;simp;lia
abbrev Es:=top 78
abbrev Mb:=AT×Nat×Nat
abbrev Wt:At:=["script","start","most","many"]
noncomputable def Cy:Mb->BA:=λ(s,st,mo)=>[.lst (s.map .int),.int st,.int mo]
def Cz:Mb->Prop:=λ(s,st,mo)=>s.length<=63/\0<mo/\mo<=100/\st<=100
def xF:Mb->T:=λ(s,st,mo)=>(.lst (((xb s st mo).map .int).map T.sh):T)
structure ahp(X:Cx)(CL:BC):Prop extends bI X where
 bT:Ln X 0 "script"
 sL:yW X "script"
 t9:Ln X 1 "start"
 ahq:yW X "start"
 ZA:Ln X 2 "most"
 am0:yW X "most"
 dM:Ln X 3 "many"
 arf:Gl X "min"
 arh:Gl X "max"
 iY:Gl X "len"
 fD:Gl X "range"
 ari:nR X "min"
 arj:nR X "max"
 iZ:nR X "len"
 fE:nR X "range"
 ark:nR X "sum"
theorem ahr(E:ahp X CL) :
  ni X CL b Es Wt Cy Cz xF:=by
 rintro⟨s,st,mo⟩ h;dsimp [xF]at h ⊢;obtain⟨hs,c,a,e⟩:=h;refine aM E.g E.dM (aR (afX E.g E.ari E.arf (ai (aF E.ZA) (ai (aH (afY E.g E.arj E.arh (ai ao (ai (aH (KN (aH (jB (d8 ..) E.iZ Qcx E.iY)) (aF E.t9))) aG)))) aG))) (t2:=.sh (.int ((min mo (s.length-st):Nat)))) (by
  apply congrArg (λz=>T.sh _)
  all_goals lia)) ?_
 refine bB (aR (oH (p:=λ_=>true) (g:=λd=>T.sh (.int (oJ s (some (st+d.yb.toNat)) none (some mo)).sum)) (bM (.cons E.ZA.1 (.inl E.am0) (.cons E.bT.1 (.inl E.sL) (.cons E.t9.1 (.inl E.ahq) .nil))) Wl) E.g.calm (pN E.fE Qea We E.fD) QaH (λC s0 j f0 f d hd=>?Ca) (ml (cV (by simp[d9];lia)))) ?eq) rfl
 case Ca=>
  obtain⟨i,hi,rfl⟩:=j0.1 hd;have et:(D.int (0+i)).yb.toNat=i:=by show(0+(i:Int)).toNat=i;lia
  refine⟨rfl,λ_=>aR (af8 (afR E.g Wl) (E.ark) (bS (aR (Yg (gC 2) (b9 _) (tL (aH (pL (gC 3) (kD 0)))) wZ (tL (gC 1)) (λz=>by lia)) (by rw[abP]))) uV) ?_⟩;show T.sh _=T.sh _;rw[et,rF]
 case eq=>
  rw[qy];unfold d9 xb;rw[kq,kq,kq];congr 1;refine nz λk _=>?_;show T.sh (.int (oJ s (some (st+((0+(k:Int)).toNat))) _ _).sum)=_;rw[show(0+(k:Int)).toNat=k by lia];rfl
def jw:N9 (ak Es) ([("script",.cell),("start",.cell),("most",.cell),("many",cZ),("min",bX),("max",bX),("len",bX),("range",bX)])=true:=by decide +kernel
def adB:cU Wt ["script","start","most"] (ak Es):=jC
def Tg(l:BA):T:=.lst (l.map T.sh)
theorem ahs(n:Nat):HB (n+1) (-1)=some n:=by
 unfold HB;rw[cq Wp,di We];congr 1;lia
def avm{l:B2}{k u:T}(h:l[j]? = some k)(a:k.yT u=u):T.uU [.ix j] u (.lst l)=.lst (l.set j u):=by
 rw[T.uU];show(match l[j]? with|some k=>T.yT (.lst l) (T.K9 (.ix j) (.lst l) (T.uU [] u k))|none=>.lst l)=_;rw[h];show T.lst (l.set j (k.yT u))=_;rw[a]
abbrev Mf:=top 77
abbrev Mg:=BA
abbrev Wu:At:=["rows","steps","row"]
noncomputable def xG:Mg->BA:=λrows=>[.lst rows]
def xH:Mg->Prop:=λrows=>(∀d∈rows,pP d)/\rows.length<=900000
def xJ:Mg->T:=λrows=>(.lst ((stM rows).map Tg):T)
structure aht(X:Cx)(CL:BC):Prop extends bI X where
 cj:Ln X 0 "rows"
 jh:Ln X 1 "steps"
 iz:Ln X 2 "row"
theorem ahu(E:aht X CL) :
  ni X CL b Mf Wu xG xH xJ:=by
 intro rows h;dsimp only [xH,xG,xJ]at h ⊢;obtain⟨s,v⟩:=h;refine aM E.g E.jh (aR (cJ (aY Qd5 bA) aP) (t2:=.lst ((([]:Cl)++[[]]).map Tg)) rfl) ?_;refine gK E.g E.iz (λj δ=>∃(L:Cl) (l:BA) (c:ES),(Nz L l (rows.drop j)=stM rows/\L.length<=j/\l.length<=j)/\δ=[some (.sh (.lst rows)),some Qjb,c]) (dm (v_ E.cj.1)) ⟨[],[],_,⟨rfl,gZ _,gZ _⟩,rfl⟩ (λj δ ⟨_,_,_,_,e⟩=>by subst e;exact jj rfl) ?turn ?fin
 case turn=>
  rintro j d δ i ⟨L,l,c,⟨he,q,a⟩,rfl⟩;have u:=(kO.1 i).1;have m:rows.drop j=d::rows.drop QA:=by
   obtain⟨_,e⟩:=kO.1 i;rw[← e,x9 u]
  obtain⟨w,r,rfl,hw,_⟩:=s d (l6 i);rw[m,Nz]at he;refine L1 (λδ=>∃(L:Cl) (l:BA),(Nz L (l++[.tup (.str w::r)]) (rows.drop QA)=stM rows/\L.length<=j+1/\l.length<=j)/\δ=[some (.sh (.lst rows)),some Qjb,some (.sh Qc4)]) ?k1 (λk=>?i1)
  case i1=>
   refine fq (cW QfE bK).1 (λf=>?_) (λf=>?_)
   .rw[di (show xk Qc4=true from f)]at he;refine jt E.jh.1 rfl (aR Qd5 (t2:=Tg []) rfl) rfl (by rw[d8,kr,rr];lia) (aj (k _ ⟨L++[l],[],⟨he,by rw[kr,rr];lia,kn _⟩,?_⟩));rw[jI (l₁:=L++[l])];rfl
   .rw[cq (show ¬ xk Qc4=true fromλz=>absurd (f.symm.trans z) Wp)]at he;exact aj (k _ ⟨L,l,⟨he,We,a⟩,rfl⟩)
  case k1=>
  rintro δ ⟨L,l,⟨he,q,a⟩,rfl⟩;have o:((L++[l]).map Tg)[L.length]? = some (Tg l):=by
   rw[k4,Hk (gZ _),Nat.sub_self];rfl
  have n:T.nT [.ix L.length] Qjb=some (.lst (l.map T.sh)):=by
   show(((L++[l]).map Tg)[L.length]?).bind (T.nT [])=_;rw[o];rfl
  have t:HB ((L++[l]).map Tg).length (-1)=some L.length:=by rw[d8,kr];exact ahs _
  refine abK (p:=[.ix L.length]) (R1 (c6 E.jh.1 rfl) rfl rfl Qbf t) rfl n (v_ E.iz.1) rfl n (by rw[d8];lia) (aj ⟨L,l++[.tup (.str w::r)],some (.sh Qc4),⟨he,q,by rw[kr,rr];lia⟩,?_⟩);have es:(L.map Tg).length=L.length:=d8 ..;rw[avm o rfl,jI,jI,JU,El es];show [_,some (T.lst (L.map Tg++[T.lst (l.map T.sh++[T.sh Qc4])])),_]=[_,some (T.lst (L.map Tg++[T.lst ((l++[D.tup (.str w::r)]).map T.sh)])),_];rw[jI (l₁:=l)];rfl
 case fin=>
 rintro δ ⟨L,l,c,⟨he,_,_⟩,rfl⟩;rw[List.drop_length,Nz]at he;rw[he];exact bB (vM E.jh.1) rfl
def A8:FG Wu ["rows"] [] (ak Mf):=fG
def Wv{x:α}{l:QR}:cutD (x::l) (some 1) none=l:=by
 unfold cutD;have e1:HT.DG (x::l).length 0 (some 1)=1:=by
  unfold HT.DG;simp
 have e2:HT.DG (x::l).length (x::l).length none=(x::l).length:=rfl;rw[e1,e2];simp
abbrev A9:=top 75
abbrev Gf:=At×AT×AT×AT×Int
noncomputable abbrev PJ:At:=["tree","opens","mood"]
def ua:Gf->BA:=λ(ks,es,ss,O,m)=>[cQ ks es ss,.lst (O.map .int),.int m]
def uc:Gf->Prop:=λ(ks,es,ss,O,m)=>e7 es/\es.length<=1000/\O.length<=1000/\∀x∈O,0<=x/\x<es.length
def ud:Gf->T:=λ(ks,es,ss,O,m)=>(.lst (((vI es O m).map .int).map T.sh):T)
structure adC(X:Cx)(CL:BC):Prop extends bI X where
 bE:Ln X 0 "tree"
 Ge:yW X "tree"
 bQ:Ln X 1 "opens"
 bY:Ln X 2 "mood"
 Ti:yW X "mood"
 F5:Fc X CL "_law_line" 1 2 vK vN vO
 bU:jJ X.K Qac
 ck:aD X.K Qac "elders"
def adD(E:adC X CL) :
  ni X CL b A9 PJ ua uc ud:=by
 rintro⟨ks,es,ss,O,m⟩ h;dsimp only [uc,ua,ud]at h ⊢;obtain⟨f,i,a,j⟩:=h;refine bB (aR (oH (p:=λd=>decide (m∈bz es d.yb)) (g:=λd=>T.sh d) (bM (.cons E.bY.1 (.inl E.Ti) (.cons E.bE.1 (.inl E.Ge) .nil)) Wl) E.g.calm (dm Qgb) QaH (λC s0 n f0 k d hd=>?Ca) ?len) ?eq) rfl
 case Ca=>
  obtain⟨x,e,rfl⟩:=j0.1 hd;have c:=j x e;exact⟨(w9 (l:=bz es x) (gC 1) (bS (aR (vo (bS (c_ (es,x) (jV E.F5) uV (ai (bN (by exact E.bU) (by exact E.ck) (gC 2) ju) QhU) ⟨f,c.1,c.2,i⟩ (aL _))) (b9 _) (tL ao) wZ) (t2:=.lst (((bz es x).map .int).map T.sh)) (by rw[Af,Wv]))) rfl rfl).1,λ_=>v_ (Fi 0)⟩
 case len=>exact ml (cV (by rw[d8];exact a))
 case eq=>
  refine congrArg T.lst ?_;unfold vI;rw[q9,kq,kq];rfl
def sM:N9 (ak A9) ([("tree",.cell),("opens",cZ),("mood",.cell)])=true:=by decide +kernel
def YQ:cU PJ ["tree","opens","mood"] (ak A9):=jC
noncomputable def xn(bC:Bz)(ss l:AT)(k:Nat):Bool:=!(bC (l.getD Qaj 0) && !decide (ss.getD (l.getD Qaj 0).toNat 0=l.getD k 0))
theorem Ww{bC:Bz}{ss:AT}{m:Int}:∀{l:AT} {j:Nat},l[j]? = some m->(∀i,i<j->l[i]? ≠ some m)->pv bC ss m l=(List.range j).all (xn bC ss l)
 | [],j,h,_=>by cases h
 | [y],j,h,a=>by
  cases j with
  | zero=>rfl
  | succ j=>cases h
 | y::z::r,j,h,a=>by
  rw[pv];cases j with
  | zero=>
   cases h;rw[lx rfl];rfl
  | succ j=>
   have e:¬ y=m:=λe=>a 0 We (by rw[e];rfl);rw[ky e,Bool.false_or,Ww (l:=z::r) (j:=j) h λi hi=>a QaR We,List.range_succ_eq_map,wt,List.all_map];congr 1;show _=!(bC z && !decide QjA);cases bC z<;>cases decide QjA<;>rfl
theorem Gg{m:Int}:∀{l:AT},m∈l->∃j:Nat,l[j]? = some m/\∀i:Nat,i<j->l[i]? ≠ some m
 | x::l,h=>by
  by_cases e:x=m
  .exact⟨0,by rw[e];rfl,λi hi=>by lia⟩
  .obtain⟨j,h1,h2⟩:=Gg (l:=l) ((fV.1 h).resolve_left λz=>e z.symm);refine⟨j+1,h1,λi hi=>?_⟩;cases i with
   | zero=>intro z;exact e (l7 z)
   | succ i=>exact h2 i We
def sx(ks:At)(es ss:AT)(m:Int)(j:Nat):AT:=((List.range j).map λ(i:Nat)=>(i:Int)).filter λx=>decide (m∈bz es x)&&pv Qai ss m (x::bz es x)
def adE(ks:At)(es ss:AT)(m:Int)(j:Nat):sx ks es ss m QA=sx ks es ss m j++(if (decide (m∈bz es j)&&pv Qai ss m (j::bz es j))=true then [(j:Int)] else []):=by
 unfold sx;rw[y0,jI,mE];congr 1;rw[JU,GI,uk]
def ahv(ks:At)(es ss:AT)(m:Int)(j:Nat):(sx ks es ss m j).length<=j:=by
 unfold sx;refine kv (oI ..) ?_;rw[d8,m3];exact gZ _
abbrev s_fresh:=top 76
abbrev Mh:=At×AT×AT×Int
noncomputable abbrev Wx:At:=["tree","mood","found","one","chain","good","k"]
def xK:Mh->BA:=λ(ks,es,ss,m)=>[cQ ks es ss,.int m]
def xM:Mh->Prop:=λ(ks,es,ss,m)=>e7 es/\es.length<=1000/\ks.length=es.length/\ss.length=es.length
def xN:Mh->T:=λ(ks,es,ss,m)=>(.lst (((Iy ks es ss m).map .int).map T.sh):T)
structure ahw(X:Cx)(CL:BC):Prop extends bI X where
 bE:Ln X 0 "tree"
 bY:Ln X 1 "mood"
 dh:Ln X 2 "found"
 lg:Ln X 3 "one"
 gf:Ln X 4 "chain"
 Tj:Ln X 5 "good"
 Im:Ln X 6 "k"
 fD:Gl X "range"
 iY:Gl X "len"
 vP:Gl X "_law_line"
 fE:nR X "range"
 iZ:nR X "len"
 F5:Fc X CL "_law_line" 1 2 vK vN vO
 bU:jJ X.K Qac
 bP:aD X.K Qac "kinds"
 ck:aD X.K Qac "elders"
 jT:aD X.K Qac "starts"
theorem ahx(E:ahw X CL) :
  ni X CL b s_fresh Wx xK xM xN:=by
 rintro⟨ks,es,ss,m⟩ h;dsimp only [xM,xK,xN]at h ⊢;obtain⟨B,J,v,I⟩:=h;refine aM E.g E.dh (aR Qd5 (t2:=.lst (((sx ks es ss m 0).map .int).map T.sh)) rfl) ?_;refine gK E.g E.lg (λj δ=>∃(u t s a:ES),δ=[some (.sh QaU),some QbI,some QkC,u,t,s,a]) (pN E.fE (aH (jB (n:=es.length) (by rw[d8,v]) E.iZ QdD E.iY)) We E.fD) ⟨_,_,_,_,rfl⟩ (λj δ ⟨_,_,_,_,e⟩=>by subst e;exact jj rfl) ?turn ?fin
 case turn=>
  rintro j d δ w ⟨u,t,s,a,rfl⟩;obtain⟨K,rfl⟩:j<es.length/\d=.int (j:Int):=by
   unfold d9 at w;rw[k4]at w;obtain⟨i,hi,rfl⟩:=r0.1 w;obtain⟨h1,e⟩:=kO.1 hi;rw[List.getElem_range]at e;rw[m3]at h1;subst e;exact⟨We,by rw[rF]⟩
  have O:=λx (H:x∈bz es (j:Int))=>bf B (m:=(j:Int)) We We H;refine aM E.g E.gf (aR (c_ (es,(j:Int)) E.F5 E.vP (ai Qhd (ai Qb8 aG)) ⟨B,We,We,J⟩ (aL _)) (t2:=.lst ((((j:Int)::bz es (j:Int)).map .int).map T.sh)) rfl) ?_;rw[adE];have M:=ahv ks es ss m j;refine fq (w9 (l:=bz es (j:Int)) QaP (bS (aR (vo Qb3 (b9 _) (tL ao) wZ) (t2:=.lst (((bz es (j:Int)).map .int).map T.sh)) (by rw[Af,Wv]))) rfl rfl).1 (λr=>?_) (λr=>?_)
  .have hm:=ko r;rw[r,Bool.true_and];obtain⟨q,p,A⟩:=Gg (l:=(j:Int)::bz es (j:Int)) (i4 _ hm);rw[Ww p A];have f:=(kO.1 p).1;have o:∀i,i<((j:Int)::bz es (j:Int)).length->0<=((j:Int)::bz es (j:Int)).getD i 0/\((j:Int)::bz es (j:Int)).getD i 0<es.length:=λi hi=>by
    have:((j:Int)::bz es (j:Int)).getD i 0∈(j:Int)::bz es (j:Int):=getD_mem hi;obtain e|e:=fV.1 this
    .lia
    .have:=O _ e;lia
   have hlen:(bz es (j:Int)).length<=es.length+1:=tT QdT es (es.getD (j:Int).toNat 0);have N:q<=1000000:=by rw[lr]at f;lia
   generalize (j:Int)::bz es (j:Int)=l at p A f o ⊢;refine aM E.g E.Tj sd ?_;refine gK E.g E.Im (λi δ=>∃a:ES,δ=[some (.sh QaU),some QbI,some QkC,some (.sh QfS),some QgM,some (.sh (.bl ((List.range i).all (xn Qai ss l)))),a]) (pN E.fE (aH (OL Qb3 QaP p A)) We E.fD) ⟨_,rfl⟩ (λj δ ⟨_,e⟩=>by subst e;exact jj rfl) ?Gh ?fin2
   case Gh=>
    rintro i d δ hi ⟨a,rfl⟩;obtain⟨L,rfl⟩:i<q/\d=.int (i:Int):=by
     unfold d9 at hi;rw[k4]at hi;obtain⟨z,hz,rfl⟩:=r0.1 hi;obtain⟨h1,e⟩:=kO.1 hz;rw[List.getElem_range]at e;rw[m3]at h1;subst e;exact⟨We,by rw[rF]⟩
    have C:=o QaR We;have e1:((i:Int)+1).toNat=i+1:=by lia
    have e0:(i:Int).toNat=i:=by lia
    have F:wV QfW ((i:Int)+1)=some (.int (l.getD QaR 0)):=by
     have:=f7 (bs:=l) (k:=(i:Int)+1) We We
     rwa [e1]at this
    have y:wV QfW (i:Int)=some (.int (l.getD i 0)):=by
     have:=f7 (bs:=l) (k:=(i:Int)) We We
     rwa [e0]at this
    have G:(List.range QaR).all (xn Qai ss l)=((List.range i).all (xn Qai ss l)&&xn Qai ss l i):=by rw[y0,List.all_append,wt,List.all_nil,ui]
    rw[G];have fQ:xn Qai ss l i=!(decide (ks.getD (l.getD QaR 0).toNat Str.empty="one") && !decide (ss.getD (l.getD QaR 0).toNat 0=l.getD i 0)):=rfl;rw[fQ];refine fq (qW (iK (cW (bJ QdD (bJ Qb3 (aH (pL Qbv ao)) F) (fH Str.empty (l:=ks) C.1 We)) bK).1 (λ_=>jf (BU (bJ (bN E.bU E.jT QaO Dk) (bJ Qb3 (aH (pL Qbv ao)) F) (f7 (bs:=ss) C.1 We)) (bJ Qb3 Qbv y)).1))) (λc=>?_) (λc=>?_)
    .rw[c,Bool.not_true,FX];exact aM E.g E.Tj sd (aj (aj ⟨_,rfl⟩))
    .rw[c,Bool.not_false,ui];exact aj (aj ⟨_,rfl⟩)
   case fin2=>
    rintro δ ⟨a,rfl⟩;have e:(d9 0 ((q:Nat):Int).toNat).length=q:=by unfold d9;rw[d8,m3];rfl
    rw[e];refine fq (uN (v_ E.Tj.1)) (λc=>?_) (λc=>?_)
    .rw[c,di rfl];refine jt E.dh.1 rfl (v_ E.lg.1) rfl (by rw[d8,d8];lia) (aj (aj (aj ⟨some (.sh QfS),some QgM,some (.sh Qdl),a,?_⟩)));rw[jI,jI];rfl
    .rw[c,cq Wp,j2];exact aj (aj (aj ⟨_,_,_,_,rfl⟩))
  .rw[r,Bool.false_and,cq Wp,j2];exact aj (aj ⟨_,_,_,_,rfl⟩)
 case fin=>
 rintro δ ⟨u,t,s,a,rfl⟩;have e:(d9 0 ((es.length:Nat):Int).toNat).length=es.length:=by unfold d9;rw[d8,m3];rfl
 rw[e];exact bB (vM E.dh.1) rfl
def jx:FG Wx ["tree","mood"] ["range","len","_law_line"] (ak s_fresh):=fG
abbrev Et:=top 15
abbrev Mi:=At×AT×AT×Int
abbrev Wz:At:=["tree","mood"]
def xO:Mi->BA:=λ(ks,es,ss,m)=>[cQ ks es ss,.int m]
def pI:Mi->Prop:=λ(ks,es,ss,m)=>es.length<=1000
def xP:Mi->T:=λ(ks,es,ss,m)=>(.lst (((jl es m).map .int).map T.sh):T)
structure ahy(X:Cx)(CL:BC):Prop extends bI X where
 bE:Ln X 0 "tree"
 bY:Ln X 1 "mood"
 Ti:yW X "mood"
 vZ:Gl X "enumerate"
 v5:nR X "enumerate"
 bU:jJ X.K Qac
 ck:aD X.K Qac "elders"
def ahz(E:ahy X CL) :
  ni X CL b Et Wz xO pI xP:=by
 rintro⟨ks,es,ss,m⟩ h;refine bB (E2 (af5 (xs:=["place","elder"]) (.cons E.bY.1 (.inl E.Ti) .nil) Wl) E.g.calm
  (Ol 0 E.v5 (kT E.bU E.ck (v_ E.bE.1) ju) E.vZ) QaH (λC s0 c f0 a=>⟨VA (by show List.Nodup (["place","elder","mood"]:At);decide +kernel) E.g.calm (Ry rfl Wl) (Ry rfl Wl),λd hd=>?Ca⟩) (by rw[d8,m3];exact ml (cV h))) (congrArg _ (ab3 es m))
 case Ca=>
  obtain⟨i,hi,rfl⟩:=j0.1 hd;exact⟨_,rfl,rfl,(gB (kD 1) (gC 2)).1,λ_=>v_ (Fi 0)⟩
def Ba:N9 (ak Et) ([("tree",cZ),("mood",.cell),("enumerate",bX)])=true:=by decide +kernel
def adF:cU Wz ["tree","mood"] (ak Et):=jC
abbrev v7:=top 35
abbrev v8:=At×AT×AT×AT×Nat×Str
noncomputable abbrev Dw:At:=["tree","memory","mood","mode","kind"]
def rg:v8->BA:=λ(ks,es,ss,mem,m,mode)=>[cQ ks es ss,.lst Qc5,.int m,.str mode]
def rj:v8->Prop:=λ(ks,es,ss,mem,m,mode)=>es.length<=900/\ks.length=es.length/\ss.length=es.length/\mem.length=es.length/\m<es.length/\qY mode/\∀k:Nat,k<es.length->aZ ks k=true\/aq ks k=true\/ks.getD k Str.empty="one"
def mW:v8->T:=λ(ks,es,ss,mem,m,mode)=>(.lst (((Nv Qax QU es ss mem (ef mode || gM mode) m).map .int).map T.sh):T)
structure PL(X:Cx)(CL:BC):Prop extends bI X where
 bE:Ln X 0 "tree"
 c9:Ln X 1 "memory"
 bY:Ln X 2 "mood"
 k6:Ln X 3 "mode"
 Tp:Ln X 4 "kind"
 Bb:Gl X "inner"
 Mj:Fc X CL "inner" 1 2 xO pI xP
 bU:jJ X.K Qac
 bP:aD X.K Qac "kinds"
 jT:aD X.K Qac "starts"
theorem PN(E:PL X CL) :
  ni X CL b v7 Dw rg rj mW:=by
 rintro⟨ks,es,ss,mem,m,mode⟩ h;dsimp [mW]at h ⊢;obtain⟨l,n,hs,hm,k,j,i⟩:=h;apply aM E.g E.Tp (cM (bJ QdD QaP (fH _ We We)) rfl);refine fq (cW (aF E.Tp) bK).1 (λc=>?_) (λc=>aj ?_)
 .apply bB QaS;unfold Nv;rw[di (show aZ ks m=true from c)];rfl
 refine fq (cW (aF E.Tp) bK).1 (λd=>?_) (λd=>aj ?_)
 .apply bB (c_ ((ks,es,ss,(m:Int))) E.Mj E.Bb Qg6 ((by dsimp [pI];lia)) (aL _));unfold Nv;rw[cq (λz=>by rw[show aZ ks m=false from c]at z;cases z),di (show aq ks m=true from d)];rfl
 have key:Nv Qax QU es ss mem (ef mode || gM mode) m=[iI ss mem (ef mode || gM mode) m]:=by
  unfold Nv;rw[cq (λz=>by rw[show aZ ks m=false from c]at z;cases z),cq (λz=>by rw[show aq ks m=false from d]at z;cases z)]
 rw[key];have f:(ef mode || gM mode)=!decide (mode="new"):=by
  obtain e|e|e:=j<;>rw[e]<;>decide +kernel
 refine fq (qW (Vr (cW (aF E.k6) bK).1 (λo=>(Rn (gB (bJ QbK QaP (f7 We We)) Qbf).1)))) (λa=>?_) (λa=>aj ?_)
 .apply bB (fO (aE (cM (bJ (bN E.bU E.jT QaO Dk) QaP (f7 We We)) rfl) f9) aP);have e:iI ss mem (ef mode || gM mode) m=ss.getD (m:Int).toNat 0:=by
   unfold iI;rw[cq (λz=>by
    rw[f]at z;simp at a;obtain w|w:=a
    .rw[lx w]at z;cases z.1
    .exact z.2 w)]
  rw[e];rfl
 .apply bB (fO (aE (cM (bJ QbK QaP (f7 We We)) rfl) f9) aP);have e:iI ss mem (ef mode || gM mode) m=mem.getD (m:Int).toNat 0:=by
   unfold iI;simp at a;rw[di ⟨by rw[f,ky a.1];rfl,a.2⟩]
  rw[e];rfl
def iW:FG Dw ["tree","memory","mood","mode"] ["inner"] (ak v7):=fG
abbrev Gi:=top 34
abbrev Gj:=At×AT×AT×AT×Nat×Str
noncomputable abbrev PR:At:=["tree","memory","mood","mode","found","further","place"]
def qa:Gj->BA:=λ(ks,es,ss,mem,m,mode)=>[cQ ks es ss,.lst Qc5,.int m,.str mode]
def ki(dd:Nat):Gj->Prop:=λ(ks,es,ss,mem,m,mode)=>(es.length<=900/\ks.length=es.length/\ss.length=es.length/\mem.length=es.length/\m<es.length/\qY mode/\∀k:Nat,k<es.length->aZ ks k=true\/aq ks k=true\/ks.getD k Str.empty="one")/\cX Qax QU es ss mem/\es.length<=m+dd+1
def mj:Gj->T:=λ(ks,es,ss,mem,m,mode)=>(.lst (((HY ks es ss mem mode m).map .int).map T.sh):T)
structure adG(X:Cx)(CL:BC)(dd:Nat):Prop extends bI X where
 bE:Ln X 0 "tree"
 c9:Ln X 1 "memory"
 bY:Ln X 2 "mood"
 k6:Ln X 3 "mode"
 dh:Ln X 4 "found"
 Kf:Ln X 5 "further"
 jH:Ln X 6 "place"
 v9:Gl X "opened_in"
 ly:Gl X "opened"
 PV:Fc X CL "opened_in" 2 4 rg rj mW
 sN:∀d',d'<dd->Fc X CL "opened" (3+d') 4 qa (ki d') mj
theorem adH{dd:Nat}(E:adG X CL dd) :
  ni X CL b Gi PR qa (ki dd) mj:=by
 rintro⟨ks,es,ss,mem,m,mode⟩ h;dsimp [mj]at h ⊢;obtain⟨A,c,M⟩:=h;have x:=A;obtain⟨I,J,hs,hm,n,P,v⟩:=A;have u:HY ks es ss mem mode m=(m:Int)::(Nv Qax QU es ss mem (ef mode || gM mode) m).flatMap Qgl:=by
  unfold HY;rw[OV c _ QdT n We We,jm]
 rw[u];apply aM E.g E.dh (fO Qhx aP);refine aM E.g E.Kf (alf (t:=.sh (.str Qgs)) (cW (aF E.k6) bK).1 (λr=>aR fS (by rw[di (show ef mode=true from r)])) (λr=>aR fS (by rw[cq (λz=>by rw[show ef mode=false from r]at z;cases z)]))) ?_;have i:qY Qgs:=by
  split
  .exact .inr QaH
  .exact .inl rfl
 have l:ef Qgs=ef mode:=by
  cases e:ef mode with
  | true=>decide +kernel
  | false=>decide +kernel
 have C:gM Qgs=false:=by
  cases e:ef mode with
  | true=>decide +kernel
  | false=>decide +kernel
 generalize L:(if ef mode=true then("far":Str) else "new")=B at i l C ⊢;have f:∀p∈Nv _ _ es ss mem (ef mode || gM mode) m,p∈jl es m:=λp H=>sE c n H;have y:=AA c (far:=ef mode) (near:=gM mode) (d:=es.length+1) n;rw[jm]at y;generalize w:Nv _ _ es ss mem _ m=a at f y ⊢;refine gK E.g E.jH (λj δ=>∃o,δ=[some _,some _,some _,some _,some (.lst ((((m:Int)::(a.take j).flatMap (λp=>jm Qax QU es ss mem (ef mode) es.length false p)).map _).map _)),some _,o])
  (dm (dD (aR (t2:=T.lst ((a.map _).map _)) (c_ ((ks,es,ss,mem,m,mode)) E.PV E.v9 (ai QaO (ai QbK (ai QaP (ai (aF E.k6) aG)))) (x) (aL _)) (by rw[← w];rfl)))) ⟨_,rfl⟩ (λj δ ⟨_,e⟩=>by subst e;exact jj rfl) ?turn ?fin
 case turn=>
  rintro j d δ K ⟨o,rfl⟩;obtain⟨p,rfl,_,s,R,_,F⟩:=jL K;have O:=cu c.pre (f p s);obtain⟨q,rfl⟩:∃q:Nat,p=q:=⟨p.toNat,We⟩;have G:=AA c (far:=ef mode) (near:=false) (d:=es.length) (k:=q) We;have hpl:(((m:Int)::(a.take j).flatMap Qgl).length)<=es.length:=by
   refine kv ?_ y;apply Nat.succ_le_succ;have h2:=yU j a
   conv=>rhs;rw[← h2]
   rw[wj,kr];lia
  refine nV E.dh.1 rfl (bS (c_ (ks,es,ss,mem,q,B) (E.sN (dd-1) We) E.ly (ai QaO (ai QbK (ai (aF E.jH) (ai (aF E.Kf) aG)))) (⟨⟨I,J,hs,hm,We,i,v⟩,c,We⟩) (aL _))) (b9 _) rfl ?len (aj ?_)
  case len=>
   rw[d8,d8,d8];show _+(jm _ _ es ss mem _ _ _ q).length<=_;lia
  have N:(((m:Int)::(a.take j).flatMap Qgl).map D.int).map T.sh++((HY ks es ss mem B q).map D.int).map T.sh=(((m:Int)::(a.take QA).flatMap Qgl).map D.int).map T.sh:=by
   unfold HY;rw[l,C,F];simp
  rw[N];exact⟨_,rfl⟩
 case fin=>
  rintro δ ⟨o,rfl⟩;rw[d8,me];exact bB (vM E.dh.1) rfl
def iA:FG PR ["tree","memory","mood","mode"] ["opened_in","opened"] (ak Gi):=fG
abbrev CB:=top 47
abbrev CD:=BA×BA×D×Cl×BA×BA×AT
noncomputable abbrev Kg:At:=["chart","come","rows","mood"]
def qL:CD->BA:=λ(bs,nm,tr,is,os,ws,a)=>[iu bs nm tr (is.map .tup) os ws,.lst (a.map .int)]
def nA:CD->Prop:=λ(bs,nm,tr,is,os,ws,a)=>q8 is/\a.length<=1000/\∀m∈a,0<=m/\m<is.length
def nB:CD->T:=λ(bs,nm,tr,is,os,ws,a)=>(.lst ((inR is a).map T.sh):T)
structure YR(X:Cx)(CL:BC):Prop extends bI X where
 aC:Ln X 0 "chart"
 uf:Ln X 1 "come"
 cj:Ln X 2 "rows"
 bY:Ln X 3 "mood"
 az:jJ X.K QJ
 nu:aD X.K QJ "ins"
theorem YS(E:YR X CL) :
  ni X CL b CB Kg qL nA nB:=by
 rintro⟨bs,nm,tr,is,os,ws,a⟩ h;dsimp [nB]at h ⊢;obtain⟨c,p,n⟩:=h;apply aM E.g E.cj QaS;refine gK E.g E.bY (λj δ=>∃o,δ=[some _,some _,some (.lst ((inR is Qdm).map T.sh)),o])
  (dm (v_ E.uf.1)) ⟨_,rfl⟩ (λj δ ⟨_,e⟩=>by subst e;exact jj rfl) ?turn ?fin
 case turn=>
  rintro j d δ l ⟨o,rfl⟩;obtain⟨m,rfl,_,hm,q,_,f⟩:=jL l;obtain⟨m0,m1⟩:=n m hm;have k:=(FL c Qdm).1;have i:(a.take j).length<=j:=by simp;lia
  obtain⟨g1,g2⟩:=c.get _;apply jt E.cj.1 rfl (je (aE fS Qhx) aP) rfl (by rw[d8];lia);refine nV E.cj.1 rfl (bJ (bN E.az E.nu QaC JY) QaP (fH [] m0 m1)) g2 rfl (by rw[kr,d8,rr];lia) (aj ⟨some QbI,?_⟩);rw[f,aci,jI,jc];rfl
 case fin=>
  rintro δ ⟨o,rfl⟩;rw[d8,me];exact bB QdW rfl
def qb:FG Kg ["chart","come"] [] (ak CB):=fG
abbrev Ml:=top 42
abbrev Mm:=BA×BA×At×AT×AT×Cl×BA×BA
noncomputable abbrev WB:At:=["chart","memory","opens"]
def CF:Mm->BA:=λ(bs,nm,ks,es,ss,is,os,ws)=>[iu bs nm QaU (is.map .tup) os ws]
def CG:Mm->Prop:=λ(bs,nm,ks,es,ss,is,os,ws)=>nm.length=es.length/\0<es.length/\es.length<=40/\ks.length=es.length/\ss.length=es.length/\is.length=es.length/\q8 is/\(∀k:Nat,k<es.length->aZ ks k=true\/aq ks k=true\/ks.getD k Str.empty="one")/\cX Qax QU es ss Qcj
def xQ:Mm->T:=λ(bs,nm,ks,es,ss,is,os,ws)=>(.tup [.lst ((inR is (HY ks es ss Qcj "new" 0)).map T.sh),.lst (((HY ks es ss Qcj "new" 0).map .int).map T.sh),.lst (((List.replicate es.length (-1)).map .int).map T.sh)]:T)
structure ahA(X:Cx)(CL:BC):Prop extends bI X where
 aC:Ln X 0 "chart"
 c9:Ln X 1 "memory"
 bQ:Ln X 2 "opens"
 iY:Gl X "len"
 ly:Gl X "opened"
 sO:Gl X "in_rows"
 iZ:nR X "len"
 sN:Fc X CL "opened" 43 4 qa (ki 40) mj
 CJ:Fc X CL "in_rows" 1 2 qL nA nB
 az:jJ X.K QJ
 aV:aD X.K QJ "tree"
 jS:aD X.K QJ "names"
theorem ahB(E:ahA X CL) :
  ni X CL b Ml WB CF CG xQ:=by
 rintro⟨bs,nm,ks,es,ss,is,os,ws⟩ h;dsimp [xQ]at h ⊢;obtain⟨d,h0,l,k,hs,hi,i,e,f⟩:=h;apply aM E.g E.c9 (aR (agb (bS (fO (aE (gW ao) f9) aP)) (aH (jB d E.iZ (bN E.az E.jS QaC Dn) E.iY)) rfl We We (by rw[mx];simp;lia)) (by rw[acr]));have j:(List.replicate _ (-1)).length=es.length:=vT ..;apply aM E.g E.bQ (aR (c_ (ks,es,ss,List.replicate _ _,0,("new":Str)) E.sN E.ly (ai QcW (ai (vL E.c9.1) (ai ao (ai bK aG)))) (⟨⟨We,k,hs,j,h0,.inl rfl,e⟩,f,We⟩) (aL _)) (t2:=.lst _) rfl);have c:(HY ks es ss _ "new" 0).length<=es.length:=AA f h0;have a:∀m∈HY ks es ss _ "new" 0,0<=m/\m<is.length:=λm hm=>by
  have n:=aQ f _ h0 m hm;lia
 generalize HY ks es ss _ _ 0=ops at c a ⊢;exact bB (tH (aY (aR (c_ (bs,nm,cQ ks es ss,is,os,ws,ops) E.CJ E.sO (ai QaC (ai Qgc aG)) (⟨i,We,a⟩) (fc (FL i ops).2)) rfl) (aY (vM E.bQ.1) (aY (vM E.c9.1) bA))) aP) rfl
def qc:FG WB ["chart"] ["len","opened","in_rows"] (ak Ml):=fG
abbrev Gk:=top 9
abbrev Gm:=(List (Str×Int))×BA×D×BA×BA×BA
abbrev PX:At:=["chart"]
def zq:Gm->BA:=λ(bs,nm,tr,is,os,ws)=>[iu (bs.map vC) nm tr is os ws]
def ug:Gm->Prop:=λ(bs,nm,tr,is,os,ws)=>bs.length<=1000
noncomputable def uh:Gm->T:=λ(bs,nm,tr,is,os,ws)=>(.lst (((bs.map (·.2)).map D.int).map T.sh):T)
structure adI(X:Cx)(CL:BC):Prop extends bI X where
 aC:Ln X 0 "chart"
 az:jJ X.K QJ
 aK:jJ X.K Qag
 fC:aD X.K QJ "boxes"
 cC:aD X.K Qag "boxes"
def adJ(E:adI X CL) :
  ni X CL b Gk PX zq ug uh:=by
 rintro⟨bs,nm,tr,is,os,ws⟩ h;dsimp [ug,uh]at h ⊢;refine bB (oH (p:=λ_=>true) (g:=λd=>T.sh d.at2) (bM .nil Wl) E.g.calm (dm (kT E.az E.fC (v_ E.aC.1) Dm)) QaH (λC s0 e f0 c d hd=>?Ca) QeZ) ?eq
 case Ca=>
  obtain⟨p,a,rfl⟩:=j0.1 hd;exact⟨rfl,λ_=>cM (aX (kD 0) ao rfl) rfl⟩
 case eq=>
  apply(agN λp _=>rfl).trans;rw[kq,kq];rfl
def Kh:FG PX ["chart"] [] (ak Gk):=fG
abbrev Mp:=top 20
abbrev Mq:=Int×Int×AT
noncomputable abbrev WC:At:=["term","boxes","box","more"]
noncomputable def xR:Mq->BA:=λ(a,mo,bs)=>[.tup [.int a,.int mo],.lst QbV]
def sP:Mq->Prop:=λ(a,mo,bs)=>a=-1\/(0<=a/\a<bs.length)
def xS:Mq->T:=λ(a,mo,bs)=>(.sh (.int (pU a mo bs)):T)
structure ahC(X:Cx)(CL:BC):Prop extends bI X where
 Zs:Ln X 0 "term"
 cz:Ln X 1 "boxes"
 yu:Ln X 2 "box"
 Tq:Ln X 3 "more"
theorem ahD(E:ahC X CL) :
  ni X CL b Mp WC xR sP xS:=by
 rintro⟨c,mo,bs⟩ h;dsimp [sP]at h ⊢;apply aM E.g E.yu (cM (aX (aF E.Zs) ao rfl) rfl);apply aM E.g E.Tq (cM (aX (aF E.Zs) ao rfl) rfl);refine fq (gB (aF E.yu) Qbf).1 (λa=>?_) (λa=>?_)
 .apply bB (v_ E.Tq.1);have e:=ko a;show T.sh _=T.sh _;rw[pU,di e]
 .apply aj;have e:=l5 a;apply bB (pL (bJ (aF E.cz) (aF E.yu) (f7 We We)) (aF E.Tq));show T.sh _=T.sh _;rw[pU,cq e]
def wc:FG WC ["term","boxes"] [] (ak Mp):=fG
abbrev rq:=top 52
abbrev rA:=J×Bool×AT
abbrev yw:At:=["row","place","boxes","behind"]
def nX:rA->BA:=λ(r,back,bs)=>[r.d,.int QkU,.lst QbV]
def nY:rA->Prop:=λ(r,back,bs)=>∃o m,r.ok (o,m,bs)
def jW:rA->T:=λ(r,back,bs)=>(.lst (((Ic back r bs).map .int).map T.sh):T)
structure Ir(X:Cx)(CL:BC):Prop extends bI X where
 iz:Ln X 0 "row"
 jH:Ln X 1 "place"
 cz:Ln X 2 "boxes"
 cE:Ln X 3 "behind"
 dI:Gl X "list"
 dJ:nR X "list"
def Iu(E:Ir X CL) :
  ni X CL b rq yw nX nY jW:=by
 rintro⟨r,back,bs⟩ h;dsimp [jW]at h ⊢;obtain⟨o,m,h⟩:=h;apply aM E.g E.cE (vh E.dJ (v_ E.cz.1) E.dI cH);refine fq (cW (aX QdK ao (auX r)) bK).1 (λa=>?_) (λa=>aj ?_)
 .rw[auW h]at a;cases r with
  | put x p q=>
   have hlen:((bs.map D.int).map T.sh).length=bs.length:=by simp
   have c:wV [D.str "put",.int x,.int p,.int q] QkU=some (.int QiD):=by cases back<;>rfl
   refine B9 (cM (aX QdK (aF E.jH) c) rfl) (c6 E.cE.1 rfl) (aX QdK ao rfl) rfl rfl (aaY h.1 (hlen▸h.2)) (aj ?_);apply bB QfY;rw[Ic,List.map_set,List.map_set];rfl
  | _=>cases a
 .have e:Ic back r bs=bs:=by cases r<;>first|rfl|cases a
  apply bB QfY;rw[e]
def iB:FG yw ["row","place","boxes"] ["list"] (ak rq):=fG
abbrev Gn:=top 51
abbrev Gp:=J×AT
abbrev PY:At:=["row","boxes"]
def zu:Gp->BA:=λ(r,bs)=>[r.d,.lst QbV]
def zx:Gp->Prop:=λ(r,bs)=>∃o m,r.ok (o,m,bs)
def zy:Gp->T:=λ(r,bs)=>(.lst (((Ic false r bs).map .int).map T.sh):T)
structure adL(X:Cx)(CL:BC):Prop extends bI X where
 iz:Ln X 0 "row"
 cz:Ln X 1 "boxes"
 rB:Gl X "with_number"
 ahE:Gl X "AFTER"
 Iv:Fc X CL "with_number" 1 3 nX nY jW
 ahF:∃u,X.mg "AFTER" = some (.int 3 u)
def adM(E:adL X CL) :
  ni X CL b Gn PY zu zx zy:=by
 rintro⟨r,bs⟩ h;exact bB (c_ (r,false,bs) E.Iv E.rB (ai QdK (ai (aH (eO E.ahF E.ahE)) Qcq)) h (aL _)) rfl
def sQ:FG PY ["row","boxes"] ["with_number","AFTER"] (ak Gn):=fG
abbrev Tr:=top 50
abbrev Tt:=fB×AT
abbrev Zp:At:=["deed","boxes","word","row"]
def Gq:Tt->BA:=λ(q,bs)=>[q.d,.lst QbV]
def Gr:Tt->Prop:=λ(q,bs)=>q.ok bs
def Gs:Tt->T:=λ(q,bs)=>(.tup [.lst (((Ic false (q.row bs) bs).map .int).map T.sh),.sh (q.row bs).d]:T)
structure am1(X:Cx)(CL:BC):Prop extends bI X where
 jP:Ln X 0 "deed"
 cz:Ln X 1 "boxes"
 wg:Ln X 2 "word"
 iz:Ln X 3 "row"
 um:Gl X "value"
 Gu:Gl X "redone"
 Bc:Fc X CL "value" 1 2 xR sP xS
 adO:Fc X CL "redone" 2 2 zu zx zy
def am2(E:am1 X CL) :
  ni X CL b Tr Zp Gq Gr Gs:=by
 rintro⟨q,bs⟩ h;have n:(T.lst (((Ic false (q.row bs) bs).map _).map _)).clean=true:=wY▸qA _;have fin:∀(e:Str) (p1 p2 l k j i f o:Pos) (n1:Nat),fh X CL b [.Return (some (.Tuple [.Call (.Name _ p1) [.Name _ p2,.Name _ l] [] k,.Name _ j] n1 i)) f] [some (.sh q.d),some _,some (.sh (.str e)),some _] {nx:=λ_=>(T.tup [.lst (((Ic false (q.row bs) bs).map .int).map T.sh),.sh (q.row bs).d])=.sh .non,rt:=λt _=>t=.tup _}:=λe p1 p2 l k j i f o n1=>bB (tH (aY (c_ (q.row bs,bs) E.adO E.Gu (ai QdK Qcq) (ame h) n) (aY (v_ E.iz.1) bA)) aP) rfl;cases q with
 | put x c m=>
  apply aM E.g E.wg QhV;refine fq (cW (aF E.wg) bK).1 (λa=>?_) (λa=>absurd rfl (l5 a));refine aM E.g E.iz (je (ds:=[.str _,.int x,.int _,.int _]) (aY fS (aY Qjc (aY (cM (bJ (aF E.cz) QdC (f7 h.1.1 h.1.2)) rfl) (aY (c_ (c,m,bs) E.Bc E.um (ai QdC Qcq) h.2 rfl) bA)))) aP) (aj ?_);exact fin _ _ _ _ _ _ _ _ ⟨0,0,0,0⟩ _
 | call s=>
  apply aM E.g E.wg QhV;refine fq (cW (aF E.wg) bK).1 (λa=>absurd (show("call")="put" from ko a) Wl) (λa=>?_);refine fq (cW (aF E.wg) bK).1 (λa=>absurd (show("call")="say" from ko a) Wl) (λa=>?_);refine aM E.g E.iz (je (ds:=[.str _,.str s]) (aY fS (aY Qjc bA)) aP) (aj (aj ?_));exact fin _ _ _ _ _ _ _ _ ⟨0,0,0,0⟩ _
 | say s c m=>
  apply aM E.g E.wg QhV;refine fq (cW (aF E.wg) bK).1 (λa=>absurd (show("say")="put" from ko a) Wl) (λa=>?_);refine fq (cW (aF E.wg) bK).1 (λa=>?_) (λa=>absurd rfl (l5 a));refine aM E.g E.iz (je (ds:=[.str _,.str s,.int _]) (aY fS (aY Qjc (aY (c_ (c,m,bs) E.Bc E.um (ai QdC Qcq) h rfl) bA))) aP) (aj (aj ?_));exact fin _ _ _ _ _ _ _ _ ⟨0,0,0,0⟩ _
def uo:FG Zp ["deed","boxes"] ["value","redone"] (ak Tr):=fG
abbrev zA:=top 53
abbrev zB:=Bool×List fB×AT
abbrev Gv:At:=["deeds","boxes","behind","rows","called","deed","step"]
def uq:zB->BA:=λ(l,a,bs)=>[KW l (a.map fB.d),.lst QbV]
def oR:zB->Prop:=λ(l,a,bs)=>a.length<=1000/\∀q∈a,q.ok bs
def oS:zB->T:=λ(l,a,bs)=>(.tup [.lst (((a.foldl ZJ bs).map .int).map T.sh),.lst (((sG a bs).map J.d).map T.sh),.lst (((vF a).map .str).map T.sh)]:T)
structure Tv(X:Cx)(CL:BC):Prop extends bI X where
 A6:Ln X 0 "deeds"
 cz:Ln X 1 "boxes"
 cE:Ln X 2 "behind"
 cj:Ln X 3 "rows"
 lz:Ln X 4 "called"
 jP:Ln X 5 "deed"
 eK:Ln X 6 "step"
 dI:Gl X "list"
 Tw:Gl X "done"
 dJ:nR X "list"
 am3:Fc X CL "done" 3 2 Gq Gr Gs
theorem Tz(E:Tv X CL) :
  ni X CL b zA Gv uq oR oS:=by
 rintro⟨l,a,bs⟩ h;dsimp [oR]at h ⊢;apply aM E.g E.cE (vh E.dJ (v_ E.cz.1) E.dI cH);apply aM E.g E.cj Qd5;apply aM E.g E.lz Qd5;have u:∀(p y:Pos) (t r o i f:ES),Xr X CL b (.Name "deed" p) (.Name "deeds" y) [some (.sh (KW l (a.map fB.d))),some Qdh,t,r,o,i,f] (a.map fB.d) [some (.sh (KW l (a.map fB.d))),some Qdh,t,r,o,i,f]:=by
  intro p y t r o i f;cases l
  .exact EX (v_ E.A6.1)
  .exact dm (v_ E.A6.1)
 refine gK E.g E.jP (λj δ=>∃i f,δ=[some _,some _,some (.lst ((((a.take j).foldl ZJ bs).map _).map T.sh)),some (.lst (((sG Qdm bs).map J.d).map T.sh)),some (.lst (((vF Qdm).map .str).map T.sh)),i,f]) (u _ _ _ _ _ _ _) ⟨_,_,rfl⟩ (λj δ ⟨_,_,e⟩=>by subst e;exact jj rfl) ?turn ?fin
 case turn=>
  rintro j d δ z ⟨i,f,rfl⟩;rw[k4]at z;obtain⟨q,n,rfl⟩:=r0.1 z;have hm:=l6 n;have A:(sG Qdm bs).length<=1000:=by rw[aco,nr];lia
  have v:(vF Qdm).length<=1000:=kv (x7 _ _) (by rw[nr];lia);have C:vF (a.take QA)=vF Qdm++(J2 q).toList:=by
   rw[mh n];unfold vF;rw[List.filterMap_append];cases q<;>rfl
  rw[mh n,acn,oC,← mh n,C];have w:=acm Qdm bs;have fQ:=V2 w q (h.2 q hm);generalize (a.take j).foldl ZJ bs=cur at w fQ ⊢;generalize sG _ bs=rs at A ⊢;generalize vF _=cs at v ⊢;apply aM E.g E.eK (c_ (q,cur) E.am3 E.Tw (ai (aF E.jP) QjR) fQ (Sh _ _ _));apply aM E.g E.cE QbU;apply jt E.cj.1 rfl (cM (d:=(q.row cur).d) (aX (vE E.eK.1 rfl rfl) ao rfl) (Eg cur q)) rfl WI;have B:(rs.map J.d).map T.sh++[T.sh (q.row cur).d]=((rs++[q.row cur]).map J.d).map T.sh:=by rw[jI,jI];rfl
  rw[B];cases q with
  | put x k m=>
   refine fq (cW QdC bK).1 (λc=>absurd (show("put")="call" from ko c) Wl) (λc=>aj (aj ⟨some (.sh (fB.put x k m).d),some (.tup [.sh .any,.sh ((fB.put x k m).row cur).d]),?_⟩));rw[show(J2 _).toList=[] from rfl,j2];rfl
  | say s k m=>
   refine fq (cW QdC bK).1 (λc=>absurd (show("say")="call" from ko c) Wl) (λc=>aj (aj ⟨some (.sh (fB.say s k m).d),some (.tup [.sh .any,.sh ((fB.say s k m).row cur).d]),?_⟩));rw[show(J2 _).toList=[] from rfl,j2];rfl
  | call s=>
   refine fq (cW QdC bK).1 (λc=>?_) (λc=>absurd rfl (l5 c));refine jt E.lz.1 rfl QhV rfl WI (aj (aj ⟨some (.sh (fB.call s).d),some (.tup [.sh .any,.sh ((fB.call s).row cur).d]),?_⟩));have es:(cs.map D.str).map T.sh++[T.sh (.str s)]=((cs++(J2 (fB.call s)).toList).map D.str).map T.sh:=by rw[jI,jI];rfl
   rw[← es];rfl
 case fin=>
  rintro δ ⟨i,f,rfl⟩;rw[d8,me];exact bB Qk1 rfl
def gy:FG Gv ["deeds","boxes"] ["list","done"] (ak zA):=fG
abbrev wk:=top 56
abbrev wm:=Bool×Ee×AT
abbrev Dy:At:=["script","boxes","behind","rows","called","part","step"]
def jU:wm->BA:=λ(l,xs,bs)=>[KW l QeP,.lst QbV]
def jd:wm->Prop:=λ(l,xs,bs)=>xs.length<=1000/\∀x∈xs,x.ok bs
def mX:wm->T:=λ(l,xs,bs)=>(.tup [.lst (((xs.foldl It.af bs).map .int).map T.sh),.lst (((vG xs bs).map J.d).map T.sh),.lst (((cY xs).map .str).map T.sh)]:T)
structure PZ(X:Cx)(CL:BC):Prop extends bI X where
 bT:Ln X 0 "script"
 cz:Ln X 1 "boxes"
 cE:Ln X 2 "behind"
 cj:Ln X 3 "rows"
 lz:Ln X 4 "called"
 Gw:Ln X 5 "part"
 eK:Ln X 6 "step"
 dI:Gl X "list"
 WD:Gl X "MARKS"
 zC:Gl X "all_done"
 dJ:nR X "list"
 Eu:GT X "MARKS" ["out","keep","way","in"]
 TF:Fc X CL "all_done" 4 2 uq oR oS
theorem P0(E:PZ X CL) :
  ni X CL b wk Dy jU jd mX:=by
 rintro⟨l,xs,bs⟩ h;dsimp [jd,jU]at h ⊢;apply aM E.g E.cE (jo E.dJ (aF E.cz) (b9 _) E.dI cH);refine aM E.g E.cj Qd5 ?_;refine aM E.g E.lz Qd5 ?_;have u:∀(p z:Pos) (t s r f a:ES),Xr X CL b (.Name "part" p) (.Name "script" z) [some (.sh (KW l QeP)),some Qdh,t,s,r,f,a] QeP [some (.sh (KW l QeP)),some Qdh,t,s,r,f,a]:=by
  intro p z t s r f a;cases l
  .exact EX (v_ E.bT.1)
  .exact dm (v_ E.bT.1)
 refine gK E.g E.Gw (λj δ=>∃f a,δ=[some _,some _,some (.lst ((((xs.take j).foldl It.af bs).map _).map T.sh)),some (.lst (((vG Qd1 bs).map J.d).map T.sh)),some (.lst (((cY Qd1).map .str).map T.sh)),f,a]) (u _ _ _ _ _ _ _) ⟨_,_,rfl⟩ (λj δ ⟨_,_,e⟩=>by subst e;exact jj rfl) ?turn ?fin
 case turn=>
  rintro j d δ o ⟨f,a,rfl⟩;rw[k4]at o;obtain⟨x,n,rfl⟩:=r0.1 o;have hm:=l6 n;have C:(vG Qd1 bs).length<=1000:=by rw[AO,nr];lia
  have B:(cY Qd1).length<=1000:=kv (x7 _ _) (by rw[nr];lia);have v:=tW Qd1 bs;have fQ:=agQ v x (h.2 x hm);have e1:(xs.take QA).foldl It.af bs=((xs.take j).foldl It.af bs |> λc=>x.af c):=by rw[mh n,oC];rfl
  have e2:vG (xs.take QA) bs=vG Qd1 bs++[x.j ((xs.take j).foldl It.af bs)]:=by rw[mh n,agP];rfl
  have e3:cY (xs.take QA)=cY Qd1++x.call.toList:=by rw[mh n,O6]
  rw[e1,e2,e3];clear e1 e2 e3;generalize (xs.take j).foldl _ bs=cur at v fQ ⊢;generalize vG _ bs=rs at C ⊢;have m:=agO x;by_cases i:x.told=true
  .obtain⟨q,rfl⟩:∃q,x=.kL q:=by cases x<;>first|exact⟨_,rfl⟩|cases i
   refine fq (Vx (l:=Lj) (aX (aH (v_ (d:=.tup (.str q.w::q.ds)) E.Gw.1)) ao Tu) (aH (Oo E.Eu E.WD)) rfl rfl).1 (λk=>by rw[show decide (q.w∈Lj)=false from m]at k;cases k) (λk=>?_);refine aM E.g E.eK (c_ (true,[q],cur) E.TF E.zC (ai (bS (cJ (aY (v_ E.Gw.1) bA) aP)) QjR) (by exact⟨WA,λy A=>kf.1 A▸fQ ⟩) (Sg (b9 _) (J3 _ _) (dX Qa0 _))) ?_;rw[show oS _=T.tup [.lst _,.lst ([(q.row cur).d].map _),.lst _] from rfl];apply aM E.g E.cE QbU;have D:(vF [q]).length<=1:=x7 _ _;apply nV E.cj.1 rfl (bS QbU) (by exact J3 [q] cur) rfl WI;refine nV E.lz.1 rfl (bS QbU) (se _) rfl WI (aj (aj ⟨some (.sh q.d),some (.tup [.sh .any,.sh .any,.sh .any]),?_⟩));rw[jI,jI,jI,jI];rfl
  .have i:=by simpa using i
   have o:x.j cur=x.sj:=by cases x<;>first|rfl|cases i
   have G:x.af cur=cur:=by cases x<;>first|rfl|cases i
   have F:x.call=none:=by cases x<;>first|rfl|cases i
   rw[i]at m;refine fq (Vx (l:=Lj) (aX (aH (v_ E.Gw.1)) ao Tu) (aH (Oo E.Eu E.WD)) rfl rfl).1 (λk=>?_) (λk=>by rw[m]at k;cases k);refine jt E.cj.1 rfl (cM (aF E.Gw) (Lk x)) rfl WI (aj (aj ⟨some (.sh x.d),a,?_⟩));rw[o,F,show(x.af) cur=cur from G,show none.toList=[] from rfl,j2,jI,jI];rfl
 case fin=>
  rintro δ ⟨f,a,rfl⟩;rw[d8,me];exact bB Qk1 rfl
def dZ:FG Dy ["script","boxes"] ["list","MARKS","all_done"] (ak wk):=fG
abbrev ur:=top 29
abbrev uv:=BA×BA×D×BA×BA×List bG×Int
noncomputable abbrev Bd:At:=["chart","number"]
def lA:uv->BA:=λ(bs,nm,tr,is,os,ws,i)=>[iu bs nm tr is os QaV,.int i]
def iC:uv->Prop:=λ(bs,nm,tr,is,os,ws,i)=>0<=i/\i<ws.length
def lB:uv->T:=λ(bs,nm,tr,is,os,ws,i)=>(.sh (.bl (lY ws i)):T)
structure Mr(X:Cx)(CL:BC):Prop extends bI X where
 aC:Ln X 0 "chart"
 cy:Ln X 1 "number"
 nE:Gl X "TARGET"
 nF:∃u,X.mg "TARGET" = some (.int 4 u)
 az:jJ X.K QJ
 bu:aD X.K QJ "ways"
def Ms(E:Mr X CL) :
  ni X CL b ur Bd lA iC lB:=by
 rintro⟨bs,nm,tr,is,os,ws,i⟩ h;obtain⟨h0,h1⟩:=h;exact bB (BU (aX (bJ Qiw QeL (fH w0 h0 h1)) (aH (eO E.nF E.nE)) (dg rfl)) Qbf).2 rfl
def mY:FG Bd ["chart","number"] ["TARGET"] (ak ur):=fG
abbrev Mt:=top 12
abbrev Mu:=At×AT×AT×Int
noncomputable abbrev WG:At:=["tree","mood","found","elder"]
def mq:Mu->BA:=λ(ks,es,ss,m)=>[cQ ks es ss,.int m]
def mw:Mu->Prop:=λ(ks,es,ss,m)=>e7 es/\0<=m/\m<es.length/\es.length<=1000
def mz:Mu->T:=λ(ks,es,ss,m)=>(.lst (((bz es m).map .int).map T.sh):T)
structure ahG(X:Cx)(CL:BC):Prop extends bI X where
 bE:Ln X 0 "tree"
 bY:Ln X 1 "mood"
 dh:Ln X 2 "found"
 ji:Ln X 3 "elder"
 bU:jJ X.K Qac
 ck:aD X.K Qac "elders"
theorem ahH(E:ahG X CL) :
  ni X CL b Mt WG mq mw mz:=by
 rintro⟨ks,es,ss,m⟩ h;obtain⟨f,h0,h1,hlen⟩:=h;apply aM E.g E.dh QaS;apply aM E.g E.ji (cM (bJ Qhd QaP (f7 h0 h1)) rfl);have hm:=f.at h0 h1;apply KZ E.g (λn δ=>∃(k:Int) (l:AT),δ=[some _,some _,some QgM,some QeI] /\ -1<=k/\k<n/\k<es.length/\l++Ec n es k=bz es m/\l.length+n<=es.length+1) QdT
  ⟨ _,[],rfl,hm.1,We,We,rfl,WA⟩
 rintro n δ ⟨k,l,rfl,k0,k1,k2,d,j⟩;refine⟨_,_,(BU Qe9 Qbf).1,λa=>?_,λa=>?_⟩
 .have c:=by simpa using a
  have i:=f.at We k2;cases n with
  | zero=>lia
  | succ n=>
   apply jt E.dh.1 rfl (v_ E.ji.1) rfl WI;apply aM E.g E.ji (cM (bJ Qhd Qe9 (f7 We k2)) rfl);refine aj ⟨n,yn _,_,l++[k],?_,i.1,We,We,?_,WI⟩
   .simp
   .rw[← d,Ec,cq c,jc];rfl
 .have c:=by simpa using a
  subst c;have e:l=bz es m:=by
   rw[← d];cases n with
   | zero=>rw[Ec,j2]
   | succ n=>rw[Ec,di rfl,j2]
  subst e;exact bB (vM E.dh.1) rfl
def wu:FG WG ["tree","mood"] [] (ak Mt):=fG
abbrev Gy:=top 14
abbrev Gz:=At×AT×AT×Int×Int
noncomputable abbrev P1:At:=["tree","mood","other"]
def mC:Gz->BA:=λ(ks,es,ss,m,o)=>[cQ ks es ss,.int m,.int o]
def mF:Gz->Prop:=λ(ks,es,ss,m,o)=>e7 es/\0<=m/\m<es.length/\es.length<=1000
def mG:Gz->T:=λ(ks,es,ss,m,o)=>(.sh (.bl (decide (o=-1) || decide (o∈bz es m))):T)
structure adP(X:Cx)(CL:BC):Prop extends bI X where
 bE:Ln X 0 "tree"
 bY:Ln X 1 "mood"
 iX:Ln X 2 "other"
 lC:Gl X "above"
 oU:Fc X CL "above" 1 2 mq mw mz
def adQ(E:adP X CL) :
  ni X CL b Gy P1 mC mF mG:=by
 rintro⟨ks,es,ss,m,o⟩ h;exact bB (SE (gB QbL Qbf).2 (λ_=>aaQ (w9 QbL (bS (c_ (ks,es,ss,m) E.oU E.lC Qg6 h (aL _))) rfl rfl).2)) rfl
def sR:FG P1 ["tree","mood","other"] ["above"] (ak Gy):=fG
abbrev NA:=top 18
abbrev Nw:=At×AT×AT×Int×Int
noncomputable abbrev Sr:At:=["tree","one","other","upper"]
def Mv:Nw->BA:=λ(ks,es,ss,a,c)=>[cQ ks es ss,.int a,.int c]
def Mw:Nw->Prop:=λ(ks,es,ss,a,c)=>e7 es/\es.length<=1000/\ks.length=es.length/\(0<=a/\a<es.length)/\0<=c/\c<es.length
def Ew:Nw->T:=λ(ks,es,ss,a,c)=>(.sh (.int (Le Qai es a c)):T)
structure arn(X:Cx)(CL:BC):Prop extends bI X where
 bE:Ln X 0 "tree"
 lg:Ln X 1 "one"
 iX:Ln X 2 "other"
 jk:Ln X 3 "upper"
 lC:Gl X "above"
 nG:Gl X "within"
 oU:Fc X CL "above" 1 2 mq mw mz
 nI:Fc X CL "within" 2 3 mC mF mG
 bU:jJ X.K Qac
 bP:aD X.K Qac "kinds"
theorem aro(E:arn X CL) :
  ni X CL b NA Sr Mv Mw Ew:=by
 rintro⟨ks,es,ss,a,c⟩ h;dsimp [Ew]at h ⊢;obtain⟨p,q,A,⟨r,a1⟩,c0,u⟩:=h;refine gK E.g E.jk (λj δ=>∃o,(∀x∈(bz es a).take j,(bD ks x&&decide (x∈bz es c))=false)/\δ=[some _,some _,some _,o])
  (dm (dD (c_ (_,_,_,_) E.oU E.lC (ai QaO (ai Qb8 aG)) ((⟨p,r,a1,q⟩)) (aL _)))) ⟨_,λx i=>by simp at i,rfl⟩ (λj δ ⟨_,_,e⟩=>by subst e;exact jj rfl) ?turn ?fin
 case turn=>
  rintro j d δ m ⟨o,k,rfl⟩;rw[k4]at m;cases i:(bz es a)[j]? with
  | none=>rw[i]at m;cases m
  | some x=>
   rw[i]at m;cases m;have n:=l6 i;have t:=bf p r a1 n;have z:=(kO.1 i).1;have s:(bz es a).take QA=(bz es a).take j++[x]:=by rw[rh,i];rfl
   refine fq (qW (iK (cW (bJ QdD (aF E.jk) (fH Str.empty We We)) bK).1 (λB=>(jf (uN (c_ (_,_,_,_,_) E.nI E.nG (ai QaO (ai QbL (ai (aF E.jk) aG))) ((⟨p,c0,u,q⟩)) rfl)))))) (λl=>?_) (λl=>aj (aj ⟨_,?_,rfl⟩))
   .apply bB (v_ E.jk.1);have v:(bD ks x&&decide (x∈bz es c))=true:=by
     have:decide (x=-1)=false:=ky We;rw[this]at l;exact l
    have:(bz es a).find? (λx=>bD ks x&&decide (x∈bz es c))=some x:=by
     have w:=by
      have h2:=yU j (bz es a);rw[x9 z]at h2;have:=(kO.1 i).2;rw[this]at h2;exact h2.symm
     conv=>lhs;rw[w]
     rw[List.find?_append,List.find?_eq_none.2 (λy f=>by rw[k y f];decide),rb,v];rfl
    show _=T.sh _;unfold Le;rw[this];rfl
   .intro y f;rw[s]at f;obtain f|f:=gY.1 f
    .exact k y f
    .have e:=by simpa using f
     subst e;have:decide (y=-1)=false:=ky We;rw[this]at l;exact l
 case fin=>
  rintro δ ⟨o,k,rfl⟩;rw[d8,me]at k;apply bB (gW ao);unfold Le;rw[List.find?_eq_none.2 (λy f=>by rw[k y f];decide)];rfl
def zE:FG Sr ["tree","one","other"] ["above","within"] (ak NA):=fG
abbrev CK:=top 30
abbrev CM:=BA×BA×At×AT×AT×BA×BA×List bG×Int
noncomputable abbrev Kl:At:=["chart","number","way"]
def nJ:CM->BA:=λ(bs,nm,ks,es,ss,is,os,ws,i)=>[iu bs nm QaU is os QaV,.int i]
def kJ:CM->Prop:=λ(bs,nm,ks,es,ss,is,os,ws,i)=>e7 es/\es.length<=1000/\ks.length=es.length/\QeA/\Qgu/\0<=(dF ws i).i3/\(dF ws i).i3<es.length
def nK:CM->T:=λ(bs,nm,ks,es,ss,is,os,ws,i)=>(.sh (.int (iQ ks es Qbh)):T)
structure YT(X:Cx)(CL:BC):Prop extends bI X where
 aC:Ln X 0 "chart"
 cy:Ln X 1 "number"
 eu:Ln X 2 "way"
 Nu:Gl X "top"
 GA:Gl X "SOURCE"
 nE:Gl X "TARGET"
 arp:Fc X CL "top" 3 3 Mv Mw Ew
 sS:∃u,X.mg "SOURCE" = some (.int 0 u)
 nF:∃u,X.mg "TARGET" = some (.int 4 u)
 az:jJ X.K QJ
 bu:aD X.K QJ "ways"
 aV:aD X.K QJ "tree"
def YV(E:YT X CL) :
  ni X CL b CK Kl nJ kJ nK:=by
 rintro⟨bs,nm,ks,es,ss,is,os,ws,i⟩ h;obtain⟨d,e,f,⟨c,i1⟩,hs,a⟩:=h;exact aM E.g E.eu (aR (Ro Qeo QeL (fH w0 c i1)) rfl) (bB (c_ (ks,es,ss,(dF ws i).src,(dF ws i).i3) E.arp E.Nu (ai QcW (ai (aX Qbg (aH (eO E.sS E.GA)) yV) (ai Qgt aG))) (⟨d,e,f,hs,a⟩) rfl) rfl)
def ku:FG Kl ["chart","number"] ["top","SOURCE","TARGET"] (ak CK):=fG
abbrev Mx:=top 13
abbrev My:=At×AT×AT×Int
abbrev WH:At:=["tree","mood"]
def CN:My->BA:=λ(ks,es,ss,m)=>[cQ ks es ss,.int m]
def xT:My->Prop:=λ(ks,es,ss,m)=>e7 es/\0<=m/\m<es.length/\es.length<=1000
def CP:My->T:=λ(ks,es,ss,m)=>(.sh (.int ((bz es m).length:Nat)):T)
structure ahI(X:Cx)(CL:BC):Prop extends bI X where
 bE:Ln X 0 "tree"
 bY:Ln X 1 "mood"
 iY:Gl X "len"
 lC:Gl X "above"
 iZ:nR X "len"
 oU:Fc X CL "above" 1 2 mq mw mz
def ahJ(E:ahI X CL) :
  ni X CL b Mx WH CN xT CP:=by
 rintro⟨ks,es,ss,m⟩ h;have a:((bz es m).map D.int).length=(bz es m).length:=by simp
 exact bB (jB a E.iZ (bS (c_ (ks,es,ss,m) E.oU E.lC Qg6 h (qA _))) E.iY) rfl
def wA:FG WH ["tree","mood"] ["len","above"] (ak Mx):=fG
abbrev wB:=top 31
abbrev wC:=At×AT×AT×Int×Int
noncomputable abbrev Dz:At:=["tree","one","other"]
def rC:wC->BA:=λ(ks,es,ss,t,u)=>[cQ ks es ss,.int t,.int u]
def mZ:wC->Prop:=λ(ks,es,ss,t,u)=>e7 es/\es.length<=1000/\(-1<=t/\t<es.length) /\ -1<=u/\u<es.length
def m5:wC->T:=λ(ks,es,ss,t,u)=>(.sh (.bl (J4 es t u)):T)
structure P4(X:Cx)(CL:BC):Prop extends bI X where
 bE:Ln X 0 "tree"
 lg:Ln X 1 "one"
 iX:Ln X 2 "other"
 nG:Gl X "within"
 nI:Fc X CL "within" 2 3 mC mF mG
theorem P5(E:P4 X CL) :
  ni X CL b wB Dz rC mZ m5:=by
 rintro⟨ks,es,ss,t,u⟩ h;dsimp [m5]at h ⊢;obtain⟨c,d,⟨t0,t1⟩,u0,u1⟩:=h;unfold J4;refine fq (qW (Vr (gB Qb8 QbL).1 (λf=>(Vr (gB Qb8 Qbf).1 (λe=>(Rn (gB QbL Qbf).1)))))) (λa=>?_) (λa=>aj ?_)
 .apply bB sd;rw[a];rfl
 .rw[a];simp at a;apply bB (SE (c_ ((ks,es,ss,t,u)) E.nI E.nG (ai QaO (ai Qb8 (ai QbL aG))) ((⟨c,We,We,d⟩)) rfl) (λf=>(aaQ (c_ ((ks,es,ss,u,t)) E.nI E.nG (ai QaO (ai QbL (ai Qb8 aG))) ((⟨c,We,We,d⟩)) rfl))));rw[ky a.2.2,ky a.2.1];rfl
def lD:FG Dz ["tree","one","other"] ["within"] (ak wB):=fG
abbrev Mz:=top 32
abbrev TH:=BA×BA×At×AT×AT×BA×BA×List bG×AT
noncomputable abbrev Zl:At:=["chart","found","chosen","tops","number","upper"]
def Be:TH->BA:=λ(bs,nm,ks,es,ss,is,os,ws,row)=>[iu bs nm QaU is os QaV,.lst (row.map .int)]
def Bf:TH->Prop:=λ(bs,nm,ks,es,ss,is,os,ws,row)=>e7 es/\es.length<=900/\ks.length=es.length/\row.length<=63/\(∀k∈row,0<=k/\k<ws.length)/\∀w∈ws,(0<=w.src/\w.src<es.length) /\ -1<=w.i3/\w.i3<es.length
def Bg:TH->T:=λ(bs,nm,ks,es,ss,is,os,ws,row)=>(.lst (((To ks es ws row).map .int).map T.sh):T)
structure am6(X:Cx)(CL:BC):Prop extends bI X where
 aC:Ln X 0 "chart"
 oV:yW X "chart"
 dh:Ln X 1 "found"
 GB:Ln X 2 "chosen"
 TJ:Ln X 3 "tops"
 cy:Ln X 4 "number"
 jk:Ln X 5 "upper"
 MA:yW X "upper"
 eV:Gl X "sorted"
 uw:Gl X "has_target"
 mH:Gl X "way_top"
 arq:Gl X "any"
 eW:nR X "sorted"
 ux:Fc X CL "has_target" 1 2 lA iC lB
 sU:Fc X CL "way_top" 4 2 nJ kJ nK
 ars:nR X "any"
 ahK:Fc X CL "depth" 2 2 CN xT CP
 sS:∃u,X.mg "SOURCE" = some (.int 0 u)
 P6:Fc X CL "tops_meet" 3 3 rC mZ m5
 az:jJ X.K QJ
 aV:aD X.K QJ "tree"
 bu:aD X.K QJ "ways"
 lam:XY X CL "#kept.<locals>.<lambda>" "kept.<locals>.<lambda>"
 dp:X.A.depth<recursionLimit
 rm:eG 4 X.A
theorem am8(E:am6 X CL) :
  ni X CL b Mz Zl Be Bf Bg:=by
 rintro⟨bs,nm,ks,es,ss,is,os,ws,row⟩ h;dsimp only [Bf,Be,Bg]at h ⊢;obtain⟨H,F,M,Z,G,hw⟩:=h;refine aM E.g E.GB QaS ?_;refine aM E.g E.TJ QaS ?_;have R:∀(l:AT) (x:Int),(l.map D.int).map T.sh++[T.sh Qdx]=((l++[x]).map D.int).map T.sh:=by intros;simp
 have P:∀{w:bG},w∈ws->-1<=iQ ks es w/\iQ ks es w<es.length:=λ{w} hm=>by
  have hs:=(hw w hm).1;rcases acs (bC:=bD ks) (es:=es) (a:=w.src) (c:=w.i3) with z|z
  .unfold iQ;rw[z];lia
  .have:=bf H hs.1 hs.2 z;unfold iQ;lia
 have Y:(eS Qb1 row).length<=63:=by rw[xh];exact Z
 have B:∀k∈eS Qb1 row,0<=k/\k<ws.length:=λk M=>G k (lT.1 M);have N:∀l:AT,(∀k∈l,0<=k/\k<ws.length)->∀t∈(ZO ks es ws l).2,-1<=t/\t<es.length:=by
  have gen:∀(l:AT) (s:AT×AT),(∀k∈l,0<=k/\k<ws.length)->(∀t∈s.2,-1<=t/\t<es.length)->∀t∈(l.foldl QgZ s).2,-1<=t/\t<es.length:=by
   intro l
   induction l with
   | nil=>intro s _ hs;exact hs
   | cons k l V=>
    intro s F hs;rw[k3];refine V _ (λq v=>F q (i4 _ v)) ?_;obtain⟨k0,k1⟩:=F k gj;unfold Yx;split
    .split
     .exact hs
     .intro t u;obtain z|z:=gY.1 u
      .exact hs t z
      .rw[kf.1 z];exact P (mU k0 k1)
    .exact hs
  exactλl F=>gen l ([],[]) F (λt u=>by cases u)
 refine gK E.g E.cy (λj δ=>∃o n,δ=[some _,some (.sh (.lst (row.map .int))),some (.lst (((ZO ks es ws ((eS Qb1 row).take j)).1.map .int).map T.sh)),some (.lst (((ZO ks es ws ((eS Qb1 row).take j)).2.map .int).map T.sh)),o,n])
  (dm (dD (ds:=(eS Qb1 row).map .int) (aR (yS (y:="way") (g:=λd=>FT es ws d.yb) E.lam E.g E.dp E.eW E.eV Qgz (aF E.dh) (b9 _) WI (λf c s0 H0 b' d hd=>?key)) (by rw[pH];rfl)))) ⟨_,_,rfl⟩ (λj δ ⟨_,_,e⟩=>by subst e;exact jj rfl) ?turn ?fin
 case key=>
  obtain⟨k,A,rfl⟩:=j0.1 hd;obtain⟨k0,k1⟩:=G k A;obtain⟨⟨s0,s1⟩,_⟩:=hw _ (mU k0 k1);exact aH (aR (gW (aH (c_ (ks,es,ss,(dF ws k).src) (alW E.ahK (E.rm.mono Wp)) (RW Wl) (ai (bN (by exact E.az) (by exact E.aV) QiQ e9) (ai (aX (bJ (bN (by exact E.az) (by exact E.bu) QiQ fU) QiP (fH (f:=gO) w0 k0 k1)) (aH (eO (by exact E.sS) (RW Wl))) yV) aG)) (by dsimp only [xT];exact⟨H,s0,s1,We⟩) rfl))) rfl)
 case turn=>
  rintro j d δ hj ⟨o,n,rfl⟩;obtain⟨k,rfl,_,A,B7,_,S⟩:=jL hj;obtain⟨k0,k1⟩:=B k A;obtain⟨J,I⟩:=hw _ (mU k0 k1);have hlen:=V5 ks es ws ((eS Qb1 row).take j);have lP:((eS Qb1 row).take j).length<=63:=by rw[nr];lia
  have r:=N ((eS Qb1 row).take j) λq v=>B q (t5 v);show fh X CL b _ _ {nx:=λδ=>∃o n,δ=[_,_,some Qdy,some Qdy,o,n],rt:=_,bk:=_,ct:=λδ=>∃o n,δ=[_,_,some Qdy,some Qdy,o,n]};rw[S,acF];generalize ZO ks es ws ((eS Qb1 row).take j)=s at hlen r ⊢;obtain⟨cs,AU⟩:=s;dsimp only at hlen r ⊢;unfold Yx;dsimp only;refine yi (λδ=>∃O n,(if lY ws k=true then(if AU.any (J4 es QhW)=true then(cs,AU) else(cs++[k],AU++[iQ ks es QdY])) else(cs++[k],AU))=(cs++[k],O)/\δ=[some (.sh (iu bs nm QaU is os QaV)),some (.sh (.lst (row.map .int))),some (.lst ((cs.map .int).map T.sh)),some (.lst ((O.map .int).map T.sh)),some QeI,n])
   (uN (aR (c_ (bs,nm,cQ ks es ss,is,os,ws,k) E.ux E.uw QgT (by dsimp only [iC];exact⟨k0,k1⟩) rfl) (t2:=.sh (.bl (lY ws k))) rfl)) (λm=>?_) (λm=>?_) ?_
  .have m:lY ws k=true:=m;have W:¬ (dF ws k).i3=-1:=by unfold lY at m;simpa using m
   refine aM E.g E.jk (aR (c_ (bs,nm,ks,es,ss,is,os,ws,k) E.sU E.mH QgT (by dsimp only [kJ];exact⟨H,We,M,⟨k0,k1⟩,J,We,I.2⟩) rfl) rfl) ?_;have K:=P (mU (ws:=ws) k0 k1);refine fq (uN (aR (alM E.g E.ars (bS (aR (abA (p:=λ_=>true) (g:=λd=>T.sh (.bl (J4 es QhW d.yb))) (bM (.cons E.aC.1 (.inl E.oV) (.cons E.jk.1 (.inl E.MA) .nil)) Wl) E.g.calm (vL E.TJ.1) (λd _=>rfl) (λC s0 H0 f0 b' d hd=>?Ca) (ml (cV (by rw[d8];lia)))) ?ceq)) E.arq) (t2:=.sh (.bl (AU.any (J4 es QhW)))) (congrArg (λz=>T.sh (.bl z)) (by rw[List.any_map];rfl)))) (λv=>?_) (λv=>aj ?_)
   case Ca=>
    obtain⟨t,L,rfl⟩:=j0.1 hd;exact⟨rfl,λ_=>aR (c_ (ks,es,ss,iQ ks es QdY,t) (jV E.P6) uV (ai (bN (by exact E.az) (by exact E.aV) (gC 1) e9) (ai (gC 2) QhU)) (by dsimp only [mZ];exact⟨H,We,K,r t L⟩) rfl) rfl⟩
   case ceq=>
    rw[qy,kq,kq,kq];rfl
   .refine alz ?_;rw[di m,di v];exact⟨_,_,rfl⟩
   .refine jt E.TJ.1 rfl (v_ E.jk.1) rfl WI (aj ⟨AU++[iQ ks es QdY],some (.sh (.int QhW)),?_,?_⟩)
    .rw[di m,cq (by rw[v];decide)]
    .rw[R];rfl
  .have m:lY ws k=false:=m;exact aj ⟨AU,_,by rw[cq (by rw[m];decide)],rfl⟩
  rintro δ ⟨O,U,eT,rfl⟩;rw[eT];refine jt E.GB.1 rfl (v_ E.cy.1) rfl WI (aj ?_);rw[R];exact⟨_,_,rfl⟩
 case fin=>
  rintro δ ⟨o,n,rfl⟩;rw[d8,me];have hlen:=V5 ks es ws QfO;exact bB (aR (kg E.eW (vL E.GB.1) We E.eV) rfl) rfl
def jX:N9 (ak Mz) ([("chart",.cell),("found",cZ),("chosen",cZ),("tops",cZ),("number",cZ),("upper",.cell),("sorted",bX),("has_target",bX),("way_top",bX),("any",bX)])=true:=by decide +kernel
def WK:cU Zl ["chart","found"] (ak Mz):=jC
abbrev m7:=top 27
abbrev rD:=BA×BA×At×AT×AT×BA×BA×BA×AT
abbrev yx:At:=["chart","opens"]
def n5:rD->BA:=λ(bs,nm,ks,es,ss,is,os,ws,ops)=>[iu bs nm QaU is os ws,.lst QdQ]
def n9:rD->Prop:=λ(bs,nm,ks,es,ss,is,os,ws,ops)=>ops.length<=1000/\∀x∈ops,0<=x/\x<ks.length
def jY:rD->T:=λ(bs,nm,ks,es,ss,is,os,ws,ops)=>(.lst (((Yv ks ops).map .int).map T.sh):T)
structure Iw(X:Cx)(CL:BC):Prop extends bI X where
 aC:Ln X 0 "chart"
 oV:yW X "chart"
 bQ:Ln X 1 "opens"
 az:jJ X.K QJ
 bU:jJ X.K Qac
 bP:aD X.K Qac "kinds"
 aV:aD X.K QJ "tree"
def Iz(E:Iw X CL) :
  ni X CL b m7 yx n5 n9 jY:=by
 rintro⟨bs,nm,ks,es,ss,is,os,ws,ops⟩ h;dsimp [jY]at h ⊢;obtain⟨f,e⟩:=h;refine bB (oH (p:=λd=>Pe ks d.yb) (g:=T.sh) Qgz E.g.calm (dm Qgb) QaH (λC s0 j f0 i d hd=>?Ca) (Nat.le_of_lt (cV (by simpa using f)))) ?eq
 case Ca=>
  obtain⟨x,c,rfl⟩:=j0.1 hd;obtain⟨x0,a⟩:=e x c;exact⟨(cW (bJ (bN (by exact E.bU) (by exact E.bP) (bN (by exact E.az) (by exact E.aV) (gC 1) e9) iO) (kD 0) (fH _ x0 a)) bK).1,λ_=>v_ (Fi 0)⟩
 case eq=>
  rw[q9,kq,kq];rfl
def qd:N9 (ak m7) ([("chart",.cell),("opens",cZ)])=true:=by decide +kernel
def GC:cU yx ["chart","opens"] (ak m7):=jC
abbrev TL:=top 25
abbrev TN:=List uW×AT
noncomputable abbrev Y2:At:=["asks","opens","ask"]
def GD:TN->BA:=λ(l,ops)=>[.tup (l.map tX),.lst QdQ]
def GF:TN->Prop:=λ(l,ops)=>∀a∈l,a.LU
def Bh:TN->T:=λ(l,ops)=>(.sh (.bl (J5 ops (l.map tX))):T)
structure am9(X:Cx)(CL:BC):Prop extends bI X where
 zo:Ln X 0 "asks"
 bQ:Ln X 1 "opens"
 qN:Ln X 2 "ask"
def ana(E:am9 X CL) :
  ni X CL b TL Y2 GD GF Bh:=by
 rintro⟨l,ops⟩ h;dsimp [Bh]at h ⊢;refine gK E.g E.qN (λj δ=>∃o,(∀d∈(l.map tX).take j,Yu ops d=true)/\δ=[some _,some _,o])
  (EX (v_ E.zo.1)) ⟨_,λx v=>by simp at v,rfl⟩ (λj δ ⟨_,_,e⟩=>by subst e;exact jj rfl) ?turn ?fin
 case turn=>
  rintro j d δ s ⟨o,p,rfl⟩;have t:(l.map tX).take QA=(l.map tX).take j++[d]:=by rw[rh,s];rfl
  have n:=l6 s;have no:Yu ops d=false->J5 ops _=false:=λe=>List.all_eq_false.2 ⟨d,n,by rw[e];decide⟩;obtain⟨a,z,rfl⟩:=j0.1 n;have w:=h a z;have i:Yu ops _=true->∀y∈(l.map tX).take _,Yu ops y=true:=λe y f=>by
   rw[t]at f;obtain f|f:=gY.1 f
   .exact p y f
   .exact kf.1 f▸e
  cases a with
  | num mk b1 m1 b2 m2=>
   obtain⟨n1,u⟩:=agT w;refine fq (qW (iK (q:=false) (cW Qco bK).1 (λr=>absurd (ko r) n1))) (λc=>by simp at c) (λ_=>aj ?_);refine fq (qW (iK (q:=false) (cW Qco bK).1 (λr=>absurd (ko r) u))) (λc=>by simp at c) (λ_=>aj (aj ⟨_,i rfl,rfl⟩))
  | FP op m=>
   have hf:=acv ops op m;refine fq (qW (iK (cW Qco bK).1 (λ_=>jf (D6 Qco Qb9 rfl rfl).1))) (λc=>?_) (λc=>aj ?_)
   .have c:=c;apply bB sd;rw[no];rw[hf];cases op with
    | false=>exact absurd c (by rw[show decide _=false by decide +kernel];simp)
    | true=>rw[Bool.and_eq_true]at c;simpa using c.2
   refine fq (qW (iK (cW Qco bK).1 (λ_=>jf (w9 Qco Qb9 rfl rfl).1))) (λk=>?_) (λk=>aj (aj ⟨_,i ?_,rfl⟩))
   .apply bB sd;rw[no];rw[hf];cases op with
    | true=>exact absurd k (by rw[show decide _=false by decide +kernel];simp)
    | false=>rw[Bool.and_eq_true]at k;simpa using k.2
   .rw[hf];cases op with
    | true=>simpa using c
    | false=>simpa using k
 case fin=>
  rintro δ ⟨o,p,rfl⟩;rw[me]at p;apply bB sd;rw[show J5 ops _=true from wd.2 p]
def Ex:FG Y2 ["asks","opens"] [] (ak TL):=fG
abbrev Bj:=top 24
abbrev GH:=BA×BA×At×AT×AT×BA×BA×List bG×AT×Int×Str
noncomputable abbrev P7:At:=["chart","opens","leaf","sign","found","number","way","line"]
def zF:GH->BA:=λ(bs,nm,ks,es,ss,is,os,ws,ops,leaf,sg)=>[iu bs nm QaU is os QaV,.lst QdQ,.int leaf,.str sg]
def zG:GH->Prop:=λ(bs,nm,ks,es,ss,is,os,ws,ops,leaf,sg)=>e7 es/\es.length<=900/\0<=leaf/\leaf<es.length/\ws.length<=63/\ZI ws
def qe:GH->T:=λ(bs,nm,ks,es,ss,is,os,ws,ops,leaf,sg)=>(.lst (((xw ws ops sg (leaf::bz es leaf)).map .int).map T.sh):T)
structure adW(X:Cx)(CL:BC):Prop extends bI X where
 aC:Ln X 0 "chart"
 oV:yW X "chart"
 bQ:Ln X 1 "opens"
 GJ:Ln X 2 "leaf"
 lq:Ln X 3 "sign"
 dh:Ln X 4 "found"
 cy:Ln X 5 "number"
 eu:Ln X 6 "way"
 TQ:Ln X 7 "line"
 anb:yW X "line"
 lC:Gl X "above"
 vZ:Gl X "enumerate"
 anc:Gl X "SIGN"
 GA:Gl X "SOURCE"
 TR:Gl X "fits"
 TV:Gl X "ASKS"
 eV:Gl X "sorted"
 oU:Fc X CL "above" 1 2 mq mw mz
 v5:nR X "enumerate"
 ane:∃u,X.mg "SIGN" = some (.int 1 u)
 sS:∃u,X.mg "SOURCE" = some (.int 0 u)
 anf:Fc X CL "fits" 1 2 GD GF Bh
 TX:∃u,X.mg "ASKS" = some (.int 2 u)
 eW:nR X "sorted"
 az:jJ X.K QJ
 bu:aD X.K QJ "ways"
 aV:aD X.K QJ "tree"
 lam:XY X CL "#goable.<locals>.<lambda>" "goable.<locals>.<lambda>"
 dp:X.A.depth<recursionLimit
 rm:eG 1 X.A
theorem adX(E:adW X CL) :
  ni X CL b Bj P7 zF zG qe:=by
 rintro⟨bs,nm,ks,es,ss,is,os,ws,ops,leaf,sg⟩ h;dsimp [qe]at h ⊢;obtain⟨z,J,f0,f1,M,s⟩:=h;have I:(bz es leaf).length<=es.length+1:=tT _ _ _;have K:([D.int leaf]++(bz es leaf).map _)=(leaf::bz es leaf).map _:=rfl;refine aM E.g E.TQ (aR (Ah (bS (ds:=[.int leaf]) (cJ (aY (v_ E.GJ.1) bA) aP)) (bS (c_ (ks,es,ss,leaf) E.oU E.lC (ai QcW (ai (aF E.GJ) aG)) (⟨z,f0,f1,We⟩) (aL _))) rfl (b9 _) QeZ) (t2:=.lst (((leaf::bz es leaf).map .int).map T.sh)) rfl) ?_;generalize leaf::bz es leaf=ln;apply aM E.g E.dh QaS;have C:∀(l:AT) (x:Int),(l.map D.int).map T.sh++[T.sh Qdx]=((l++[x]).map D.int).map T.sh:=by simp
 refine alA E.g (VA E.g.nd E.g.calm E.cy E.eu) (λj δ=>∃n m,δ=[some _,some _,some _,some _,some (.lst ((((vl ws ops sg ln j).map λ(k:Nat)=>(k:Int)).map .int).map T.sh)),n,m,some _])
  (Ol w0 E.v5 Qeo E.vZ) ⟨_,_,rfl⟩ (λj δ ⟨_,_,e⟩=>by subst e;intro i hi;simp only[fV,kA,or_false]at hi;obtain rfl|rfl:=hi<;>exact jj rfl) ?turn ?fin
 case turn=>
  rintro j d δ A ⟨n,m,rfl⟩;obtain⟨i,rfl,hi,F,u,_,_⟩:=jL A;have B:=by
   rw[List.getElem?_range (by simpa using (List.getElem?_eq_some_iff.1 hi).1)]at hi;exact(l7 hi).symm
  subst B;have u:=mN.1 F;refine⟨_,rfl,?_⟩;obtain⟨w,hw⟩:∃w,ws.getD i w0=w:=⟨_,rfl⟩;have o:w∈ws:=by rw[← hw,la,ma u];exact List.getElem_mem _
  obtain⟨al,t,r⟩:=s w o;show fh X CL b _ _ {nx:=λδ=>∃n m,δ=[_,_,_,_,some _,n,m,_],rt:=_,bk:=_,ct:=_};rw[acw,hw];have q:=V3 ws ops sg ln i;refine fq (qW (iK (cW (aX Qbg (aH (eO E.ane E.anc)) Fg) (aF E.lq)).1 (λ_=>iK (w9 (aX Qbg (aH (eO E.sS E.GA)) yV) (vL E.TQ.1) rfl rfl).1 (λ_=>jf (uN (aR (c_ (al,ops) E.anf E.TR (ai (Dd (aX Qbg (aH (eO E.TX E.TV)) IM) (congrArg _ t)) (ai Qb9 aG)) (r) rfl) (t2:=.sh (.bl (J5 ops w.asks))) (by rw[t];rfl))))))) (λa=>?_) (λa=>aj (aj ?_))
  .have a:vk ops sg ln w=true:=a;refine jt E.dh.1 rfl (v_ E.cy.1) rfl WI (aj (aj ?_));rw[C,di a,jI];exact⟨_,_,rfl⟩
  .have a:vk ops sg ln w=false:=a;rw[cq (by rw[a];decide),j2];exact⟨_,_,rfl⟩
 case fin=>
  rintro δ ⟨n,m,rfl⟩;rw[d8,m3];have q:=V3 ws ops sg ln ws.length;have G:∀{k:Nat},k∈vl ws ops sg ln _->k<ws.length/\(ws.getD k w0).src∈ln:=λp=>by
   obtain⟨h1,h2⟩:=kc.1 p;simp only[vk,lh,tI]at h2;exact⟨mN.1 h1,h2.2.1⟩
  refine bB (aR (yS (y:="way") (g:=λd=>((Cr ln (ws.getD d.yb.toNat w0).src))) E.lam E.g E.dp E.eW E.eV (bM (.cons E.aC.1 (.inl E.oV) (.cons E.TQ.1 (.inl E.anb) .nil)) Wl) (vL E.dh.1) (b9 _) WI (λf c s0 N L d hd=>?key)) ?eq) rfl
  case key=>
   obtain⟨x,v,rfl⟩:=j0.1 hd;obtain⟨k,p,rfl⟩:=j0.1 v;obtain⟨k1,k2⟩:=G p;have H:wV QaV k=some _:=(fH w0 We We).trans (by rw[ke]);refine aH (aR (OL (Dd (aH (v_ (K6 (i:=2) rfl Wl))) (fz _)) (aX (bJ (bN (E.az) (E.bu) QiQ fU) QiP H) (aH (eO (E.sS) (RW Wl))) yV) (Lp k2) (λi hi=>amf hi)) ?_);show T.sh _=T.sh (.int ((Cr ln (ws.getD (k:Int).toNat w0).src:Nat):Int));rw[ke]
  case eq=>
   rw[pH];rfl
def dB:N9 (ak Bj) ([("chart",.cell),("opens",cZ),("leaf",cZ),("sign",cZ),("found",cZ),("number",cZ),("way",cZ),("line",.cell),("above",bX),("enumerate",bX),("SIGN",bX),("SOURCE",bX),("fits",bX),("ASKS",bX),("sorted",bX)])=true:=by decide +kernel
def Km:cU P7 ["chart","opens","leaf","sign"] (ak Bj):=jC
abbrev MB:=top 21
abbrev MC:=Str×Int×Int×Int×Int×AT
noncomputable abbrev WL:At:=["ask","boxes","mark","one","other"]
noncomputable def CQ:MC->BA:=λ(mk,b1,m1,b2,m2,bs)=>[.tup [.str mk,.tup [.int b1,.int m1],.tup [.int b2,.int m2]],.lst QbV]
def CT:MC->Prop:=λ(mk,b1,m1,b2,m2,bs)=>(b1=-1\/(0<=b1/\b1<bs.length))/\(b2=-1\/(0<=b2/\b2<bs.length))
def CV:MC->T:=λ(mk,b1,m1,b2,m2,bs)=>(.sh (.bl (Si mk (pU b1 m1 bs) (pU b2 m2 bs))):T)
structure ahL(X:Cx)(CL:BC):Prop extends bI X where
 qN:Ln X 0 "ask"
 cz:Ln X 1 "boxes"
 MD:Ln X 2 "mark"
 lg:Ln X 3 "one"
 iX:Ln X 4 "other"
 um:Gl X "value"
 Bc:Fc X CL "value" 1 2 xR sP xS
def ahM(E:ahL X CL) :
  ni X CL b MB WL CQ CT CV:=by
 rintro⟨mk,b1,m1,b2,m2,bs⟩ h;apply aM E.g E.MD (cM Qco rfl);refine aM E.g E.lg (c_ (b1,m1,bs) E.Bc E.um (ai Qco Qcq) h.1 rfl) ?_;refine aM E.g E.iX (c_ (b2,m2,bs) E.Bc E.um (ai Qco Qcq) h.2 rfl) ?_;refine fq (cW (aF E.MD) bK).1 (λa=>?_) (λa=>aj ?_)
 .apply bB (JG Qb8 QbL).2;show T.sh _=T.sh _;rw[Si,di (ko a)]
 refine fq (cW (aF E.MD) bK).1 (λc=>?_) (λc=>aj ?_)
 .apply bB (apG Qb8 QbL).2;show T.sh _=T.sh _;rw[Si,cq (l5 a),di (ko c)]
 refine fq (cW (aF E.MD) bK).1 (λd=>?_) (λd=>aj ?_)
 .apply bB (gB Qb8 QbL).2;show T.sh _=T.sh _;rw[Si,cq (l5 a),cq (l5 c),di (ko d)]
 .apply bB (BU Qb8 QbL).2;show T.sh _=T.sh _;rw[Si,cq (l5 a),cq (l5 c),cq (l5 d)]
def qf:FG WL ["ask","boxes"] ["value"] (ak MB):=fG
abbrev zH:=top 22
abbrev zI:=Bool×List Ask×AT
noncomputable abbrev GK:At:=["asks","boxes","ask"]
def uy:zI->BA:=λ(l,a,bs)=>[KW l (a.map BG),.lst QbV]
def uz:zI->Prop:=λ(l,a,bs)=>∀q∈a,OR bs q
def oW:zI->T:=λ(l,a,bs)=>(.sh (.bl (a.all (hQ bs))):T)
structure TY(X:Cx)(CL:BC):Prop extends bI X where
 zo:Ln X 0 "asks"
 cz:Ln X 1 "boxes"
 qN:Ln X 2 "ask"
 MF:Gl X "holds"
 ahN:Fc X CL "holds" 2 2 CQ CT CV
def T3(E:TY X CL) :
  ni X CL b zH GK uy uz oW:=by
 rintro⟨l,c,bs⟩ h;dsimp [oW]at h ⊢;have i:∀(p m:Pos) (o:ES),Xr X CL b (.Name "ask" p) (.Name "asks" m) [some (.sh (KW l (c.map BG))),some Qdh,o] (c.map BG) [some (.sh (KW l (c.map BG))),some Qdh,o]:=by
  intro p m o;cases l
  .exact EX (v_ E.zo.1)
  .exact dm (v_ E.zo.1)
 refine gK E.g E.qN (λj δ=>(∃o,δ=[some _,some _,o])/\∀q∈c.take j,hQ bs q=true) (i _ _ _) ⟨⟨_,rfl⟩,WA⟩ (λj δ ⟨⟨o,e⟩,_⟩=>by subst e;exact jj rfl) ?_ ?_
 .rintro j d δ r ⟨⟨o,rfl⟩,f⟩;rw[k4]at r;obtain⟨q,n,rfl⟩:=r0.1 r;have hm:=l6 n;refine fq (ald (uN (c_ (q.1,q.2.1,q.2.2.1,q.2.2.2.1,q.2.2.2.2,bs) E.ahN E.MF (ai (aF E.qN) Qcq) (h q hm) rfl))) (λk=>?_) (λk=>?_)
  .apply bB sd;show T.sh _=T.sh _;have hf:hQ bs q=false:=by simpa [hQ] using k
   rw[List.all_eq_false.2 ⟨q,hm,by simp[hf]⟩]
  .refine aj (aj ⟨⟨_,rfl⟩,?_⟩);have hf:=by simpa using k
   intro s a;rw[rh,n]at a;obtain h'|h':=gY.1 a
   .exact f s h'
   .have:=by simpa using h'
    exact this▸hf
 .rintro δ ⟨⟨o,rfl⟩,f⟩;apply bB sd;rw[d8,me]at f;rw[wd.2 f]
def nL:FG GK ["asks","boxes"] ["holds"] (ak zH):=fG
abbrev rE:=top 26
abbrev rG:=BA×BA×D×BA×BA×List bG×Nat×bG
abbrev yz:At:=["chart","way"]
def oh:rG->BA:=λ(bs,nm,tr,is,os,ws,k,w)=>[iu bs nm tr is os QaV,.int k]
def oi:rG->Prop:=λ(bs,nm,tr,is,os,ws,k,w)=>ws[k]? = some w/\w.asks.length<=1000/\D.bR w.asks=true/\∀d∈w.asks,∃x r,d=.tup (.str x::r)
def oj:rG->T:=λ(bs,nm,tr,is,os,ws,k,w)=>(.sh (.tup (LS w.asks)):T)
structure IA(X:Cx)(CL:BC):Prop extends bI X where
 aC:Ln X 0 "chart"
 eu:Ln X 1 "way"
 xA:Gl X "tuple"
 TV:Gl X "ASKS"
 xB:nR X "tuple"
 TX:∃u,X.mg "ASKS" = some (.int 2 u)
 az:jJ X.K QJ
 bu:aD X.K QJ "ways"
def IB(E:IA X CL) :
  ni X CL b rE yz oh oi oj:=by
 rintro⟨bs,nm,tr,is,os,ws,k,w⟩ h;obtain⟨c,a,hi,e⟩:=h;have f:wV _ k=some (gO w):=dg (by rw[k4,c];rfl);refine bB (BZ E.xB (afS (aR (oH (bM .nil Wl) E.g.calm (EX (j9 (Ro Qeo Qbg f) (aH (eO E.TX E.TV)) rfl)) QaH (λC s0 j f0 i d hd=>?Ca) (ml (cV a))) rfl) rfl) (g7 λd hd=>jr hi d (kc.1 hd).1) E.xA) rfl
 case Ca=>
  obtain⟨x,r,rfl⟩:=e d hd;exact⟨(afZ (aX (kD 0) ao yV) (aH (je (aE fS (aE fS f9)) aP)) rfl rfl).1,λ_=>v_ (Fi 0)⟩
def jy:FG yz ["chart","way"] ["tuple","ASKS"] (ak rE):=fG
abbrev MG:=top 28
abbrev MH:=BA×BA×At×AT×AT×BA×BA×List bG×AT×AT×Str
noncomputable abbrev WM:At:=["chart","opens","boxes","sign","found","leaf","number"]
def CW:MH->BA:=λ(bs,nm,ks,es,ss,is,os,ws,ops,vs,sg)=>[iu bs nm QaU is os QaV,.lst QdQ,.lst (vs.map .int),.str sg]
def CY:MH->Prop:=λ(bs,nm,ks,es,ss,is,os,ws,ops,vs,sg)=>e7 es/\es.length<=900/\ks.length=es.length/\ws.length<=63/\ops.length<=1000/\(∀x∈ops,0<=x/\x<es.length)/\Ei es.length vs ws
def xU:MH->T:=λ(bs,nm,ks,es,ss,is,os,ws,ops,vs,sg)=>(.lst (((Nx ws ops vs sg es (Yv ks ops)).map .int).map T.sh):T)
structure ahO(X:Cx)(CL:BC):Prop extends bI X where
 aC:Ln X 0 "chart"
 bQ:Ln X 1 "opens"
 cz:Ln X 2 "boxes"
 lq:Ln X 3 "sign"
 dh:Ln X 4 "found"
 GJ:Ln X 5 "leaf"
 cy:Ln X 6 "number"
 rH:Gl X "open_leaves"
 Bk:Gl X "goable"
 zJ:Gl X "all_hold"
 rJ:Gl X "number_asks"
 dI:Gl X "list"
 IC:Fc X CL "open_leaves" 1 2 n5 n9 jY
 sV:Fc X CL "goable" 2 4 zF zG qe
 T4:Fc X CL "all_hold" 3 2 uy uz oW
 IE:Fc X CL "number_asks" 1 2 oh oi oj
 dJ:nR X "list"
theorem ahP(E:ahO X CL) :
  ni X CL b MG WM CW CY xU:=by
 rintro⟨bs,nm,ks,es,ss,is,os,ws,ops,vs,sg⟩ h;dsimp [xU]at h ⊢;obtain⟨U,Y,O,Xj,n,N,p⟩:=h;apply aM E.g E.dh VC;have H:∀x∈Yv ks _,0<=x/\x<es.length:=λx C=>N x (kc.1 C).1;have W:(Yv ks _).length<=1000:=kv (oI _ _) n;refine gK E.g E.GJ (λj δ=>∃A c,δ=[some _,some _,some _,some _,some (.qw (oo (Nx ws ops vs sg es ((Yv ks ops).take j)))),A,c])
  (dm (dD (aR (c_ (bs,nm,ks,es,ss,is,os,ws.map _,ops) E.IC E.rH (ai QaC (ai Qb9 aG)) (⟨n,λx C=>by have:=N x C;lia⟩) (aL _)) rfl))) ⟨_,_,rfl⟩ (λj δ ⟨_,_,e⟩=>by subst e;exact jj rfl) ?turn ?fin
 case turn=>
  rintro j d δ Z ⟨A,c,rfl⟩;obtain⟨x,rfl,_,B,B7,_,S⟩:=jL Z;obtain⟨x0,R⟩:=H x B;rw[S,acD];have hpl:=V4 ws ops vs sg es ((Yv ks ops).take j);have aa:((Yv ks ops).take j).length<=1000:=by rw[nr];lia
  generalize Nx ws _ vs sg es _=acc at hpl ⊢;have HZ:(oo acc).length<=1000000:=by unfold oo;rw[d8];lia
  have o:∀{k:Int},k∈xw ws ops sg (x::bz es x)->0<=k/\k<ws.length:=Lq;have ZL:pk ws _ vs sg es _ x=match (xw ws ops sg _).filter _ with | []=>acc|k::_=>Ik _ k:=rfl
  rw[ZL];have v:qe (bs,nm,ks,es,ss,is,os,ws,ops,x,sg)=T.lst _:=rfl;generalize xw ws _ sg _=go at o v ⊢;refine gK E.g E.cy (λi δ=>∃c,(∀k∈go.take i,zg vs (ws.getD k.toNat w0)=false)/\δ=[some _,some _,some _,some _,some _,some _,c])
   (dm (dD (aR (c_ _ E.sV E.Bk (ai QaC (ai Qb9 (ai (aF E.GJ) (ai (aF E.lq) aG)))) (⟨U,Y,x0,R,Xj,p.ok⟩) (v▸aL _)) v))) ⟨_,λk O=>by simp at O,rfl⟩ (λj δ ⟨_,_,e⟩=>by subst e;exact jj rfl) ?Gh ?fin2
  case Gh=>
   rintro i d δ hi ⟨c,l,rfl⟩;obtain⟨k,rfl,J,I,_,_,L⟩:=jL hi;obtain⟨k0,k1⟩:=o I;obtain⟨w,hw⟩:∃w,ws.getD k.toNat w0=w:=⟨_,rfl⟩;have m:ws[k.toNat]? = some w:=by rw[← hw,la,ma We];rfl
   obtain⟨al,t,M,f⟩:=p w (l6 m);have G:=t▸agV f;have D:(al.flatMap IS).all (hQ vs)=zg vs w:=by unfold zg;exact t▸(amk f).symm
   have qH:w.asks.length<=2:=by rw[t,d8];exact M
   have s:=t▸dX (FQ) _;have P:∀d∈w.asks,∃x r,d=.tup (.str x::r):=λd hd=>by
    rw[t]at hd;obtain⟨q,_,rfl⟩:=j0.1 hd;cases q<;>exact⟨_,_,rfl⟩
   have K:k.toNat=k:=by lia
   refine fq (uN (aR (c_ (false,al.flatMap _,vs) E.T4 E.zJ (ai (aH (aR (c_ (bs,nm,cQ ks es ss,is,os,ws,k.toNat,w) E.IE E.rJ (ai QaC (ai (Dd QeL (congrArg _ K.symm)) aG)) (⟨m,We,s,P⟩) ((g7 λd hd=>jr s d (kc.1 hd).1))) (congrArg (λz=>T.sh _) G))) Qcq) (agW f) rfl) (congrArg (λz=>T.sh _) D))) (λF=>?_) (λF=>aj (aj ⟨_,?_,rfl⟩))
   .refine abg (.inl k) E.u E.dh.1 sd QeL rfl HZ (Vy (aj ?_));rw[agY];obtain⟨r,V⟩:=Yw J (hw▸F) l;exact V▸⟨_,_,rfl⟩
   .intro y a;rw[L]at a;obtain a|a:=gY.1 a
    .exact l y a
    .rw[kf.1 a,hw];exact F
  case fin2=>
   rintro δ ⟨c,l,rfl⟩;rw[d8,me]at l;rw[List.filter_eq_nil_iff.2 (λy a=>by rw[l y a];decide)];exact aj ⟨_,_,rfl⟩
 case fin=>
  rintro δ ⟨A,c,rfl⟩;rw[d8,me];apply bB (abh E.g E.dJ (vE E.dh.1 rfl (by rw[T.gT])) E.dI);rw[acB]
def iD:FG WM ["chart","opens","boxes","sign"] ["open_leaves","goable","all_hold","number_asks","list"] (ak MG):=fG
abbrev MJ:=top 37
abbrev T5:=At×AT×AT×AT×Int
noncomputable abbrev Y1:At:=["tree","opens","upper"]
def GL:T5->BA:=λ(ks,es,ss,ops,u)=>[cQ ks es ss,.lst QdQ,.int u]
def GN:T5->Prop:=λ(ks,es,ss,ops,u)=>e7 es/\es.length<=1000/\ops.length<=1000/\∀m∈ops,0<=m/\m<es.length
def GO:T5->T:=λ(ks,es,ss,ops,u)=>(.lst (((yo es ops u).map .int).map T.sh):T)
structure ang(X:Cx)(CL:BC):Prop extends bI X where
 bE:Ln X 0 "tree"
 Ge:yW X "tree"
 bQ:Ln X 1 "opens"
 jk:Ln X 2 "upper"
 MA:yW X "upper"
 uA:Gl X "reversed"
 uB:nR X "reversed"
 nI:Fc X CL "within" 2 3 mC mF mG
theorem anh(E:ang X CL) :
  ni X CL b MJ Y1 GL GN GO:=by
 rintro⟨ks,es,ss,ops,u⟩ h;obtain⟨a,c,e,hm⟩:=h;refine bB (oH (p:=λd=>decide (u=-1) || decide (u∈bz es d.yb)) (g:=T.sh) (bM (.cons E.bE.1 (.inl E.Ge) (.cons E.jk.1 (.inl E.MA) .nil)) Wl) E.g.calm
  (alw E.uB Qgb E.uA) QaH (λC s0 k f0 f d hd=>?Ca) QeZ) ?eq
 case Ca=>
  obtain⟨i,hi,rfl⟩:=j0.1 (y1.1 hd);have j:=hm i hi;exact⟨uN (c_ (ks,es,ss,i,u) (jV E.nI) uV (ai (gC 1) (ai (kD 0) (ai (gC 2) aG))) (⟨a,We,We,c⟩) rfl),λ_=>v_ (Fi 0)⟩
 case eq=>
  rw[← List.map_reverse,q9,List.filter_reverse];rfl
def xV:N9 (ak MJ) ([("tree",.cell),("opens",cZ),("upper",.cell),("reversed",bX)])=true:=by decide +kernel
def ahR:cU Y1 ["tree","opens","upper"] (ak MJ):=jC
abbrev zK:=top 43
abbrev zL:=BA×BA×At×AT×AT×BA×BA×List bG×AT×AT
noncomputable abbrev GP:At:=["chart","opens","going","gone","number"]
def uC:zL->BA:=λ(bs,nm,ks,es,ss,is,os,ws,ops,gs)=>[iu bs nm QaU is os QaV,.lst QdQ,.lst (gs.map .int)]
def oX:zL->Prop:=λ(bs,nm,ks,es,ss,is,os,ws,ops,gs)=>e7 es/\es.length<=1000/\ks.length=es.length/\ops.length<=1000/\(∀m∈ops,0<=m/\m<es.length)/\(∀i∈gs,QeA/\Qgu/\0<=(dF ws i).i3/\(dF ws i).i3<es.length)/\((gs.map Qby).flatMap λw=>yo es ops QaT).length<64
def oY:zL->T:=λ(bs,nm,ks,es,ss,is,os,ws,ops,gs)=>(.lst (((lX ks es ops (gs.map Qby)).map .int).map T.sh):T)
structure T6(X:Cx)(CL:BC):Prop extends bI X where
 aC:Ln X 0 "chart"
 bQ:Ln X 1 "opens"
 lE:Ln X 2 "going"
 rK:Ln X 3 "gone"
 cy:Ln X 4 "number"
 T7:Gl X "left"
 mH:Gl X "way_top"
 eV:Gl X "sorted"
 ani:Fc X CL "left" 3 3 GL GN GO
 sU:Fc X CL "way_top" 4 2 nJ kJ nK
 eW:nR X "sorted"
 az:jJ X.K QJ
 aV:aD X.K QJ "tree"
theorem T8(E:T6 X CL) :
  ni X CL b zK GP uC oX oY:=by
 rintro⟨bs,nm,ks,es,ss,is,os,ws,ops,gs⟩ h;dsimp [oY]at h ⊢;obtain⟨f,k,r,a,p,t,l⟩:=h;apply aM E.g E.rK QaS;refine gK E.g E.cy (λj δ=>∃o,δ=[some _,some _,some _,some (.lst (((((gs.take j).map Qby).flatMap λw=>yo es ops QaT).map .int).map T.sh)),o])
  (dm (v_ E.lE.1)) ⟨_,rfl⟩ (λj δ ⟨_,e⟩=>by subst e;exact jj rfl) ?turn ?fin
 case turn=>
  rintro j d δ s ⟨o,rfl⟩;obtain⟨i,rfl,_,hi,v,_,m⟩:=jL s;obtain⟨⟨n,i1⟩,hs,c⟩:=t i hi;have u:(((gs.take j).map _).flatMap _).length<64:=List.map_take▸ri (qZ _ _) l;have q:(yo es ops (iQ ks es Qbh)).length<=1000:=by
   unfold yo;rw[t4];exact kv (oI _ _) a
  refine nV E.rK.1 rfl (bS (aR (c_ (ks,es,ss,ops,iQ ks es _) E.ani E.T7 (ai QcW (ai Qb9 (ai (aH (aR (c_ (bs,nm,ks,es,ss,is,os,ws,i) E.sU E.mH QgT (⟨f,k,r,⟨n,i1⟩,hs,c⟩) rfl) rfl)) aG))) (⟨f,k,a,p⟩) (aL _)) rfl)) (b9 _) rfl (by simp only[d8];lia) (aj ⟨some (.sh QaQ),?_⟩);rw[m];simp
 case fin=>
  rintro δ ⟨o,rfl⟩;rw[d8,me];exact bB (RH E.eW (vL E.rK.1) l E.eV) rfl
def gS:FG GP ["chart","opens","going"] ["left","way_top","sorted"] (ak zK):=fG
abbrev uD:=top 38
abbrev uE:=At×AT×AT×AT×AT×AT
noncomputable abbrev Bl:At:=["tree","memory","opens","moods","behind","mood","elder"]
def qg:uE->BA:=λ(ks,es,ss,mem,ops,gD)=>[cQ ks es ss,.lst Qc5,.lst QdQ,.lst (gD.map .int)]
def lF:uE->Prop:=λ(ks,es,ss,mem,ops,gD)=>e7 es/\ks.length=es.length/\mem.length=es.length/\(∀m∈ops,0<=m/\m<es.length)/\(∀m∈gD,0<=m/\m<es.length)
def qh:uE->T:=λ(ks,es,ss,mem,ops,gD)=>(.lst (((R7 Qai es gD mem ops).map .int).map T.sh):T)
structure MK(X:Cx)(CL:BC):Prop extends bI X where
 bE:Ln X 0 "tree"
 c9:Ln X 1 "memory"
 bQ:Ln X 2 "opens"
 fP:Ln X 3 "moods"
 cE:Ln X 4 "behind"
 bY:Ln X 5 "mood"
 ji:Ln X 6 "elder"
 dI:Gl X "list"
 dJ:nR X "list"
 bU:jJ X.K Qac
 ck:aD X.K Qac "elders"
 bP:aD X.K Qac "kinds"
theorem ML(E:MK X CL) :
  ni X CL b uD Bl qg lF qh:=by
 rintro⟨ks,es,ss,mem,ops,gD⟩ h;obtain⟨t,u,hm,p,k⟩:=h;refine aM E.g E.cE (jo E.dJ QbK (b9 _) E.dI cH) ?_;refine gK E.g E.bY (λj δ=>∃f c,δ=[some _,some _,some _,some _,some (.lst (((R7 Qai es gD mem (ops.take j)).map _).map _)),f,c])
  (dm Qgb) ⟨_,_,rfl⟩ (λj δ ⟨_,_,e⟩=>by subst e;exact jj rfl) ?turn ?fin
 case turn=>
  rintro j d δ s ⟨f,c,rfl⟩;obtain⟨x,rfl,_,i,_,_,m⟩:=jL s;have n:=p x i;have r:=Ed Qai es gD (ops.take j) mem;apply aM E.g E.ji (cM (bJ Qhd QaP (f7 We We)) rfl);rw[m,ab5];unfold tU;generalize es.getD _ 0=q;generalize R7 _ es gD mem _=acc at r ⊢;refine fq (qW (iK (w9 Qe9 Qd4 (rfl) rfl).1 (λl=>(jf (cW (bJ QdD Qe9 (fH Str.empty (k q (ko l)).1 (by have:=k q (ko l);lia))) bK).1)))) (λa=>?_) (λa=>aj (aj ?_))
  .rw[lh,tI]at a;have o:=k q a.1;have hlen:((acc.map D.int).map T.sh).length=acc.length:=by simp
   refine B9 (v_ E.bY.1) (c6 E.cE.1 rfl) Qe9 rfl rfl (aaY o.1 We) (aj (aj ?_));rw[di (show q∈gD/\bD ks q=true from a),List.map_set,List.map_set];exact⟨_,_,rfl⟩
  .rw[cq (λz=>by
    have:(decide (q∈gD)&&decide (ks.getD q.toNat Str.empty="one"))=true:=by
     rw[lh,tI];exact z
    rw[this]at a;cases a)]
   exact⟨_,_,rfl⟩
 case fin=>
  rintro δ ⟨f,c,rfl⟩;rw[d8,me];exact bB QfY rfl
def fF:FG Bl ["tree","memory","opens","moods"] ["list"] (ak uD):=fG
abbrev T9:=top 17
abbrev Ua:=At×AT×AT×Int×Int
noncomputable abbrev YU:At:=["tree","upper","mood","steps","elder"]
def GQ:Ua->BA:=λ(ks,es,ss,u,m)=>[cQ ks es ss,.int u,.int m]
def Bm:Ua->Prop:=λ(ks,es,ss,u,m)=>e7 es/\0<=m/\m<es.length/\es.length<=1000
def wF:Ua->T:=λ(ks,es,ss,u,m)=>(.lst (((cR es u m).map .int).map T.sh):T)
structure anj(X:Cx)(CL:BC):Prop extends bI X where
 bE:Ln X 0 "tree"
 jk:Ln X 1 "upper"
 bY:Ln X 2 "mood"
 jh:Ln X 3 "steps"
 ji:Ln X 4 "elder"
 lC:Gl X "above"
 dI:Gl X "list"
 uA:Gl X "reversed"
 oU:Fc X CL "above" 1 2 mq mw mz
 dJ:nR X "list"
 uB:nR X "reversed"
theorem ank(E:anj X CL) :
  ni X CL b T9 YU GQ Bm wF:=by
 rintro⟨ks,es,ss,u,m⟩ h;dsimp [Bm,wF]at h ⊢;have h':=h;have t:(bz es m).length<=es.length+1:=tT _ _ _;apply aM E.g E.jh (fO Qhx aP);refine gK E.g E.ji (λj δ=>∃o,(∀x∈(bz es m).take j,x≠u)/\δ=[some _,some _,some _,some (.lst (((m::(bz es m).take j).map _).map _)),o])
  (dm (dD (c_ (_,_,_,_) E.oU E.lC Qg6 (h') (aL _)))) ⟨_,λx c=>by simp at c,rfl⟩ (λj δ ⟨_,_,e⟩=>by subst e;exact jj rfl) ?turn ?fin
 case turn=>
  rintro j d δ k ⟨o,i,rfl⟩;rw[k4]at k;cases c:(bz es m)[j]? with
  | none=>rw[c]at k;cases k
  | some x=>
   rw[c]at k;cases k;have s:=(kO.1 c).1;have n:(bz es m).take QA=(bz es m).take j++[x]:=by rw[rh,c];rfl
   refine fq (gB Qe9 (aF E.jk)).1 (λl=>Vy ?brk) (λl=>aj ?_)
   case brk=>
    have e:=ko l;have f:(bz es m).takeWhile QcT=(bz es m).take j:=by
     have r:=by
      have h2:=yU j (bz es m);rw[x9 s]at h2;have:=(kO.1 c).2;rw[this]at h2;exact h2.symm
     conv=>lhs;rw[r]
     rw[List.takeWhile_append_of_pos (λy a=>by simpa using i y a),List.takeWhile_cons,if_neg (by simp[e]),List.append_nil]
    apply bB Qkw;unfold cR;rw[f];simp only[List.map_reverse]
   .have e:=l5 l;refine jt E.jh.1 rfl (v_ E.ji.1) rfl WI (aj ?_);have q:(((m::(bz es m).take j).map D.int).map T.sh)++[T.sh Qdx]=((m::(bz es m).take QA).map D.int).map T.sh:=by rw[n];simp
    rw[q];refine⟨_,λy a=>?_,rfl⟩;rw[n]at a;obtain a|a:=gY.1 a
    .exact i y a
    .have:=by simpa using a
     exact this▸e
 case fin=>
  rintro δ ⟨o,i,rfl⟩;apply bB Qkw;rw[d8,me]at i ⊢;unfold cR;have f:(bz es m).takeWhile QcT=bz es m:=by
   have:=List.takeWhile_append_of_pos (p:=λx=>decide _) (l₂:=[]) (λy a=>by simpa using i y a);simpa using this
  rw[f];simp only[List.map_reverse]
def oZ:FG YU ["tree","upper","mood"] ["above","list","reversed"] (ak T9):=fG
abbrev CZ:=top 36
abbrev C1:=At×AT×AT×AT×Int×Nat×Str
noncomputable abbrev Kn:At:=["tree","memory","upper","target","mode","steps","found","step","place"]
def qO:C1->BA:=λ(ks,es,ss,mem,u,tg,mode)=>[cQ ks es ss,.lst Qc5,.int u,.int tg,.str mode]
def qP:C1->Prop:=λ(ks,es,ss,mem,u,tg,mode)=>(es.length<=900/\ks.length=es.length/\ss.length=es.length/\mem.length=es.length/\tg<es.length/\qY mode/\∀k:Nat,k<es.length->aZ ks k=true\/aq ks k=true\/ks.getD k Str.empty="one")/\cX Qax QU es ss mem/\es.length<=41/\(u=-1\/u∈bz es tg)
def qQ:C1->T:=λ(ks,es,ss,mem,u,tg,mode)=>(.lst (((sortI (pw Qax QU es ss mem (ef mode) (gM mode) u tg)).map .int).map T.sh):T)
structure YW(X:Cx)(CL:BC):Prop extends bI X where
 bE:Ln X 0 "tree"
 c9:Ln X 1 "memory"
 jk:Ln X 2 "upper"
 lu:Ln X 3 "target"
 k6:Ln X 4 "mode"
 jh:Ln X 5 "steps"
 dh:Ln X 6 "found"
 eK:Ln X 7 "step"
 jH:Ln X 8 "place"
 Ub:Gl X "road"
 ly:Gl X "opened"
 Bb:Gl X "inner"
 eV:Gl X "sorted"
 anl:Fc X CL "road" 2 3 GQ Bm wF
 sN:Fc X CL "opened" 43 4 qa (ki 40) mj
 Mj:Fc X CL "inner" 1 2 xO pI xP
 eW:nR X "sorted"
 bU:jJ X.K Qac
 bP:aD X.K Qac "kinds"
theorem YX(E:YW X CL) :
  ni X CL b CZ Kn qO qP qQ:=by
 rintro⟨ks,es,ss,mem,u,tg,mode⟩ h;dsimp only [qP,qO,qQ]at h ⊢;obtain⟨zV,A,B,hu⟩:=h;obtain⟨hl,K,hs,hm,v,Px,y⟩:=zV;have J:=A.pre.1;have P:e7 es/\(0:Int)<=tg/\(tg:Int)<es.length/\es.length<=1000:=⟨J,We,We,We⟩;refine aM E.g E.jh (c_ ((ks,es,ss,u,(tg:Int))) E.anl E.Ub (ai QaO (ai (aF E.jk) (ai (aF E.lu) aG))) (P) (aL _)) ?_;rw[show wF _=T.lst _ from rfl];have li:=Fy J (u:=u) (t:=(tg:Int)) We We hu;have aa:(cR es u tg).length<=es.length+2:=by
  unfold cR;rw[t4,lr];have h1:=(KO (l:=bz es (tg:Int)) QcT).length_le;have h2:(bz es (tg:Int)).length<=es.length+1:=tT _ _ _;lia
 have S:(cR es u tg).dropLast.length<=es.length+2:=by rw[List.length_dropLast];lia
 have o:∀(far near:Bool) (k:Nat),k<es.length->(jm Qax QU es ss mem far es.length near k).length<=41:=λfar near k K=>kv (AA A K) B;have ar:(HY ks es ss mem mode tg).length<=41:=o _ _ tg v;have I:∀p:Int,HY ks es ss mem "new" p=jm Qax QU es ss mem false es.length false p:=λp=>by
  unfold HY;rw[show ef "new" = false by decide +kernel,show gM "new" = false by decide +kernel]
 have f:cutD ((cR es u tg).map D.int) none (some (-1))=(cR es u tg).dropLast.map D.int:=by rw[Af,Yn]
 refine aM E.g E.dh (aR (t2:=T.lst (((((cR es u tg).dropLast++HY ks es ss mem mode tg)).map D.int).map T.sh)) (Ah (bS QkV) (bS (c_ ((ks,es,ss,mem,tg,mode)) E.sN E.ly (ai QaO (ai QbK (ai (aF E.lu) (ai (aF E.k6) aG)))) (by dsimp only [ki];exact(⟨⟨hl,K,hs,hm,v,Px,y⟩,A,We⟩)) (aL _))) ((by rw[f];exact b9 _)) (b9 _) (Nat.le_of_lt (cV (by rw[f,List.length_map,List.length_map];exact(show(cR es u tg).dropLast.length+(HY ks es ss mem mode tg).length<=1000 by lia))))) (by rw[f,← List.map_append])) ?_;generalize Y:(λs:Int=>((jl es s).filter _).flatMap Qcg)=F;have V:∀s:Int,(F s).length<=41*41:=λs=>by
  rw[← Y];have h1:((jl es s).filter Qch).length<=41:=kv (oI _ _) (kv (VP es s) B);refine kv (AG (c:=41) λp a=>?_) (Nat.mul_le_mul_right _ h1);have hb:=qF (kc.1 a).1;obtain⟨q,rfl⟩:∃q:Nat,p=q:=⟨p.toNat,We⟩;exact o _ _ q We
 have W:∀l:AT,l.length<=44->(l.flatMap F).length<=44*(41*41):=λl h=>kv (AG (c:=41*41) λp _=>V p) (Nat.mul_le_mul_right _ h);have C:pw Qax QU es ss mem (ef mode) (gM mode) u tg=(cR es u tg).dropLast++HY ks es ss mem mode tg++((cR es u tg).dropLast.filter Qcr).flatMap F:=by
  rw[← Y];rfl
 have G:=ace A (far:=ef mode) (near:=gM mode) v hu (iP:=cR es u tg) li;have hpl:=G.length_eq;have n:=(VX (isAll:=aq ks) (es:=es) (ss:=ss) (mem:=mem) (far:=ef mode) (near:=gM mode) (iP:=cR es u tg) (t:=tg) es.length).2.2.2.1;rw[hpl]at n;rw[C]at n ⊢;clear C G hpl;have z:∀s∈(cR es u tg).dropLast,0<=s/\s<es.length:=λs hs=>by
  have:=jN J v ((li s).1 (xq J v hs).1);lia
 generalize ng:(cR es u tg).dropLast++HY ks es ss mem mode tg=base at n ⊢;have OJ:base.length<=100:=by
  rw[← ng,kr];lia
 generalize ab:(cR es u tg).dropLast=r at S z n f ⊢;refine gK E.g E.eK (λj δ=>∃w m,δ=[some (.sh QaU),some QjC,some (.sh (.int u)),some (.sh (.int tg)),some (.sh (.str mode)),some QkR,some (.lst (((base++((r.take j).filter Qcr).flatMap F).map .int).map T.sh)),w,m])
  (dm (dD (aR QkV (by rw[f])))) ⟨_,_,by simp;rfl⟩ (λj δ ⟨_,_,e⟩=>by subst e;exact jj rfl) ?turn ?fin
 case turn=>
  rintro j d δ hj ⟨w,m,rfl⟩;obtain⟨x,rfl,_,L,B7,_,uT⟩:=jL hj;have M:=z x L;have R:((r.take j).filter Qcr).length<=44:=kv (oI _ _) (by rw[nr];lia);have ag:=W _ R;refine fq (cW (bJ QdD (aF E.eK) (fH Str.empty M.1 We)) bK).1 (λa=>?_) (λa=>aj (aj ?_))
  .have a:aq ks x=true:=a;have Z:((r.take QA).filter Qcr).flatMap F=((r.take j).filter Qcr).flatMap F++F x:=by
    rw[uT,mE,oP a,uk,wj];simp
   show fh X CL b _ _ {nx:=λδ=>fh X CL b _ δ {nx:=λδ=>∃w m,δ=[_,_,_,_,_,_,some (.lst (((base++((r.take QA).filter Qcr).flatMap F).map .int).map T.sh)),w,m],rt:=_,bk:=_,ct:=_},rt:=_,bk:=_,ct:=_};rw[Z,← jc];generalize U:base++((r.take j).filter Qcr).flatMap F=cur;have qH:cur.length<=100+44*(41*41):=by rw[← U,kr];lia
   have eF:F x=((jl es x).filter Qch).flatMap Qcg:=by rw[← Y]
   have JQ:=VP es x;refine gK E.g E.jH (λi δ=>∃m,δ=[some (.sh QaU),some QjC,some (.sh (.int u)),some (.sh (.int tg)),some (.sh (.str mode)),some QkR,some (.lst (((cur++(((jl es x).take i).filter Qch).flatMap Qcg).map .int).map T.sh)),some (.sh Qdx),m])
    (dm (dD (c_ ((ks,es,ss,x)) E.Mj E.Bb (ai QaO (ai (aF E.eK) aG)) ((by dsimp only [pI];lia)) (aL _)))) ⟨_,by simp;rfl⟩ (λj δ ⟨_,e⟩=>by subst e;exact Nat.le_of_ble_eq_true rfl) ?Gh ?fin2
   case Gh=>
    rintro i d δ hi ⟨m,rfl⟩;obtain⟨p,rfl,_,O,ae,_,H⟩:=jL hi;have hb:=qF O;obtain⟨q,rfl⟩:∃q:Nat,p=q:=⟨p.toNat,We⟩;have N2:((((jl es x).take i).filter Qch).flatMap Qcg).length<=41*41:=by
     have h1:(((jl es x).take i).filter Qch).length<=41:=kv (oI _ _) (by rw[nr];lia);refine kv (AG (c:=41) λp a=>?_) (Nat.mul_le_mul_right _ h1);have hb:=qF (t5 (kc.1 a).1);obtain⟨q,rfl⟩:∃q:Nat,p=q:=⟨p.toNat,We⟩;exact o _ _ q We
    refine fq (D6 (l:=cR es u tg) (aF E.jH) (vL E.jh.1) rfl rfl).1 (λN=>?_) (λN=>aj (aj ?_))
    .refine nV E.dh.1 rfl (bS (aR (c_ ((ks,es,ss,mem,q,("new":Str))) E.sN E.ly (ai QaO (ai QbK (ai (aF E.jH) (ai bK aG)))) (by dsimp only [ki];exact(⟨⟨hl,K,hs,hm,We,.inl rfl,y⟩,A,We⟩)) (aL _)) rfl)) (b9 _) rfl ?len (aj (aj ?_))
     case len=>
      have:=o false false q We;rw[I];simp only[d8,kr];lia
     have e1:(((cur++(((jl es x).take i).filter Qch).flatMap Qcg).map D.int).map T.sh)++(((HY ks es ss mem "new" q).map D.int).map T.sh)=((cur++(((jl es x).take QaR).filter Qch).flatMap Qcg).map D.int).map T.sh:=by
      rw[H,mE,oP (p:=λp=>!decide (p∈cR es u tg)) N,uk,wj,I,← jc,← jI,← jI];simp
     rw[show((((cur++(((jl es x).take i).filter _).flatMap Qcg).map D.int).map T.sh)++(((HY ks es ss mem "new" q).map D.int).map T.sh))=_ from e1];exact⟨_,rfl⟩
    .have e1:(((jl es x).take i).filter Qch).flatMap Qcg=(((jl es x).take QaR).filter Qch).flatMap Qcg:=by
      rw[H,mE,ue (by rw[N];decide),uk,j2]
     rw[e1];exact⟨_,rfl⟩
   case fin2=>
    rintro δ ⟨m,rfl⟩;rw[d8,me];refine aj (aj ?_);dsimp only;rw[eF];exact⟨_,_,rfl⟩
  .have a:aq ks x=false:=a;have e1:((r.take j).filter Qcr).flatMap F=((r.take QA).filter Qcr).flatMap F:=by
    rw[uT,mE,ue (p:=λs=>aq ks s) (by rw[a];decide),uk,j2]
   rw[e1];exact⟨_,_,rfl⟩
 case fin=>
  rintro δ ⟨w,m,rfl⟩;rw[d8,me];exact bB (kg E.eW (vL E.dh.1) We E.eV) rfl
def d7:FG Kn ["tree","memory","upper","target","mode"] ["road","opened","inner","sorted"] (ak CZ):=fG
abbrev rL:=top 44
abbrev rM:=BA×BA×At×AT×AT×BA×BA×List bG×AT×AT
noncomputable abbrev yC:At:=["chart","memory","going","come","number","way"]
def jZ:rM->BA:=λ(bs,nm,ks,es,ss,is,os,ws,mem,gs)=>[iu bs nm QaU is os QaV,.lst Qc5,.lst (gs.map .int)]
def i6:rM->Prop:=λ(bs,nm,ks,es,ss,is,os,ws,mem,gs)=>(es.length<=40/\ks.length=es.length/\ss.length=es.length/\mem.length=es.length/\∀k:Nat,k<es.length->aZ ks k=true\/aq ks k=true\/ks.getD k Str.empty="one")/\cX Qax QU es ss mem/\(∀i∈gs,QeA/\Qgu/\(0<=(dF ws i).i3/\(dF ws i).i3<es.length)/\qY (dF ws i).mode/\Qk0)/\((gs.map Qby).flatMap Qc6).length<64
def j3:rM->T:=λ(bs,nm,ks,es,ss,is,os,ws,mem,gs)=>(.lst (((pT ks es ss mem (gs.map Qby)).map .int).map T.sh):T)
structure IG(X:Cx)(CL:BC):Prop extends bI X where
 aC:Ln X 0 "chart"
 c9:Ln X 1 "memory"
 lE:Ln X 2 "going"
 uf:Ln X 3 "come"
 cy:Ln X 4 "number"
 eu:Ln X 5 "way"
 C2:Gl X "entered"
 mH:Gl X "way_top"
 nE:Gl X "TARGET"
 MN:Gl X "MODE"
 eV:Gl X "sorted"
 YY:Fc X CL "entered" 44 5 qO qP qQ
 sU:Fc X CL "way_top" 4 2 nJ kJ nK
 nF:∃u,X.mg "TARGET" = some (.int 4 u)
 MP:∃u,X.mg "MODE" = some (.int 5 u)
 eW:nR X "sorted"
 az:jJ X.K QJ
 bu:aD X.K QJ "ways"
 aV:aD X.K QJ "tree"
theorem II(E:IG X CL) :
  ni X CL b rL yC jZ i6 j3:=by
 rintro⟨bs,nm,ks,es,ss,is,os,ws,mem,gs⟩ h;dsimp only [i6,jZ,j3]at h ⊢;obtain⟨⟨C,s,k,u,m⟩,t,z,q⟩:=h;have x:=t.pre.1;have a:∀l:List bG,(l.flatMap _).length=(l.flatMap Qc6).length:=λl=>(Cp l).length_eq;refine aM E.g E.uf QaS ?_;refine gK E.g E.cy (λj δ=>∃o o',δ=[some _,some _,some _,some (.lst (((((gs.take j).map Qby).flatMap λw=>sortI Qfz).map .int).map T.sh)),o,o'])
  (dm (v_ E.lE.1)) ⟨_,_,rfl⟩ (λj δ ⟨_,_,e⟩=>by subst e;exact jj rfl) ?turn ?fin
 case turn=>
  rintro j d δ y ⟨o,o',rfl⟩;obtain⟨i,rfl,_,hi,D,_,v⟩:=jL y;obtain⟨⟨r,i1⟩,hs,f,A,c⟩:=z i hi;have B:(((gs.take j).map Qby).flatMap λw=>sortI Qfz).length<64:=by
   rw[a,List.map_take];exact ri (qZ _ _) q
  have p:(((gs.take QA).map Qby).flatMap λw=>sortI Qfz).length<64:=by
   rw[a,List.map_take];exact ri (qZ _ _) q
  have e2:((gs.take QA).map Qby).flatMap (λw=>sortI Qfz)=(((gs.take j).map Qby).flatMap λw=>sortI Qfz)++sortI (Ig ks es ss mem Qbh):=by
   rw[v,jI];simp
  rw[e2,kr]at p;have n:((dF ws i).i3.toNat:Int)=(dF ws i).i3:=by lia
  refine aM E.g E.eu (aR (Ro Qeo QeL (fH w0 r i1)) (t2:=.sh (gO Qbh)) rfl) ?_;refine nV E.uf.1 rfl (bS (aR (c_ (ks,es,ss,mem,iQ ks es _,(dF ws i).i3.toNat,(dF ws i).mode) E.YY E.C2 (ai QcW (ai QbK (ai (aH (aR (c_ (bs,nm,ks,es,ss,is,os,ws,i) E.sU E.mH QgT (by exact⟨x,We,s,⟨r,i1⟩,hs,f⟩) rfl) rfl)) (ai (Dd Qgt (congrArg _ n.symm)) (ai Qih aG))))) (by exact⟨⟨We,s,k,u,We,A,m⟩,t,We,c⟩) (aL _)) (t2:=.lst (((sortI (Ig ks es ss mem _)).map .int).map T.sh)) rfl)) (b9 _) rfl (by simp only[d8];lia) (aj ⟨some (.sh QaQ),some (.sh (gO Qbh)),?_⟩);rw[e2];simp
 case fin=>
  rintro δ ⟨o,o',rfl⟩;rw[d8,me];refine bB (kg E.eW (vL E.uf.1) (by rw[a];exact q) E.eV) ?_;rw[J1 (Cp _)];rfl
def cG:FG yC ["chart","memory","going"] ["entered","way_top","TARGET","MODE","sorted"] (ak rL):=fG
abbrev GR:=top 40
abbrev GU:=BA×BA×At×AT×AT×BA×BA×List bG×Int
noncomputable abbrev P8:At:=["chart","mood","way"]
def uF:GU->BA:=λ(bs,nm,ks,es,ss,is,os,ws,m)=>[iu bs nm QaU is os QaV,.int m]
def qi:GU->Prop:=λ(bs,nm,ks,es,ss,is,os,ws,m)=>e7 es/\ks.length=es.length/\es.length<=1000/\0<=m/\m<es.length
def qj:GU->T:=λ(bs,nm,ks,es,ss,is,os,ws,m)=>(.sh (.bl (kE ks es ws m)):T)
structure ad1(X:Cx)(CL:BC):Prop extends bI X where
 aC:Ln X 0 "chart"
 bY:Ln X 1 "mood"
 eu:Ln X 2 "way"
 MN:Gl X "MODE"
 nE:Gl X "TARGET"
 nG:Gl X "within"
 MP:∃u,X.mg "MODE" = some (.int 5 u)
 nF:∃u,X.mg "TARGET" = some (.int 4 u)
 nI:Fc X CL "within" 2 3 mC mF mG
 az:jJ X.K QJ
 bU:jJ X.K Qac
 bu:aD X.K QJ "ways"
 bP:aD X.K Qac "kinds"
 aV:aD X.K QJ "tree"
theorem ad2(E:ad1 X CL) :
  ni X CL b GR P8 uF qi qj:=by
 rintro⟨bs,nm,ks,es,ss,is,os,ws,m⟩ h;dsimp [qj]at h ⊢;obtain⟨p,s,q,m0,m1⟩:=h;refine fq (aaO (bJ (bN E.bU E.bP QcW iO) QaP (fH Str.empty m0 We)) bK).1 (λa=>?_) (λa=>aj ?_)
 .apply bB sd;have:bD ks m=false:=by
   rw[yA]at a;exact a
  unfold kE;rw[this];rfl
 have l:bD ks m=true:=by
  rw[Bool.not_eq_false']at a;exact a
 have f:kE ks es ws m=ws.any (FJ es m):=by unfold kE;rw[l];rfl
 rw[f];refine gK E.g E.eu (λj δ=>(∀i x,i<j->ws[i]? = some x->FJ es m x=false)/\∃o,δ=[some _,some _,o])
  (dm Qeo) ⟨λi x hi=>by lia,_,rfl⟩ (λj δ ⟨_,_,e⟩=>by subst e;exact jj rfl) ?turn ?fin
 case turn=>
  rintro j d δ r ⟨n,o,rfl⟩;obtain⟨w,rfl,hw,_,t,_,_⟩:=jL r;refine fq (qW (iK (aaO Qih bK).1 (λ_=>jf (gB Qgt QaP).1))) (λa=>?_) (λa=>aj ?_)
  .apply bB sd;rw[O5 hw (by unfold FJ;rw[a];rfl)]
  refine fq (qW (iK (cW Qih bK).1 (λ_=>jf (uN (c_ (ks,es,ss,m,w.i3) E.nI E.nG (ai QcW (ai QaP (ai Qgt aG))) (⟨p,m0,m1,q⟩) rfl))))) (λk=>?_) (λk=>aj (aj ?_))
  .apply bB sd;rw[O5 hw (by unfold FJ;rw[k,Bool.or_true])]
  .refine⟨λi x hi c=>?_,_,rfl⟩;by_cases e:i=j
   .subst e;rw[hw]at c;cases c;unfold FJ;rw[a,k];rfl
   .exact n i x We c
 case fin=>
  rintro δ ⟨n,o,rfl⟩;apply bB sd;rw[any_none λi x c=>n i x (by rw[d8];exact(kO.1 c).1) c]
def mJ:FG P8 ["chart","mood"] ["MODE","TARGET","within"] (ak GR):=fG
abbrev zM:=top 45
abbrev zN:=BA×BA×At×AT×AT×BA×Cl×List bG×AT×AT×AT
noncomputable abbrev GV:At:=["chart","gone","memory","behind","rows","mood"]
def uG:zN->BA:=λ(bs,nm,ks,es,ss,is,os,ws,gone,mem,bh)=>[iu bs nm QaU is (os.map .tup) QaV,.lst (gone.map .int),.lst Qc5,.lst (bh.map .int)]
def pA:zN->Prop:=λ(bs,nm,ks,es,ss,is,os,ws,gone,mem,bh)=>e7 es/\es.length<=1000/\ks.length=es.length/\os.length=es.length/\mem.length=es.length/\bh.length=es.length/\q8 os/\gone.length<=1000/\∀m∈gone,0<=m/\m<es.length
def pB:zN->T:=λ(bs,nm,ks,es,ss,is,os,ws,gone,mem,bh)=>(.lst ((Ih QdU os mem bh gone).map T.sh):T)
structure Uc(X:Cx)(CL:BC):Prop extends bI X where
 aC:Ln X 0 "chart"
 rK:Ln X 1 "gone"
 c9:Ln X 2 "memory"
 cE:Ln X 3 "behind"
 cj:Ln X 4 "rows"
 bY:Ln X 5 "mood"
 GX:Gl X "heeded"
 GY:Fc X CL "heeded" 3 2 uF qi qj
 az:jJ X.K QJ
 kZ:aD X.K QJ "outs"
theorem Ud(E:Uc X CL) :
  ni X CL b zM GV uG pA pB:=by
 rintro⟨bs,nm,ks,es,ss,is,os,ws,gone,mem,bh⟩ h;dsimp [pB]at h ⊢;obtain⟨l,p,q,n,v,x,f,s,t⟩:=h;apply aM E.g E.cj QaS;refine gK E.g E.bY (λj δ=>∃o,δ=[some _,some _,some _,some _,some (.lst ((Ih QdU os mem bh (gone.take j)).map T.sh)),o])
  (dm (v_ E.rK.1)) ⟨_,rfl⟩ (λj δ ⟨_,e⟩=>by subst e;exact jj rfl) ?turn ?fin
 case turn=>
  rintro j d δ r ⟨o,rfl⟩;obtain⟨m,rfl,_,hm,y,_,i⟩:=jL r;obtain⟨m0,m1⟩:=t m hm;have c:=(Lh (DN:=kE ks es ws) (mem:=mem) (bh:=bh) f (gone.take j)).1;have k:(gone.take j).length<=j:=by simp;lia
  obtain⟨g1,g2⟩:=f.get m.toNat;rw[i,Yq];generalize Ih _ os _ bh _=rs at c ⊢;apply jt E.cj.1 rfl (je (aE fS Qhx) aP) rfl (by rw[d8];lia);refine yi (λδ=>δ=[some (.sh (iu bs nm QaU is (os.map .tup) QaV)),some (.sh (.lst (gone.map .int))),some QjC,some (.sh (.lst (bh.map .int))),some (.lst ((rs++(D.tup [.str "out",.int m]::(if kE ks es ws m=true then [D.tup [.str "keep",.int m,.int Qjo,.int QjL]] else []))).map T.sh)),some QbI])
   (uN (aR (c_ (bs,nm,ks,es,ss,is,os.map _,ws,m) E.GY E.GX (ai QaC (ai QaP aG)) (⟨l,q,p,m0,m1⟩) rfl) rfl)) (λa=>?_) (λa=>?_) ?_
  .rw[di a];refine jt E.cj.1 rfl (je (aE fS (aE (v_ E.bY.1) (aE (cM (bJ QbK QaP (f7 m0 We)) rfl) (aE (cM (bJ (aF E.cE) QaP (f7 m0 We)) rfl) f9)))) aP) rfl WI (aj ?_);simp
  .rw[cq (by rw[a];decide)];apply aj;simp
  rintro δ rfl;have u:(if kE ks es ws m=true then [D.tup [.str "keep",.int m,.int Qjo,.int QjL]] else []).length<=1:=by split<;>simp
  generalize (if kE ks es ws m=true then [D.tup _] else [])=w at u ⊢;refine nV E.cj.1 rfl (bJ (bN E.az E.kZ QaC FD) QaP (fH [] m0 We)) g2 rfl (by rw[d8,kr,lr];lia) (aj ⟨some QbI,?_⟩);simp
 case fin=>
  rintro δ ⟨o,rfl⟩;rw[d8,me];exact bB QdW rfl
def iJ:FG GV ["chart","gone","memory","behind"] ["heeded"] (ak zM):=fG
abbrev zO:=top 46
abbrev zP:=BA×BA×D×BA×BA×List bG×Nat×AT
noncomputable abbrev GZ:At:=["chart","ways","rows","number"]
def uH:zP->BA:=λ(bs,nm,tr,is,os,ws,n,sel)=>[iu bs nm tr is os QaV,.lst (sel.map .int)]
def pC:zP->Prop:=λ(bs,nm,tr,is,os,ws,n,sel)=>sel.length<=1000/\(∀i∈sel,QeA/\y2 n Qbh)
def pD:zP->T:=λ(bs,nm,tr,is,os,ws,n,sel)=>(.lst ((Ii ws sel).map T.sh):T)
structure Ue(X:Cx)(CL:BC):Prop extends bI X where
 aC:Ln X 0 "chart"
 jO:Ln X 1 "ways"
 cj:Ln X 2 "rows"
 cy:Ln X 3 "number"
 ahS:Gl X "DEEDS"
 ahT:∃u,X.mg "DEEDS" = some (.int 3 u)
 az:jJ X.K QJ
 bu:aD X.K QJ "ways"
theorem Ug(E:Ue X CL) :
  ni X CL b zO GZ uH pC pD:=by
 rintro⟨bs,nm,tr,is,os,ws,n,sel⟩ h;dsimp [pD]at h ⊢;obtain⟨p,hs⟩:=h;apply aM E.g E.cj QaS;refine gK E.g E.cy (λj δ=>∃o,δ=[Option.some _,Option.some _,Option.some (.lst ((Ii ws (sel.take j)).map T.sh)),o])
  (dm (v_ E.jO.1)) ⟨_,rfl⟩ (λj δ ⟨_,e⟩=>by subst e;exact jj rfl) ?turn ?fin
 case turn=>
  rintro j d δ m ⟨o,rfl⟩;obtain⟨i,rfl,_,hi,q,_,a⟩:=jL m;obtain⟨⟨c,i1⟩,hw⟩:=hs i hi;have l:=(Li (some:=sel.take j) (λx f=>(hs x (t5 f)).2)).1;have k:(sel.take j).length<=j:=by simp;lia
  have d1:=hw.2.2.2.1;apply jt E.cj.1 rfl (je (aE fS (aE (v_ E.cy.1) f9)) aP) rfl (by rw[d8];lia);refine nV E.cj.1 rfl (aX (bJ Qiw QeL (fH w0 c i1)) (aH (eO E.ahT E.ahS)) Pf) hw.2.2.2.2.1 rfl (by rw[kr,d8];show _+1+(dF ws i).ym.length<=_;lia) (aj ⟨Option.some (.sh QaQ),?_⟩);rw[a,Yr,jI,jc];rfl
 case fin=>
  rintro δ ⟨o,rfl⟩;rw[d8,me];exact bB QdW rfl
def kK:FG GZ ["chart","ways"] ["DEEDS"] (ak zO):=fG
abbrev Ey:=top 41
abbrev MQ:=BA×BA×At×AT×AT×Cl×Cl×List bG×AT×AT×AT
noncomputable abbrev WN:At:=["chart","opens","memory","ways","going","gone","behind","come","script"]
def xW:MQ->BA:=λ(bs,nm,ks,es,ss,is,os,ws,ch,mem,so)=>[iu bs nm QaU (is.map .tup) (os.map .tup) QaV,.lst ((dO QU es ch Q2).map .int),.lst Qc5,.lst (so.map .int)]
def xX:MQ->Prop:=λ(bs,nm,ks,es,ss,is,os,ws,ch,mem,so)=>iS ks es ss is os ws/\(ch.length=es.length/\ye Qai es ch)/\yp ks es mem/\lZ ks es ws Qaz so
def sW:MQ->T:=λ(bs,nm,ks,es,ss,is,os,ws,ch,mem,so)=>(.tup [.lst ((C4 ks es ss is os ws mem Qaz so).map T.sh),.lst (((yf ks es ss (BJ ks es ws mem Qaz QaE) Qaz QaE).map .int).map T.sh),.lst (((BJ ks es ws mem Qaz QaE).map .int).map T.sh)]:T)
structure ahU(X:Cx)(CL:BC):Prop extends bI X where
 aC:Ln X 0 "chart"
 oV:yW X "chart"
 bQ:Ln X 1 "opens"
 c9:Ln X 2 "memory"
 jO:Ln X 3 "ways"
 lE:Ln X 4 "going"
 rK:Ln X 5 "gone"
 anm:yW X "gone"
 cE:Ln X 6 "behind"
 uf:Ln X 7 "come"
 bT:Ln X 8 "script"
 zQ:Gl X "all_left"
 uI:Gl X "remembered"
 rN:Gl X "all_entered"
 zR:Gl X "out_rows"
 zS:Gl X "way_rows"
 sO:Gl X "in_rows"
 eV:Gl X "sorted"
 Uh:Fc X CL "all_left" 5 3 uC oX oY
 MR:Fc X CL "remembered" 1 4 qg lF qh
 IJ:Fc X CL "all_entered" 45 3 jZ i6 j3
 Ui:Fc X CL "out_rows" 4 4 uG pA pB
 Uj:Fc X CL "way_rows" 1 2 uH pC pD
 CJ:Fc X CL "in_rows" 1 2 qL nA nB
 eW:nR X "sorted"
 ux:Fc X CL "has_target" 1 2 lA iC lB
 GY:Fc X CL "heeded" 3 2 uF qi qj
 az:jJ X.K QJ
 aV:aD X.K QJ "tree"
theorem ahV(E:ahU X CL) :
  ni X CL b Ey WN xW xX sW:=by
 rintro⟨bs,nm,ks,es,ss,is,os,ws,ch,mem,so⟩ h;dsimp only [xX,xW,sW]at h ⊢;obtain⟨a,⟨y,B⟩,hm,hs⟩:=h;have o:=a.pre.1;have n0:=a.n0;have n1:=a.n1;have u:=hs.ot a;have m:=hs.xa a;have j:=hs.i;have K:=hs.l;have e:=hs.ap;have s:∀x∈dO QU es ch Q2,0<=x/\x<es.length:=λx f=>uO n0 f;have q:=gE (isAll:=aq ks) (es:=es) (ch:=ch) Q2;have L:=Ay (isAll:=aq ks) (es:=es) (ch:=ch) Q2;obtain⟨OX,_,_,_,U⟩:=AK a.kd (a.tree (Dp a B y hm QaE)) n0 y B e u;have k:=Dp a B y hm QaE;have I:=a.tree k;obtain⟨f1,f2⟩:=OY (ks:=ks) o q s e;obtain⟨g1,g2⟩:=Cm (ks:=ks) o q s e;obtain⟨Z,P,O⟩:=OZ I e u;have c:∀x∈lX ks es Qaz QaE,0<=x/\x<es.length:=λx f=>s x (jF.1 f).1;have r:(so.filter QcG).map Qby=iR ws so:=rfl;have t:∀i∈so.filter QcG,QeA/\Qgu/\(0<=(dF ws i).i3/\(dF ws i).i3<es.length)/\qY (dF ws i).mode/\Qk0:=λi hi=>by
  have h1:=(kc.1 hi).1;have w:=m i h1;have g:=u Qbh (j0.2 ⟨i,hi,rfl⟩);exact⟨(j i h1).1,w.1,g.1,w.2.2.1,g.up⟩
 unfold C4;generalize S:dO QU es ch Q2=ops at *;refine RJ (p:=λd=>lY ws d.yb) (gg:=λd=>T.sh d) E.g E.lE Qgz (dm (v_ E.jO.1)) QaH (λC s0 J f0 H d hd=>?avz) QeZ ?rest (by exact jj rfl) QhC
 case avz=>
  obtain⟨i,hi,rfl⟩:=j0.1 hd;exact⟨uN (c_ (bs,nm,cQ ks es ss,is.map .tup,os.map .tup,ws,i) (jV E.ux) uV (ai (gC 1) QhU) (by dsimp only [iC];exact(j i hi).1) rfl),λ_=>(v_ (Fi 0))⟩
 case rest=>
 have G:(((so.map D.int).filter (λd=>lY ws d.yb)).map λd=>T.sh d)=((so.filter QcG).map D.int).map T.sh:=by
  rw[q9,kq];exact(kq ..).symm
 rw[G];refine aM E.g E.rK (dD (ds:=(lX ks es ops QaE).map .int) (aR (c_ (bs,nm,ks,es,ss,is.map .tup,os.map .tup,ws,ops,so.filter QcG) E.Uh E.zQ (ai QaC (ai Qb9 (ai (vL E.lE.1) aG))) (by dsimp only [oX];exact⟨o,We,a.kl,We,s,λi hi=>⟨(t i hi).1,(t i hi).2.1,(t i hi).2.2.1⟩,by rw[r];lia⟩) (aL _)) rfl)) ?_;have N:((lX ks es ops QaE).filter QdU).length<=es.length:=kv (oI _ _) g2;refine aM E.g E.cE (aR (c_ (ks,es,ss,mem,ops,(lX ks es ops QaE).filter QdU) E.MR E.uI (ai QcW (ai QbK (ai Qb9 (ai (bS (aR (oH (p:=λd=>kE ks es ws d.yb) (g:=λd=>T.sh d) Qgz E.g.calm (dm (v_ E.rK.1)) QaH (λC s0 J f0 H d hd=>?amU) QeZ) (t2:=.lst _) (by
  refine congrArg T.lst ?_;rw[q9,kq];exact(List.map_map ..).symm))) aG)))) (by dsimp only [lF];exact⟨o,a.kl,hm.1,s,λx f=>c x (List.mem_filter.1 f).1⟩) (aL _)) (t2:=.lst (((BJ ks es ws mem ops QaE).map .int).map T.sh)) rfl) ?_
 case amU=>
  obtain⟨i,hi,rfl⟩:=j0.1 hd;exact⟨uN (c_ (bs,nm,ks,es,ss,is.map .tup,os.map .tup,ws,i) (jV E.GY) uV (ai (gC 1) QhU) (by dsimp only [qi];exact⟨o,a.kl,We,(c i hi).1,(c i hi).2⟩) rfl),λ_=>(v_ (Fi 0))⟩
 generalize Y:BJ ks es ws mem ops QaE=bh at *;refine aM E.g E.uf (aR (c_ (bs,nm,ks,es,ss,is.map .tup,os.map .tup,ws,bh,so.filter QcG) E.IJ E.rN (ai QaC (ai (vL E.cE.1) (ai (vL E.lE.1) aG))) (by dsimp only [i6];exact⟨⟨n1,a.kl,a.sl,k.1,a.kinds⟩,I,t,by rw[r];lia⟩) (aL _)) rfl) ?_;obtain⟨W,z⟩:=Lh (DN:=kE ks es ws) (mem:=mem) (bh:=bh) a.or (lX ks es ops QaE);obtain⟨V,v⟩:=Li (n:=es.length) m;have R:(pT ks es ss bh QaE).length<=es.length:=by unfold pT;rw[pF];exact P
 have A:∀x∈pT ks es ss bh QaE,0<=x/\x<is.length:=λx f=>by
  rw[a.il];exact(O x (eZ.1 f)).1
 obtain⟨i1,i2⟩:=FL a.ir (pT ks es ss bh QaE);refine aM E.g E.bT (Ah (bS (Ah (bS (aR (c_ (bs,nm,ks,es,ss,is.map .tup,os,ws,lX ks es ops QaE,mem,bh) E.Ui E.zR (ai QaC (ai (aF E.rK) (ai QbK QjR))) (by dsimp only [pA];exact⟨o,We,a.kl,a.ol,hm.1,k.1,a.or,We,c⟩) (fc z)) (t2:=.lst _) rfl))
  (bS (aR (c_ (bs,nm,cQ ks es ss,is.map .tup,os.map .tup,ws,es.length,so) E.Uj E.zS (ai QaC (ai (aF E.jO) aG)) (by dsimp only [pC];exact⟨We,λi hi=>⟨(j i hi).1,m i hi⟩⟩) (fc v)) (t2:=.lst ((Ii ws so).map T.sh)) rfl)) z v (Nat.le_of_lt (cV We))))
  (bS (aR (c_ (bs,nm,cQ ks es ss,is,os.map .tup,ws.map gO,pT ks es ss bh QaE) E.CJ E.sO (ai QaC (ai (vL E.uf.1) aG)) (by dsimp only [nA];exact⟨a.ir,We,A⟩) (fc i2)) rfl)) (O4 z v) i2 (Nat.le_of_lt (cV (by rw[List.length_append];lia)))) ?_
 have F:((((ops.map D.int).filter (λd=>!decide (d.yb∈lX ks es ops QaE))).map λd=>T.sh d))=((ops.filter Qid).map D.int).map T.sh:=by
  rw[q9,kq];exact(kq ..).symm
 have M:(ops.filter Qid).length<=ops.length:=oI _ _;refine bB (tH (aY (vM E.bT.1) (aY (aR (kg E.eW (bS (aR (Ah (Xv:=(pT ks es ss bh QaE).map .int) (bS (aR (oH (g:=λd=>T.sh d) (bM (.cons E.rK.1 (.inl E.anm) .nil) Wl) E.g.calm (dm Qgb) QaH (λC s0 J f0 H d hd=>?amV) QeZ) (congrArg T.lst F))) (vL E.uf.1) (b9 _) (b9 _) (ml (cV (by simp only[d8];lia)))) (t2:=.lst (((ops.filter Qid++pT ks es ss bh QaE).map .int).map T.sh)) (by rw[← jI]))) We E.eV) rfl) (aY QfY bA))) aP) rfl
 case amV=>
  obtain⟨i,hi,rfl⟩:=j0.1 hd;exact⟨(D6 (l:=lX ks es ops QaE) (kD 0) (gC 1) rfl rfl).1,λ_=>(v_ (Fi 0))⟩
def eX:N9 (ak Ey) ([("chart",.cell),("opens",cZ),("memory",cZ),("ways",cZ),("going",cZ),("gone",.cell),("behind",cZ),("come",cZ),("script",cZ),("all_left",bX),("remembered",bX),("all_entered",bX),("out_rows",bX),("way_rows",bX),("in_rows",bX),("sorted",bX)])=true:=by decide +kernel
def ad3:cU WN ["chart","opens","memory","ways"] (ak Ey):=jC
abbrev lG:=inClass (top 61) 1
abbrev lH:=CH×Pl×BA×AT×EU×Str
noncomputable abbrev qR:At:=["self","sign","opens","ways","move"]
def jQ:lH->BA:=λ(c,p,pa,bs,ex,sg)=>[.ins "NestRun" (vH c.d (Dq p) pa bs ex),.str sg]
def ic:lH->Prop:=λ(c,p,pa,bs,ex,sg)=>c.Ok/\Gd c p/\bs.length=c.bs.length
def jR:lH->T:=λ(c,p,pa,bs,ex,sg)=>(.tup [.lst (((goN c p sg bs).1.map It.d).map T.sh),.tup [.lst (((goN c p sg bs).2.1.map .int).map T.sh),.lst (((goN c p sg bs).2.2.map .int).map T.sh)]]:T)
structure Bo(X:Cx)(CL:BC):Prop extends bI X where
 cg:Ln X 0 "self"
 lq:Ln X 1 "sign"
 bQ:Ln X 2 "opens"
 jO:Ln X 3 "ways"
 MS:Ln X 4 "move"
 MT:Gl X "kept"
 MV:Gl X "picks"
 MX:Gl X "moved"
 C3:Fc X CL "kept" 5 2 Be Bf Bg
 ahW:Fc X CL "picks" 4 4 CW CY xU
 ahX:Fc X CL "moved" 46 4 xW xX sW
 az:jJ X.K QJ
 aK:jJ X.K Qag
 cS:aD X.K Qag "place"
 i7:aD X.K Qag "chart"
 fC:aD X.K QJ "boxes"
 cC:aD X.K Qag "boxes"
theorem Bp(E:Bo X CL) :
  ni X CL b lG qR jQ ic jR:=by
 rintro⟨c,p,pa,bs,ex,sg⟩ h;obtain⟨i,j,o⟩:=h;have go:=FU i j sg bs;have hs:=go.s;have hd:=go.d;obtain⟨ch,⟨u,t⟩,e,r⟩:=j;have a:=i.k;have n0:=a.n0;have n1:=a.n1;have wl:=a.wl;have v:∀x∈p.1,0<=x/\x<c.es.length:=e▸λx l=>uO n0 l;have m:p.1.length<=c.es.length:=by have:=Ay (isAll:=aq c.ks) (es:=c.es) (ch:=ch) Qbr;lia
 have hpl:=V4 c.ws p.1 bs sg c.es (Yv c.ks p.1);have n:(Yv c.ks p.1).length<=p.1.length:=oI _ _;have f:∀k∈Nx _ p.1 bs sg c.es (Yv c.ks p.1),0<=k/\k<c.ws.length:=amn;show fh X CL b _ _ {nx:=_,rt:=λy _=>y=T.tup _,bk:=_,ct:=_};rw[hd];apply aM E.g E.bQ QkS;refine aM E.g E.jO (aR (c_ (c.bs.map vC,c.nm,c.ks,c.es,c.ss,c.is.map _,c.os.map _,c.ws,Nx _ p.1 bs sg _ _) E.C3 E.MT (ai QiR (ai (bS (aR (c_ (c.bs.map vC,c.nm,c.ks,c.es,c.ss,c.is.map _,c.os.map _,c.ws,p.1,bs,sg) E.ahW E.MV (ai QiR (ai Qb9 (ai (bN E.aK E.cC (aF E.cg) J6) (ai (aF E.lq) aG)))) (⟨a.pre.1,We,a.kl,We,We,v,i.q bs o⟩) (aL _)) rfl)) aG)) (⟨a.pre.1,We,a.kl,We,f,λw hw=>by have:=a.wo w hw;exact⟨this.1,by obtain z|z:=this.2.1<;>lia⟩⟩) (aL _)) rfl) ?_;have em:sW (c.bs.map vC,c.nm,c.ks,c.es,c.ss,c.is,c.os,c.ws,ch,p.2,YF c p.1 bs sg)=T.tup [.lst ((oe c p Qcs).map T.sh),.lst (((toN c p Qcs).1.map .int).map T.sh),.lst (((toN c p Qcs).2.map .int).map T.sh)]:=by unfold oe toN;rw[e];rfl
 refine aM E.g E.MS (aR (c_ (c.bs.map vC,c.nm,c.ks,c.es,c.ss,c.is,c.os,c.ws,ch,p.2,YF c p.1 bs sg) E.ahX E.MX (ai QiR (ai (Dd Qb9 (by rw[e])) (ai (aX (bN E.aK E.cS (aF E.cg) Cu) ao Fg) (ai (vL E.jO.1) aG)))) (⟨a,⟨u,t⟩,r,e▸hs⟩) (by rw[em,T.clean,T.dH,T.dH,T.dH,aL,aL,fc (hd▸dX Lk _)];rfl)) em) ?_;exact bB (tH (aY Qia (aY (tH (aY Qia (aY Qia bA)) aP) bA)) aP) rfl
def cA:FG qR ["self","sign"] ["kept","picks","moved"] (ak lG):=fG
abbrev qk:=inClass (top 59) 2
abbrev lI:=Addr×CH×Pl×B2×AT×EQ×At
abbrev wG:At:=["self","called","waiting","rows","many","sign","going","step"]
def iE:lI->B2:=λ(y,c,p,pt,bs,eo,cs)=>[.pin y (.ins "NestRun" (kM c.d (Dq p) pt bs Qcc)),.sh (.lst (cs.map .str))]
def iF:lI->B2:=λ(y,c,p,pt,bs,eo,cs)=>[.pin y (.ins "NestRun" (kM c.d (Dq (QM c (cs,p,bs))) pt (V8 c (cs,p,bs)) Qcc)),.sh (.lst (cs.map .str))]
def iG:lI->Prop:=λ(y,c,p,pt,bs,eo,cs)=>c.Ok/\Gd c p/\bs.length=c.bs.length/\cs.length<=1000
def iH:lI->T:=λ(y,c,p,pt,bs,eo,cs)=>(.lst ((Dr c (cs,p,bs)).map T.sh):T)
structure G0(X:Cx)(CL:BC):Prop extends bI X where
 cg:Ln X 0 "self"
 lz:Ln X 1 "called"
 pJ:Ln X 2 "waiting"
 cj:Ln X 3 "rows"
 dM:Ln X 4 "many"
 lq:Ln X 5 "sign"
 lE:Ln X 6 "going"
 eK:Ln X 7 "step"
 dI:Gl X "list"
 MY:Gl X "MOST_SIGNS"
 nM:Gl X "performed"
 iY:Gl X "len"
 dJ:nR X "list"
 MZ:∃u,X.mg "MOST_SIGNS" = some (.int 8 u)
 wH:Fc X CL "performed" 5 2 jU jd mX
 iZ:nR X "len"
 Bq:Fq X CL "NestRun" "step_at" 47 2 jQ ic jR
 az:jJ X.K QJ
 aK:jJ X.K Qag
 cS:aD X.K Qag "place"
 fC:aD X.K QJ "boxes"
 cC:aD X.K Qag "boxes"
theorem G3(E:G0 X CL) :
  r4 X CL b qk wG iE iG iH iF:=by
 rintro⟨y,c,p,pt,bs,eo,cs⟩ h;dsimp only [iG,iE,iH,iF]at h ⊢;obtain⟨hG,J,I,L⟩:=h;refine aM E.g E.pJ (vh E.dJ (v_ E.lz.1) E.dI cH) ?_;refine aM E.g E.cj (cJ (tl:=[]) bA aP) ?_;refine aM E.g E.dM bF ?_;refine KZ E.g (λk δ=>∃(j:Nat) (A v u:ES),k+j=8/\δ=[some (.pin y (.ins "NestRun" (kM c.d (Dq (uP c j (cs,p,bs)).2.2.1) pt (uP c j (cs,p,bs)).2.2.2 Qcc))),some _,some (.lst (((uP c j (cs,p,bs)).2.1.map .str).map T.sh)),some (.lst ((uP c j (cs,p,bs)).1.map T.sh)),some QcZ,A,v,u]) 8 ⟨0,_,_,_,rfl,rfl⟩ ?loop
 case loop=>
  rintro k δ ⟨j,A,v,u,hm,rfl⟩;obtain⟨k1,k2,f,i,C⟩:=FZ hG (cs:=cs) J I j;have r:=@Pg c (cs,p,bs) j;have e:=@FY c (cs,p,bs) j;have o:(uP c j (cs,p,bs)).2.1=[]\/j=8->uP c 8 (cs,p,bs)=uP c j (cs,p,bs):=λz=>by
   obtain z|z:=z
   .have:=r z (8-j)
    rwa [show j+(8-j)=8 by lia]at this
   .rw[z]
  unfold V8 QM Dr;generalize H:uP c j (cs,p,bs)=s at k1 k2 i C f o e ⊢;obtain⟨rs,w,q,cur⟩:=s;dsimp only at k1 k2 i C f o ⊢;refine⟨_,_,qW (iK (abB (vL E.pJ.1)) (λ_=>jf (JG Qea (aH (eO E.MZ E.MY))).1)),λl=>?_,λl=>?_⟩
  .rw[lh]at l;obtain⟨K,M⟩:=l;cases w with
   | nil=>cases K
   | cons sg w=>
    have B:=e (rs:=rs) (sg:=sg) (w:=w) (a:=q) (bs:=cur) rfl;obtain⟨_,_,D,s1,gn⟩:=FU hG f sg cur;generalize F:goN c q sg cur=gg at D s1 gn B;have s3:(cY gg.1).length<=gg.1.length:=x7 _ _;rw[lr]at k2;refine al1 E.g E.dM rfl ao ?_;refine iM E.g E.lq (abL (t:=.sh (.str sg)) (c6 E.pJ.1 rfl) rfl rfl) ?_;refine aM E.g E.lE (xg (d:=.tup [.lst (gg.1.map It.d),Dq gg.2]) (aR (q_ (c,q,T.gU pt,cur,Yy eo,sg) E.Bq (vE E.cg.1 rfl J7) (Sn Wl Wl Wl Wl Wl) (ai (aF E.lq) aG) rfl (by dsimp only [ic];exact⟨hG,f,i⟩) (by show T.dH _=true;rw[T.dH,T.dH,T.dH,fc (dX Lk _),T.clean,T.dH,T.dH,T.dH,aL,aL];rfl)) (t2:=.tup [.lst ((gg.1.map It.d).map T.sh),.tup [.lst ((gg.2.1.map .int).map T.sh),.lst ((gg.2.2.map .int).map T.sh)]]) (by rw[← F];rfl)) (by rw[T.gT,T.gU,T.gU,T.gU,fz,T.gT,T.gU,T.gU,T.gU,fz,fz];rfl)) ?_;refine aM E.g E.eK (aR (c_ (true,gg.1,cur) E.wH E.nM (ai (aX (aF E.lE) ao yV) (ai (bN E.aK E.cC (vE E.cg.1 rfl J7) J6) aG)) (by dsimp only [jd];exact⟨We,λx G=>acO (D x G) i⟩) (Sg (b9 _) (Eh _ _) (dX Qa0 _))) (t2:=.tup [.lst _,.lst _,.lst _]) rfl) ?_;refine jM E.aK E.cS E.cg.1 (j9 (v_ E.lE.1) ao Fg).m rfl (Pa _ _ _ _ _) ?_;rw[Sv];refine jM E.aK E.cC E.cg.1 (dD QbU).m rfl (Pa _ _ _ _ _) ?_;rw[Sw];refine jt E.cj.1 rfl (je (aE fS (aE (v_ E.lq.1) f9)) aP) rfl (by rw[d8];lia) ?_;refine nV E.cj.1 rfl (bS QbU) (Eh _ _) rfl (by simp[AO];lia) ?_;refine nV E.pJ.1 rfl (bS QbU) (se _) rfl WI (aj ⟨k-1,We,j+1,some QfN,some (.sh (.tup [.lst (gg.1.map It.d),Dq gg.2])),some (.tup [.sh .any,.sh .any,.sh .any]),We,?_⟩);rw[B];dsimp only;rw[jI,jI,jI,js,jc];rfl
  .have hz:w=[]\/j=8:=by
    cases w with
    | nil=>exact .inl rfl
    | cons sg w=>
     right;have:=l5 ((Bool.true_and _).symm.trans l);lia
   rw[o hz];dsimp only;refine fq (abB (vL E.pJ.1)) (λn=>?_) (λn=>aj ?_)
   .have hw:w≠[]:=by
     rintro rfl;cases n
    rw[cq hw];refine jt E.cj.1 rfl (je (aE fS (aE (aR (KQ E.iZ (vL E.pJ.1) E.iY) (by rw[d8])) f9)) aP) rfl (by rw[d8];lia) (aj (bB QdW ⟨?_,nU (ds:=[_])⟩));rw[jI];rfl
   .have hw:w=[]:=by
     cases w with
     | nil=>rfl
     | cons sg w=>cases n
    subst hw;rw[di rfl,j2];exact bB QdW ⟨rfl,nU (ds:=[_])⟩
def bW:FG wG ["self","called"] ["list","MOST_SIGNS","performed","len"] (ak qk):=fG
abbrev rO:=inClass (top 59) 0
abbrev m8:=Addr×CH×Pl×AT×Ee
noncomputable abbrev yE:At:=["self","boxes","place","script","step"]
def i9:m8->B2:=λ(y,c,p,bs,xs)=>[.pin y (.ins "NestRun" [("chart",.sh c.d)]),.sh Qes,.sh (Dq p),.sh (.lst QeP)]
def ja:m8->B2:=λ(y,c,p,bs,xs)=>[.pin y (.ins "NestRun" (Lr c.d (Dq (QM c (cY xs,p,xs.foldl It.af bs))) [] (V8 c (cY xs,p,xs.foldl It.af bs)) (HD (some ((vG xs bs).map J.d++Dr c (cY xs,p,xs.foldl It.af bs)))))),.sh Qes,.sh (Dq p),.sh (.lst QeP)]
def om:m8->Prop:=λ(y,c,p,bs,xs)=>c.Ok/\Gd c p/\bs.length=c.bs.length/\xs.length<=200/\(∀x∈xs,o4 c.bs.length x)
noncomputable def j4:m8->T:=λ(y,c,p,bs,xs)=>(.sh .non:T)
structure IK(X:Cx)(CL:BC):Prop extends bI X where
 cg:Ln X 0 "self"
 cz:Ln X 1 "boxes"
 jH:Ln X 2 "place"
 bT:Ln X 3 "script"
 eK:Ln X 4 "step"
 nM:Gl X "performed"
 wH:Fc X CL "performed" 5 2 jU jd mX
 ql:LG X CL "NestRun" "dealt" 48 2 iE iG iH iF
 az:jJ X.K QJ
 aK:jJ X.K Qag
 cS:aD X.K Qag "place"
 jz:aD X.K Qag "past"
 fC:aD X.K QJ "boxes"
 cC:aD X.K Qag "boxes"
 jA:aD X.K Qag "first_rows"
theorem IL(E:IK X CL) :
  r4 X CL b rO yE i9 om j4 ja:=by
 rintro⟨y,c,p,bs,xs⟩ h;dsimp [i9,j4,ja]at h ⊢;obtain⟨hG,hf,f,k,e⟩:=h;have j:(cY xs).length<=xs.length:=x7 _ _;have i:=tW xs bs;have a:=i.trans f;obtain⟨d1,d2⟩:=SJ hG (cs:=cY xs) hf a;apply jM E.aK E.cS E.cg.1 (v_ E.jH.1).m rfl Qbd;rw[show yN _ _ _=[(("chart":Str),T.sh c.d),(("place"),T.sh _)] by rfl];apply jM E.aK E.jz E.cg.1 (cJ bA aP).m rfl Qbd;rw[show yN _ _ _=[(("chart":Str),T.sh c.d),(("place"),T.sh _),(("past"),T.lst [])] by rfl];refine aM E.g E.eK (aR (c_ (true,xs,bs) E.wH E.nM (ai Qcx Qcq) (⟨We,λx hm=>acO (e x hm) f⟩) (Sg (b9 _) (Eh _ _) (dX Qa0 _))) rfl) ?_;apply jM E.aK E.cC E.cg.1 (dD QbU).m rfl Qbd;rw[show yN _ _ _=Lr c.d _ [] _ (HD none) by rfl];generalize xs.foldl _ bs=cur at i a d1 d2 ⊢;refine jM E.aK E.jA E.cg.1 (agr QbU (qM (dl:=[.lst _]) (λz=>(z,c,p,[],cur,none,cY xs)) (.pin y (.ins _ (Lr c.d _ [] _ _))) E.ql E.cg.1 (.pin rfl) (aY (dD QbU) bA) (λz _=>⟨hG,hf,a,We⟩) QfK (λz hz=>by subst hz;exact⟨rfl,.inr rfl,trivial⟩) (ag2 Wl Wl Wl Wl Wl) (λz hz=>by rfl)) (by rw[mx,d8,AO];lia)) rfl (acK _ _ _ _ _) (aj ⟨rfl,?_⟩);exact nU (ds:=[_,_,_])
def fM:FG yE ["self","boxes","place","script"] ["performed"] (ak rO):=fG
abbrev qo:=inClass (top 61) 0
abbrev qp:=CH
abbrev wI:At:=["self","chart","start"]
def sX:qp->BA:=λc=>[c.d]
def sY:qp->Prop:=λc=>c.Ok
def sZ:qp->BS:=λc=>(Lr c.d (Dq (QM c (cY (qJ c),zX c,(qJ c).foldl It.af (c.bs.map (·.2))))) [] (V8 c (cY (qJ c),zX c,(qJ c).foldl It.af (c.bs.map (·.2)))) (HD (some ((vG (qJ c) (c.bs.map (·.2))).map J.d++Dr c (cY (qJ c),zX c,(qJ c).foldl It.af (c.bs.map (·.2)))))):BS)
structure G4(X:Cx)(CL:BC):Prop extends bI X where
 cg:Ln X 0 "self"
 aC:Ln X 1 "chart"
 t9:Ln X 2 "start"
 M0:Gl X "begun"
 ad4:Gl X "Runner"
 G5:Gl X "firsts"
 ahY:Fc X CL "begun" 44 1 CF CG xQ
 ad5:Fc X CL "firsts" 1 1 zq ug uh
 IQ:FkM X CL "Runner" "__init__" 49 4 i9 om j4 ja
 aK:jJ X.K Qag
 i7:aD X.K Qag "chart"
def G6(E:G4 X CL)(c:CH)(y:Addr)(h:c.Ok) :
  fh X CL b (eL qo) (Rt wI y "NestRun" [c.d]) {nx:=λδ=>δ[0]? = some (some (.pin y (.ins "NestRun" (Lr c.d (Dq (QM c (cY (qJ c),zX c,(qJ c).foldl It.af (c.bs.map (·.2))))) [] (V8 c (cY (qJ c),zX c,(qJ c).foldl It.af (c.bs.map (·.2)))) (HD (some ((vG (qJ c) (c.bs.map (·.2))).map J.d++Dr c (cY (qJ c),zX c,(qJ c).foldl It.af (c.bs.map (·.2)))))))))),rt:=λ_ _=>False}:=by
 have e:=h;have a:=e.k;obtain⟨g0,i1,i2,f⟩:=Lw e;apply jM E.aK E.i7 E.cg.1 (v_ E.aC.1).m rfl Qbd;apply aM E.g E.t9 (xg (d:=.tup [.lst ((qJ c).map _),.lst _,.lst _]) (aR (c_ (c.bs.map vC,c.nm,c.ks,c.es,c.ss,c.is,c.os.map _,c.ws.map gO) E.ahY E.M0 (ai QaC aG) (⟨e.nl,a.n0,a.n1,a.kl,a.sl,a.il,a.ir,a.kinds,Ph e⟩) (by show T.dH _=true;rw[T.dH,T.dH,T.dH,aL,aL,fc (i1▸dX Lk _)];rfl)) (t2:=.tup [.lst ((inR _ (zX c).1).map _),.lst _,.lst _]) rfl) (by rw[i1,T.gT,T.gU,T.gU,T.gU,T.gU,fz,fz,fz]));have i:(c.bs.map (·.2)).length=c.bs.length:=d8 ..;refine VF (kM1 (λz=>(z,c,zX c,c.bs.map _,qJ c)) _
  E.IQ E.ad4 (An E.cg.1 rfl (qD (dD (c_ (c.bs,c.nm,cQ _ _ _,c.is.map _,c.os.map _,c.ws.map gO) E.ad5 E.G5 (ai QaC aG) e.bl (aL _))) (qD (je (aE (j9 (v_ E.t9.1) ao Fg) (aE (j9 (v_ E.t9.1) ao IM) f9)) aP) (qD (j9 (v_ E.t9.1) ao yV) tR))))
  (λz _=>⟨e,g0,i,f,i2⟩) QfK (λz hz=>by cases hz.1;exact⟨rfl,.inr rfl,trivial⟩) (λz hz=>by cases hz.1;rfl)) (aj rfl)
def eB:FG wI ["self","chart"] ["begun","Runner","firsts"] (ak qo):=fG
abbrev rP:=inClass (top 59) 3
abbrev m9:=Addr×CH×Pl×List o3×AT×EQ×Str
noncomputable abbrev yF:At:=["self","sign","place","boxes","rows"]
def j5:m9->B2:=λ(y,c,p,l,bs,eo,sg)=>[.pin y (.ins "NestRun" (kM c.d (Dq p) (qI l) bs Qcc)),.sh (.str sg)]
def j6:m9->B2:=λ(y,c,p,l,bs,eo,sg)=>[.pin y (.ins "NestRun" (kM c.d (Dq (QM c ([sg],p,bs))) (qI (l++[(p,bs,Dr c ([sg],p,bs))])) (V8 c ([sg],p,bs)) Qcc)),.sh (.str sg)]
def oq:m9->Prop:=λ(y,c,p,l,bs,eo,sg)=>c.Ok/\Gd c p/\bs.length=c.bs.length/\l.length<=1000
def j7:m9->T:=λ(y,c,p,l,bs,eo,sg)=>(.lst ((Dr c ([sg],p,bs)).map T.sh):T)
structure IU(X:Cx)(CL:BC):Prop extends bI X where
 cg:Ln X 0 "self"
 lq:Ln X 1 "sign"
 jH:Ln X 2 "place"
 cz:Ln X 3 "boxes"
 cj:Ln X 4 "rows"
 dI:Gl X "list"
 dJ:nR X "list"
 ql:LG X CL "NestRun" "dealt" 48 2 iE iG iH iF
 az:jJ X.K QJ
 aK:jJ X.K Qag
 cS:aD X.K Qag "place"
 fC:aD X.K QJ "boxes"
 cC:aD X.K Qag "boxes"
 jz:aD X.K Qag "past"
theorem IV(E:IU X CL) :
  r4 X CL b rP yF j5 oq j7 j6:=by
 rintro⟨y,c,p,l,bs,eo,sg⟩ h;dsimp [j5,j7,j6]at h ⊢;obtain⟨hG,e,d,a⟩:=h;obtain⟨_,f⟩:=SJ hG (cs:=[sg]) e d;refine aM E.g E.jH (D9 (RZ E.aK E.cS (c6 E.cg.1 rfl) rfl rfl Sq) rfl Sx) ?_;refine aM E.g E.cz (D9 (RZ E.aK E.cC (c6 E.cg.1 rfl) rfl rfl Ss) rfl Sy) ?_;refine iM E.g E.cj (qM (dl:=[.lst [.str sg]]) (λz=>(z,c,p,qI l,bs,eo,[sg])) _ E.ql E.cg.1 (.pin rfl) (aY (dD (cJ (aY (v_ E.lq.1) bA) aP)) bA) (λz _=>⟨hG,e,d,WA⟩) QfK (λz hz=>by subst hz;exact⟨rfl,.inr rfl,trivial⟩) (V6 Wl Wl Wl Wl Wl) (λz hz=>by rfl)) ?_;rw[SD];generalize Dr c _=fr at f ⊢;have hpl:(qI l).length<=1000:=by unfold qI;rw[d8];exact a
 generalize qI l=pt at hpl ⊢;refine Lc (i:=4) rfl λz=>?_;apply abK (p:=[.fld _]) (RZ E.aK E.jz (c6 E.cg.1 rfl) rfl rfl J8) rfl J9 (tH (aY (v_ E.jH.1) (aY (v_ E.cz.1) (aY (abV E.cj.1 rfl) bA))) aP) rfl J9 We;rw[Sz];exact bB (aqj (δ2:=[some _,some _,some _,some _,some _]) (abW (i:=0) _ (jo E.dJ (Yj (i:=0) E.cj.1 rfl rfl Ka (fz fr)) f E.dI cH) rfl Ka) (by rw[YB];rfl)) ⟨rfl,nU (ds:=[_])⟩
def gI:FG yF ["self","sign"] ["list"] (ak rP):=fG
def Br(l:List o3):BA:=l.map λq=>.tup [Dq q.1,.lst QhM,.lst q.2.2]
noncomputable def dN(r:BA)(l:List o3):BA:=r++l.flatMap (·.2.2)
abbrev qq:=inClass (top 59) 6
abbrev qu:=D×D×List o3×AT×BA
noncomputable abbrev wJ:At:=["self","rows","step"]
def mK:qu->BA:=λ(cd,pl,l,bs,r)=>[.ins "NestRun" Qld]
def mL:qu->Prop:=λ(cd,pl,l,bs,r)=>D.bR r=true/\r.length<=5000/\l.length<=100/\∀q∈l,q.2.2.length<=4000/\D.bR q.2.2=true
def mO:qu->T:=λ(cd,pl,l,bs,r)=>(.lst ((dN r l).map T.sh):T)
structure G7(X:Cx)(CL:BC):Prop extends bI X where
 cg:Ln X 0 "self"
 cj:Ln X 1 "rows"
 eK:Ln X 2 "step"
 dI:Gl X "list"
 dJ:nR X "list"
 aK:jJ X.K Qag
 jz:aD X.K Qag "past"
 jA:aD X.K Qag "first_rows"
theorem G8(E:G7 X CL) :
  ni X CL b qq wJ mK mL mO:=by
 rintro⟨cd,pl,l,bs,r⟩ h;obtain⟨v,m,w,c⟩:=h;apply aM E.g E.cj (vh E.dJ (kT E.aK E.jA (v_ E.cg.1) Yz) E.dI cH);have hlen:∀j,(dN r (l.take j)).length<=r.length+4000*j:=λj=>by
  unfold dN;rw[kr];have:∀l:List o3,(∀q∈l,q.2.2.length<=4000)->(l.flatMap (·.2.2)).length<=4000*l.length:=by
   intro l
   induction l with
   | nil=>intro _;exact kn _
   | cons q l k=>
    intro h;rw[rf,kr,lr];have h1:=h q gj;have h2:=k λp n=>h p (i4 _ n);lia
  have h1:=this (l.take j) λq hm=>(c q (t5 hm)).1;have h2:(l.take j).length<=j:=by rw[nr];lia
  lia
 refine gK E.g E.eK (λj δ=>∃o,δ=[some (.sh (.ins "NestRun" Qld)),some (.lst ((dN r (l.take j)).map T.sh)),o])
  (dm (kT E.aK E.jz (v_ E.cg.1) acJ)) ⟨ _,by rw[List.take_zero];unfold dN;rw[List.flatMap_nil,j2];rfl⟩ (λj δ ⟨_,e⟩=>by subst e;exact jj rfl) ?turn ?fin
 case turn=>
  rintro j d δ t ⟨o,rfl⟩;obtain⟨q,rfl,_,a,x,_,f⟩:=jL t;obtain⟨u,i⟩:=c q a;have s:=hlen j;refine nV E.cj.1 rfl (aX (aF E.eK) ao IM) i rfl (by rw[d8];lia) (aj ⟨some (.sh (.tup [Dq q.1,.lst QhM,.lst q.2.2])),?_⟩);rw[f];unfold dN;rw[wj,rf,List.flatMap_nil,j2,← jc,jI (l₂:=q.2.2)];rfl
 case fin=>
  rintro δ ⟨o,rfl⟩;have e:(Br l).length=l.length:=d8 ..;rw[e,me];exact bB QdW rfl
def jb:FG wJ ["self"] ["list"] (ak qq):=fG
abbrev ou:=inClass (top 61) 2
abbrev ow:=D×Pl×BA×AT×EU
abbrev uQ:At:=["self"]
def lJ:ow->BA:=λ(cd,p,pa,bs,ex)=>[.ins "NestRun" (vH cd (Dq p) pa bs ex)]
def lK:ow->Prop:=λ(cd,p,pa,bs,ex)=>True
noncomputable def lM:ow->T:=λ(cd,p,pa,bs,ex)=>(.lst ((p.1.map .int).map T.sh):T)
structure DQ(X:Cx)(CL:BC):Prop extends bI X where
 cg:Ln X 0 "self"
 dI:Gl X "list"
 dJ:nR X "list"
 aK:jJ X.K Qag
 cS:aD X.K Qag "place"
def DR(E:DQ X CL) :
  ni X CL b ou uQ lJ lK lM:=by
 rintro⟨cd,p,pa,bs,ex⟩ h;exact bB (vh E.dJ QkS E.dI cH) rfl
def mP:FG uQ ["self"] ["list"] (ak ou):=fG
abbrev S8:=Pl×AT×List o3
def zT(c:CH)(x:S8)(sg:Str):S8:=(QM c ([sg],x.1,x.2.1),V8 c ([sg],x.1,x.2.1),x.2.2++[(x.1,x.2.1,Dr c ([sg],x.1,x.2.1))])
def IW(c:CH):S8:=(QM c (cY (qJ c),zX c,(qJ c).foldl It.af (c.bs.map (·.2))),V8 c (cY (qJ c),zX c,(qJ c).foldl It.af (c.bs.map (·.2))),[])
def kB(c:CH)(s:At):S8:=s.foldl (zT c) (IW c)
def uY(c:CH):BA:=(vG (qJ c) (c.bs.map (·.2))).map J.d++Dr c (cY (qJ c),zX c,(qJ c).foldl It.af (c.bs.map (·.2)))
structure w3(c:CH)(x:S8):Prop where
 g:Gd c x.1
 b:x.2.1.length=c.bs.length
 q:∀q∈x.2.2,q.2.2.length<=4000/\∀d∈q.2.2,pP d
variable{cs:At}
def ZH{c:CH}(a:c.Ok){p:Pl}{B:AT}(g:Gd c p)(b:B.length=c.bs.length)(hs:∀x∈cs,PyData.strOk x=true):Gd c (QM c (cs,p,B))/\(V8 c (cs,p,B)).length=c.bs.length/\(Dr c (cs,p,B)).length<=4000/\∀d∈Dr c (cs,p,B),pP d:=by
 have d:=FZ a (cs:=cs) g b 8;exact⟨d.g,d.b,(SJ a g b).1,ag3 a g b hs⟩
theorem Ez{c:CH}(a:c.Ok):w3 c (IW c)/\(uY c).length<=5000/\∀d∈uY c,pP d:=by
 obtain⟨g0,i1,i2,i⟩:=Lw a;have e:(c.bs.map (·.2)).length=c.bs.length:=d8 ..;have f:((qJ c).foldl It.af _).length=c.bs.length:=(tW _ _).trans e;obtain⟨d1,d2,h,b⟩:=ZH a g0 f (Pb i2);unfold IW uY;have j:=AO (qJ c) (c.bs.map (·.2));have g:=SG (c.bs.map (·.2)) i2;generalize QM c _=A at d1 ⊢;generalize V8 c _=B at d2 ⊢;generalize Dr c _=r at h b ⊢;refine⟨⟨d1,d2,WA ⟩,?_,λd hd=>?_⟩
 .simp;lia
 .obtain z|z:=gY.1 hd
  .exact g d z
  .exact b d z
theorem w3.step{c:CH}(e:c.Ok){x:S8}(h:w3 c x)(hs:PyData.strOk sg=true):w3 c (zT c x sg):=by
 obtain⟨d1,d2,f⟩:=ZH e h.g h.b λx a=>kf.1 a▸hs;unfold zT;generalize QM c _=A at d1 ⊢;generalize V8 c _=B at d2 ⊢;refine⟨d1,d2,λq d=>?_⟩;obtain z|z:=gY.1 d
 .exact h.q q z
 .exact kf.1 z▸f
theorem P9{c:CH}(a:c.Ok):∀(s:At) (x:S8),w3 c x->(∀g∈s,PyData.strOk g=true)->w3 c (s.foldl (zT c) x)/\(s.foldl (zT c) x).2.2.length=x.2.2.length+s.length
 | [],_,h,_=>⟨h,rfl⟩
 | g::s,x,h,hs=>by
  obtain⟨h1,h2⟩:=P9 a s _ (h.step a (hs g gj)) λz hz=>hs z QcH;simp;refine⟨h1,h2.trans ?_⟩;have:(zT c x g).2.2.length=x.2.2.length+1:=kr ..;lia
def ad7(c:CH)(s:At)(g:Str):kB c (s++[g])=zT c (kB c s) g:=by unfold kB;simp
abbrev R8:=CH×At
def ZS(x:R8):T:=.ins "NestRun" (kM x.1.d (Dq (kB x.1 x.2).1) (qI (kB x.1 x.2).2.2) (kB x.1 x.2).2.1 (HD (some (uY x.1))))
def ON(x:R8):D:=.ins "NestRun" (vH x.1.d (Dq (kB x.1 x.2).1) (Br (kB x.1 x.2).2.2) (kB x.1 x.2).2.1 (Yy (some (uY x.1))))
def YZ(l:List o3):T.gU (qI l)=Br l:=by
 unfold qI Br
 induction l with
 | nil=>rw[List.map_nil,List.map_nil,T.gU]
 | cons q l a=>rw[js,js,T.gU,a,T.gT,T.gU,T.gU,T.gU,T.gU,T.gT,T.gT,fz]
def WO(x:R8):(ZS x).gT=ON x:=by
 unfold ZS ON;rw[O9,YZ]
def ahZ(c:CH):T.ins "NestRun" (Lr c.d (Dq (QM c (cY (qJ c),zX c,(qJ c).foldl It.af (c.bs.map (·.2))))) [] (V8 c (cY (qJ c),zX c,(qJ c).foldl It.af (c.bs.map (·.2)))) (HD (some ((vG (qJ c) (c.bs.map (·.2))).map J.d++Dr c (cY (qJ c),zX c,(qJ c).foldl It.af (c.bs.map (·.2)))))))=ZS (c,[]):=by
 unfold ZS kB;unfold IW uY;generalize QM c _=A;generalize V8 c _=B;rfl
structure X8(n:Nat)(x:R8):Prop where
 c:x.1.Ok
 s:∀g∈x.2,PyData.strOk g=true
 l:x.2.length<=n
theorem X8.ns{x:R8}(h:X8 n x):w3 x.1 (kB x.1 x.2)/\(kB x.1 x.2).2.2.length=x.2.length:=by
 obtain⟨h1,h2⟩:=P9 h.c x.2 _ (Ez h.c).1 h.s;exact⟨h1,h2.trans (vy _)⟩
theorem X8.rws{x:R8}(h:X8 n x):∀d∈dN (uY x.1) (kB x.1 x.2).2.2,pP d:=λd hd=>by
 obtain z|z:=gY.1 hd
 .exact(Ez h.c).2.2 d z
 .obtain⟨q,a,z⟩:=l0.1 z;exact(h.ns.1.q q a).2 d z
theorem X8.look{x:R8}(h:X8 n x)(b:n<=63):D.bR (uY x.1)=true/\(uY x.1).length<=5000/\(kB x.1 x.2).2.2.length<=100/\∀q∈(kB x.1 x.2).2.2,q.2.2.length<=4000/\D.bR q.2.2=true:=by
 have i:=Ez h.c;have l:=h.l;exact⟨FW i.2.2,i.2.1,by rw[h.ns.2];lia,λq a=>⟨(h.ns.1.q q a).1,FW (h.ns.1.q q a).2⟩⟩
theorem X8.anr{x:R8}(h:X8 n x)(e:n<=63):(dN (uY x.1) (kB x.1 x.2).2.2).length<=500000:=by
 have i:=Ez h.c;obtain⟨h1,h2⟩:=h.ns;have l:=h.l;have:∀l:List o3,(∀q∈l,q.2.2.length<=4000)->(l.flatMap (·.2.2)).length<=4000*l.length:=by
  intro l
  induction l with
  | nil=>intro _;simp
  | cons q l a=>
   intro h;rw[rf,kr,lr];have h1:=h q gj;have h2:=a λp d=>h p (i4 _ d);lia
 have:=this _ λq b=>(h1.q q b).1;unfold dN;rw[kr];lia
def ad8(c:CH)(s:At)(g:Str):ZS (c,s++[g])=.ins "NestRun" (kM c.d (Dq (QM c ([g],(kB c s).1,(kB c s).2.1))) (qI ((kB c s).2.2++[((kB c s).1,(kB c s).2.1,Dr c ([g],(kB c s).1,(kB c s).2.1))])) (V8 c ([g],(kB c s).1,(kB c s).2.1)) (HD QfX)):=by
 unfold ZS;rw[ad7];unfold zT;simp
def ah0(c:CH)(s:At):ZS (c,s)=.ins "NestRun" (kM c.d (Dq (kB c s).1) (qI (kB c s).2.2) (kB c s).2.1 (HD QfX)):=rfl
def ad9{c:CH}(k:c.Ok)(s:At):∃L l,Sp [] [] Qcn L l/\Wh c Qdz (kB c s).1:=by
 have key:∀(s:At) (x:S8),(∃L l,Sp [] [] (dN (uY c) x.2.2) L l/\Wh c Qdz x.1)->∃L l,Sp [] [] (dN (uY c) (s.foldl (zT c) x).2.2) L l/\Wh c Qdz (s.foldl (zT c) x).1:=by
  intro s
  induction s with
  | nil=>exactλx h=>h
  | cons g s j=>
   intro x h;rw[k3];refine j _ ?_;obtain⟨L,l,h1,h2⟩:=h;obtain⟨i,a,f,b⟩:=YM ([g],x.1,x.2.1) h2;refine⟨i,a,?_,?_⟩
   .have e:dN (uY c) (zT c x g).2.2=dN (uY c) x.2.2++Dr c ([g],x.1,x.2.1):=by
     unfold dN zT;dsimp only;rw[wj,List.flatMap_singleton,jc]
    rw[e];exact h1.trans f
   .unfold zT;dsimp only;exact b
 refine key s (IW c) ?_;obtain⟨h1,h2⟩:=amF k (c.bs.map (·.2));obtain⟨i,a,f,b⟩:=YM (cY (qJ c),zX c,(qJ c).foldl It.af (c.bs.map (·.2))) h2;refine⟨i,a,?_,?_⟩
 .have e:dN (uY c) (IW c).2.2=(vG (qJ c) (c.bs.map (·.2))).map J.d++Dr c (cY (qJ c),zX c,(qJ c).foldl It.af (c.bs.map (·.2))):=by
   unfold dN IW uY;dsimp only;rw[List.flatMap_nil,j2]
  rw[e];exact h1.trans f
 .unfold IW;dsimp only;exact b
def aea{c:CH}(s:At):∀d∈dN (uY c) (kB c s).2.2,w1 d:=by
 have key:∀(s:At) (x:S8),(∀d∈dN (uY c) x.2.2,w1 d)->∀d∈dN (uY c) (s.foldl (zT c) x).2.2,w1 d:=by
  intro s
  induction s with
  | nil=>exactλx h=>h
  | cons g s a=>
   intro x h;rw[k3];refine a _ λd hd=>?_;unfold dN zT at hd;dsimp only at hd;rw[wj,List.flatMap_singleton,← jc]at hd;obtain z|z:=gY.1 hd
   .exact h d z
   .exact YE _ _ d z
 refine key s (IW c) λd hd=>?_;unfold dN IW uY at hd;dsimp only at hd;rw[List.flatMap_nil,j2]at hd;obtain z|z:=gY.1 hd
 .exact US _ _ d z
 .exact YE _ _ d z
theorem Y0(h:CC)(k:Key)(d:D):(vq h k d).length<=h.length+1:=by
 unfold vq;split
 .rw[d8];lia
 .rw[kr,rr];exact gZ _
theorem XX:∀(rs:List Rk) (O:AT),(rs.foldl Wd O).length<=O.length+rs.length
 | [],O=>gZ _
 | r::rs,O=>by
  rw[k3,lr];refine kv (XX rs _) ?_;have:(Wd O r).length<=O.length+1:=by
   cases r with
   | out m=>exact kv (List.length_erase_le) (mI _)
   | yd m=>show(O++[m]).length<=_;rw[kr];exact gZ _
   | _=>exact mI _
  lia
theorem XS(ws:QP):∀(rs:List Rk) (A:AT),(rs.foldl (F0 ws) A).length<=A.length+rs.length
 | [],A=>gZ _
 | r::rs,A=>by
  rw[k3,lr];refine kv (XS ws rs _) ?_;have:(F0 ws A r).length<=A.length+1:=by
   cases r with
   | way i=>
    rw[F0];split
    .rw[kr];exact gZ _
    .exact mI _
   | _=>exact mI _
  lia
theorem Uk(es ah:AT):∀(rs:List Rk) (h:CC),(rs.foldl (Ny es ah) h).length<=h.length+rs.length
 | [],h=>gZ _
 | r::rs,h=>by
  rw[k3,lr];refine kv (Uk es ah rs _) ?_;have:(Ny es ah h r).length<=h.length+1:=by
   cases r with
   | out m=>exact Y0 _ _ _
   | _=>exact mI _
  lia
theorem Ul:∀(rows:BA) (L:Cl) (l:BA),((Nz L l rows).map List.length).sum=(L.map List.length).sum+l.length+rows.length
 | [],L,l=>by rw[Nz];simp
 | r::rows,L,l=>by
  rw[Nz];split
  .rw[Ul rows];simp;lia
  .rw[Ul rows];simp;lia
theorem So{m:Int}:∀{l:AT} {j:Nat},l[j]? = some m->(∀i:Nat,i<j->l[i]? ≠ some m)->l.eraseIdx j=l.erase m
 | [],j,h,_=>by cases h
 | x::l,0,h,_=>by
  cases h;rw[List.erase_cons_head];rfl
 | x::l,j+1,h,a=>by
  have e:¬ x=m:=λe=>a 0 We (by rw[e];rfl);rw[List.erase_cons_tail (by simpa using e),List.eraseIdx_cons_succ,So (l:=l) (j:=j) h λi hi=>a QaR We]
def ans{w:Str}{r:BA}(h1:w≠"out")(h2:w≠"in")(a:w≠"way"):kF Qc4=.Al:=by
 unfold kF;split
 .rename_i e;cases e;rw[cq h1,cq h2,cq a]
 .rfl
def avA(M:Cl):T.gT (.lst (M.map Tg))=.lst (M.map D.lst):=by
 rw[T.gT];congr 1
 induction M with
 | nil=>rw[List.map_nil,T.gU];rfl
 | cons x M a=>rw[js,T.gU,a,Tg,fz];rfl
def M7{O P:AT}(h:O.Perm P)(s:P.Pairwise (· < ·)):sortI O=P:=
 kh (vA (kW O) ((sortI_perm O).nodup_iff.2 (h.nodup_iff.2 (pS s)))) s λx=>by rw[eZ,h.mem_iff]
def ant{SL:CO}{mm:Nat}{s:AT}:∀w∈(HI (qs SL mm s) x).ws,w.mode="far"->w.i3 ≠ -1:=λw hw hm a=>by
 obtain⟨v,hv,rfl⟩:=j0.1 hw;obtain⟨k,_,rfl⟩:=j0.1 ((iN _).mem_iff.1 hv);generalize b:n8 Qcp (tu SL mm s).length (SM mm s) QeV Qb5=v at hm a;have d:¬ (0<x % 3/\v.i3 ≠ -1):=λz=>z.2 a;have e:(fW x v).mode=v.mode:=cq d;rw[e,← b]at hm;have a:v.i3=-1:=a;rw[← b]at a;have f:sk Qcp (tu SL mm s).length QeV Qb5="far":=hm;have c:oa Qcp (tu SL mm s).length QeV Qb5=-1:=a;unfold sk at f;rw[di c]at f;exact absurd f Wl
noncomputable def IX:At:=["go","go2","ago"]
def ah1(k:Nat):PyData.strOk (IX.getD k Str.empty)=true:=by
 have:∀x∈IX,PyData.strOk x=true:=by decide +kernel
 rw[la];cases e:IX[k]? with
 | none=>show PyData.strOk Str.empty=true;decide +kernel
 | some x=>exact this x (l6 e)
theorem XN(ws:QP):∀(rs:List Rk) (A:AT) (t:Int),t∈rs.foldl (F0 ws) A->t∈A\/∃i,Rk.way i∈rs/\(dF ws i).mode="far" /\ t=(dF ws i).i3
 | [],A,t,h=>.inl h
 | r::rs,A,t,h=>by
  rw[k3]at h;obtain z|⟨i,hi,e⟩:=XN ws rs _ t h
  .cases r with
   | way i=>
    rw[F0]at z;split at z
    .obtain y|y:=gY.1 z
     .exact .inl y
     .exact .inr ⟨i,gj,‹_›,kf.1 y⟩
    .exact .inl z
   | _=>exact .inl z
  .exact .inr ⟨i,i4 _ hi,e⟩
theorem LP{c:CH}(a:c.Ok){p:Pl}(g:Gd c p):p.1.Pairwise (· < ·)/\(∀x∈p.1,0<=x/\x<c.es.length)/\p.1.length<=40:=by
 obtain⟨ch,_,e,_⟩:=g;have n0:=a.k.n0;have n1:=a.k.n1;rw[e];refine⟨gE _,λx b=>uO n0 b,?_⟩;have:=Ay (isAll:=aq c.ks) (es:=c.es) (ch:=ch) Qbr;lia
structure Ov(c:CH)(O:AT)(h:CC)(R:BA)(ah:AT)(p:Pl):Prop where
 s:sortI O=ah
 b:(∀x∈ah,0<=x/\x<c.es.length)/\ah.length<=40/\O.length<=40
 o:∀P Q m,R.map kF=P++Rk.out m::Q->m∈P.foldl Wd O
 w:∀i,Rk.way i∈R.map kF->0<=i/\i<c.ws.length
 i:y5 c p ((R.map kF).foldl Wd O) ((R.map kF).foldl Qf3 h)
 a:∀t∈(R.map kF).foldl Qd9 [],(0<=t/\t<c.es.length)/\t∈p.1/\hG c ((R.map kF).foldl Qf3 h) t=.lst ((vI c.es p.1 t).map .int)
def arB{c:CH}(a:c.Ok)(k:∀w∈c.ws,w.mode="far"->w.i3 ≠ -1){p q:Pl}{O:AT}{h:CC}(I:y5 c p O h)(S:Lu c p R q):Ov c O h R p.1 q:=by
 obtain⟨sg,bs,f,rfl⟩:=S;have G:=FU a I.g sg bs;obtain⟨b1,b2,b3⟩:=LP a I.g;have e:(goN c p sg bs).1.map xm=(oe c p Qcs).map kF:=by
  rw[← G.d,kq];exact nz λx _=>(Po x).symm
 rw[e]at f;obtain⟨s1,s2,s4,s3⟩:=aqW a I G.s f;have hw:∀i,Rk.way i∈R.map kF->0<=i/\i<c.ws.length:=λi hi=>(G.s.i i (s4 i hi)).1;refine⟨M7 I.o b1,⟨b2,b3,by rw[I.o.length_eq];exact b3⟩,s2,hw,s1,λt b=>s3 t b ?_⟩;obtain z|⟨i,hi,hm,rfl⟩:=XN c.ws _ _ t b
 .cases z
 .obtain⟨j,i1⟩:=hw i hi;exact k _ (mU j i1) hm
def anv{c:CH}(d:c.Ok)(a:(R.map kF).filter live=(zX c).1.map Rk.yd):Ov c [] [] R [] (zX c):=by
 obtain⟨g0,_,_,_⟩:=Lw d;have mem:∀r∈R.map kF,r ≠ .Al->∃m,r=Rk.yd m:=λr hm g=>by
  have:r∈(R.map kF).filter live:=kc.2 ⟨hm,by unfold live;rw[ky g];rfl⟩;rw[a]at this;obtain⟨m,_,rfl⟩:=j0.1 this;exact⟨m,rfl⟩
 have eo:(R.map kF).foldl Wd []=(zX c).1:=by rw[jG Qa0,a,Pp];rfl
 have j:(R.map kF).foldl (Ny c.es []) []=[]:=by rw[jG (f:=Ny c.es []) Qa0,a,Du]
 have l:(R.map kF).foldl Qd9 []=[]:=by rw[jG (f:=F0 c.ws) Qa0,a,Dt]
 refine⟨rfl,⟨λx h=>(by cases h),kn _,kn _⟩,λP Q m e=>?_,λi hi=>?_,?_,λt b=>?_⟩
 .obtain⟨_,z⟩:=mem (.out m) (by rw[e];simp) (by intro z;cases z);cases z
 .obtain⟨_,z⟩:=mem _ hi (by intro z;cases z);cases z
 .rw[eo,j];refine⟨g0,.refl _,λt _ t0 t1 _=>?_⟩;show D.lst _=.lst ((zc c.ks c.es c.ss Qiv t).map .int);rw[YH d.k t0 t1]
 .rw[l]at b;cases b
def XB(l:AT)(k:Nat):yc Qaj Qh0:=.lst λd hd=>by
 obtain⟨i,_,rfl⟩:=j0.1 hd;exact .int _ _
abbrev M1:=top 79
abbrev MW:=AT
abbrev Sk:At:=["script","chart","tree","run","cell","opens","held","step","ahead","aims","row","aim","due"]
noncomputable def xY:MW->BA:=λa=>[.lst (a.map .int)]
def xZ:MW->Prop:=λa=>a.length<=63
noncomputable def x6:MW->T:=λa=>(.sh Qdl:T)
structure arC(X:Cx)(CL:BC):Prop extends bI X where
 bT:Ln X 0 "script"
 aC:Ln X 1 "chart"
 bE:Ln X 2 "tree"
 WQ:Ln X 3 "run"
 vJ:Ln X 4 "cell"
 bQ:Ln X 5 "opens"
 Um:Ln X 6 "held"
 eK:Ln X 7 "step"
 WR:Ln X 8 "ahead"
 Uo:Ln X 9 "aims"
 iz:Ln X 10 "row"
 Qa:Ln X 11 "aim"
 Se:Ln X 12 "due"
 DS:Gl X "_law_with_far"
 M3:Gl X "_law_chart"
 fL:Gl X "_law_cell_at"
 Y3:Gl X "NestRun"
 M4:Gl X "_law_turns"
 M5:Gl X "_law_steps"
 eV:Gl X "sorted"
 yG:Gl X "_law_inside"
 M6:Gl X "_law_fresh"
 Up:Fc X CL "_law_with_far" 3 2 oM oN oO
 x8:Fc X CL "_law_chart" 5 1 xC xD xE
 gQ:Fc X CL "_law_cell_at" 1 2 kG kH kI
 Y4:Fm X CL "NestRun" 51 2 sX sY sZ
 ah2:Fc X CL "_law_turns" 1 3 Cy Cz xF
 ah3:Fc X CL "_law_steps" 1 1 xG xH xJ
 eW:nR X "sorted"
 Qc:Fc X CL "_law_inside" 2 3 ua uc ud
 ah4:Fc X CL "_law_fresh" 2 2 xK xM xN
 IY:LG X CL "NestRun" "feed" 49 2 j5 oq j7 j6
 G9:Fq X CL "NestRun" "story" 1 1 mK mL mO
 DT:Fq X CL "NestRun" "moods" 1 1 lJ lK lM
 az:jJ X.K QJ
 aV:aD X.K QJ "tree"
 bu:aD X.K QJ "ways"
theorem arD(E:arC X CL) :
  ni X CL b M1 Sk xY xZ x6:=by
 intro a h;dsimp only [xZ,xY,x6]at h ⊢;have hs:a.length<=63:=h;have hS:∀x∈nW,x<3:=by decide
 have K:=amC (s:=a) hS (mm:=9) Wp;have ZC:=ant (SL:=nW) (mm:=9) (s:=a) (x:=dP a 12);have N:D.bR (qs nW 9 a).nm=true:=se _;obtain⟨c5,P⟩:∃c,c=qs nW 9 a:=⟨_,rfl⟩;rw[← P]at K ZC N;have A:=YA K (dP a 12);obtain⟨c,hc⟩:∃c,c=HI c5 (dP a 12):=⟨_,rfl⟩;rw[← hc]at A ZC;refine aM E.g E.aC (xg (d:=c.d) (cF (c5,dP a 12) E.Up E.DS (aY (xg (d:=c5.d) (cF a E.x8 E.M3 (aY (v_ E.bT.1) bA) (show a.length<=1000 by lia)) (by rw[P];exact YN _)) (aY (c_ ((a,12)) E.gQ E.fL (ai Qcx (ai ao aG)) (show(0:Int)<=12 by decide) rfl) bA)) ⟨K,N⟩) (by rw[hc];exact YJ _)) ?_;clear hc P N K;refine aM E.g E.bE (kT E.az E.aV (v_ E.aC.1) e9) ?_;refine aM E.g E.WQ (aR (mkF c E.Y4 E.Y3 (aY (v_ E.aC.1) bA) A) (ahZ c)) ?_;have bo:=aho a 21 30;refine gK E.g E.vJ (λj δ=>∃(s:At) (V:ES),X8 j (c,s)/\δ=[some Qg3,some Qe8,some Qfg,some (ZS (c,s)),V,none,none,none,none,none,none,none,none]) (dm (dD (aR (c_ (a,21,30) E.ah2 E.M4 (ai Qcx (ai ao (ai ao aG))) ?tp (aL _)) rfl))) ⟨[],_,⟨A,λg hg=>(by cases hg),gZ _⟩,rfl⟩ (λj δ ⟨_,_,_,e⟩=>by subst e;exact jj rfl) ?turn ?fin
 case tp=>exact⟨hs,Wp,Wp,Wp⟩
 case turn=>
  rintro j d δ Y ⟨s,V,H,rfl⟩;rw[k4]at Y;obtain⟨x,hx,rfl⟩:=r0.1 Y;have bp:j<63:=by have:=(kO.1 hx).1;lia
  have q0:=mu (x % 9) (b:=3) Wp;have q1:=l8 (x % 9) (b:=3) Wp;have hg:=ah1 (x % 9 % 3).toNat;obtain⟨ae,ax⟩:=H.ns;have aT:(kB c s).2.2.length<=1000:=by rw[ax];have:=H.l;lia
  rw[ah0 c s];refine VF (qM (dl:=[.str (IX.getD (x % 9 % 3).toNat Str.empty)]) (λz=>(z,c,(kB c s).1,(kB c s).2.2,(kB c s).2.1,some (uY c),IX.getD (x % 9 % 3).toNat Str.empty)) (ZS (c,s++[IX.getD (x % 9 % 3).toNat Str.empty])) E.IY E.WQ.1 (.own rfl) (aY (cM (bJ (bS (fO (qz (l:=IX) rfl) aP)) (aH (jK (aH (jK (aF E.vJ) ao Wp)) ao Wp)) (fH Str.empty (l:=IX) q0 (show x % 9 % 3<3 from q1))) rfl) bA) (λz _=>⟨A,ae.g,ae.b,aT⟩) (t:=.lst ((Dr c ([IX.getD (x % 9 % 3).toNat Str.empty],(kB c s).1,(kB c s).2.1)).map T.sh)) QfK (λz _=>⟨rfl,.inl (by rw[ad8]),trivial⟩) (V6 Wl Wl Wl Wl Wl) QfK) (aj ⟨s++[IX.getD (x % 9 % 3).toNat Str.empty],some (.sh Qdx),⟨A,λq hq=>?_,?_⟩,rfl⟩)
  .obtain z|z:=gY.1 hq
   .exact H.s q z
   .rw[kf.1 z];exact hg
  .show(s++[_]).length<=_;rw[kr];exact Nat.succ_le_succ H.l
 case fin=>
 rintro δ ⟨s,V,H,rfl⟩;have hn:((xb a 21 30).map D.int).length<=63:=by rw[d8];lia
 generalize ((xb a 21 30).map D.int).length=n at H hn;refine aM E.g E.bQ QaS ?_;refine aM E.g E.Um VC ?_;have aI:=H.look hn;obtain⟨L,l,a0,J⟩:=ad9 A s;have bj:stM Qcn=L++[l]:=by
  have:=a0 []
  rwa [j2,Nz]at this
 rw[← bj]at J;have ag:=H.rws;have bg:=aea (c:=c) s;have ar:=H.anr hn;have JR:(vH c.d (Dq (kB c s).1) (Br (kB c s).2.2) (kB c s).2.1 (Yy QfX)).lookup ("story":Str)=none:=Sn Wl Wl Wl Wl Wl;have bc:((stM Qcn).map List.length).sum<=500000:=by
  unfold stM;rw[Ul];simpa using ar
 have ab:∀R∈stM Qcn,∀d∈R,w1 d:=Lz (λ_ h=>by cases h) (λ_ h=>by cases h) bg;refine gK E.g E.eK (λj δ=>∃(O:AT) (h:CC) (o7 o8 o9 y v f:ES),(((j=0/\O=[]/\h=[])\/(1<=j/\∃p,y5 c p O h/\r8 c p ((stM Qcn).drop j) (kB c s).1))/\h.length+(((stM Qcn).drop j).map List.length).sum<=500000)/\δ=[some Qg3,some Qe8,some Qfg,some (ZS (c,s)),V,some (.lst ((O.map .int).map T.sh)),some (.qw h),o7,o8,o9,y,v,f]) (dm (xg (d:=.lst ((stM Qcn).map .lst)) (cF Qcn E.ah3 E.M5 (aY (dD (q0_ (c.d,Dq (kB c s).1,(kB c s).2.2,(kB c s).2.1,uY c) E.G9 (vE E.WQ.1 rfl (WO (c,s))) JR rfl aI (fc (FW ag)))) bA) ⟨ag,We⟩) (avA _))) ⟨[],[],_,_,_,_,_,_,⟨.inl ⟨rfl,rfl,rfl⟩,by rw[List.drop_zero,F1,vy];exact bc⟩,rfl⟩ (λj δ ⟨_,_,_,_,_,_,_,_,_,e⟩=>by subst e;exact jj rfl) ?Gh ?fin2
 case Gh=>
  rintro j d δ Y ⟨O,h,o7,o8,o9,y,v,f,⟨Qd,hsz⟩,rfl⟩;generalize stM Qcn=M at Y Qd hsz J ab ⊢;rw[k4]at Y;obtain⟨R,hR,rfl⟩:=r0.1 Y;have B7:=(kO.1 hR).1;have G:M.drop j=R::M.drop QA:=by
   obtain⟨_,e⟩:=kO.1 hR;rw[← e,x9 B7]
  have aw:=ab R (l6 hR);rw[G,js,List.sum_cons]at hsz;obtain⟨ah,F,tn,Zz⟩:∃ah F,Ov c O h R ah F/\r8 c F (M.drop QA) (kB c s).1:=by
   obtain⟨rfl,rfl,rfl⟩|⟨_,p,I,ch⟩:=Qd
   .obtain⟨R0,S,e,ba,ch⟩:=J.Pc;rw[List.drop_zero,e]at G;obtain⟨e1,e2⟩:=List.cons.inj G;subst e1;exact⟨[],_,anv A ba,by rw[e,← e2];exact ch⟩
   .rw[G]at ch;cases ch with
    | cons s1 ch=>exact⟨_,_,arB A ZC I s1,ch⟩
  refine aM E.g E.WR (aR (kg E.eW Qgc (by have:=tn.b.2.2;lia) E.eV) (t2:=.lst ((ah.map .int).map T.sh)) (by rw[tn.s])) ?_;refine aM E.g E.Uo QaS ?_;refine gK E.g E.iz (λk δ=>∃y:ES,δ=[some Qg3,some Qe8,some Qfg,some (ZS (c,s)),V,some (.lst (((((R.take k).map kF).foldl Wd O).map .int).map T.sh)),some (.qw (((R.take k).map kF).foldl Qf3 h)),some (.sh (.lst R)),some (.lst ((ah.map .int).map T.sh)),some (.lst (((((R.take k).map kF).foldl Qd9 []).map .int).map T.sh)),y,v,f]) (dm (v_ E.eK.1)) ⟨_,rfl⟩ (λj δ ⟨_,e⟩=>by subst e;exact jj rfl) ?arF ?avG
  case arF=>
   rintro k d δ W ⟨y,rfl⟩;have HZ:=(kO.1 W).1;have uT:R.take Qaj=R.take k++[d]:=by rw[rh,W];rfl
   obtain⟨w,r,rfl,hw⟩:=aw d (l6 W);have QG:R.map kF=(R.take k).map kF++kF Qc4::(R.drop Qaj).map kF:=by
    have e:=congrArg (List.map kF) (yU Qaj R);rw[uT,jI,jI,jc]at e;exact e.symm
   have ho:=tn.o ((R.take k).map kF) ((R.drop Qaj).map kF);have aa:=tn.w;rw[QG]at ho aa;have l1:=XX ((R.take k).map kF) O;have l2:=Uk c.es ah ((R.take k).map kF) h;have l3:=XS c.ws ((R.take k).map kF) [];have l4:=tn.b.2.2;rw[d8,nr]at l1 l2 l3;rw[uT,jI,JU,oC,oC,oC];generalize ((R.take k).map kF).foldl Wd O=O1 at ho l1 ⊢;generalize ((R.take k).map kF).foldl Qf3 h=h1 at l2 ⊢;generalize ((R.take k).map kF).foldl Qd9 []=Z at l3 ⊢;refine fq (cW QfE bK).1 (λB=>?_) (λB=>?_)
   .have e:=ko B;subst e;obtain⟨m,rfl⟩:=hw Q4;have hm:m∈O1:=ho m rfl;obtain⟨q,hq,JR⟩:=Gg hm;refine abg (.inl m) E.u E.Um.1 (dD (c_ (c.ks,c.es,c.ss,ah,m) E.Qc E.yG (ai QaO (ai (vL E.WR.1) (ai Qft aG))) ⟨A.k.pre.1,by have:=A.k.n1;lia,by have:=tn.b.2.1;lia,tn.b.1⟩ (aL _))) Qft rfl We ?_;refine aqn E.bQ.1 rfl Qft hq JR (aj (aj ⟨some (.sh (.tup [.str "out",.int m])),?_⟩));rw[So hq JR];rfl
   .have n1:=l5 B;refine fq (cW QfE bK).1 (λWy=>?_) (λWy=>?_)
    .have e:=ko Wy;subst e;obtain⟨m,rfl⟩:=hw (.inr Q4);refine jt E.bQ.1 rfl (cM Qft rfl) rfl (by rw[d8,d8];lia) (aj (aj (aj ⟨some (.sh (.tup [.str "in",.int m])),?_⟩)));show _=[_,_,_,_,_,some (T.lst (((O1++[m]).map D.int).map T.sh)),_,_,_,_,_,_,_];rw[jI,jI];rfl
    .have n2:=l5 Wy;by_cases n3:w="way"
     .subst n3;obtain⟨i,rfl⟩:=hw (.inr QaH);obtain⟨i0,i1⟩:=aa i (i5 _ gj);refine fq (qW (iK (Yh (cW QfE bK).1 (lx rfl)) (λ_=>jf (cW (aX Qk2 ao (dg (j:=5) rfl)) bK).1))) (λB=>?_) (λB=>?_)
      .have e:(dF c.ws i).mode="far":=ko B;refine jt E.Uo.1 rfl (cM (aX Qk2 ao (dg (j:=4) rfl)) rfl) rfl (by rw[d8,d8];simp only[F1]at l3;lia) (aj (aj (aj (aj ⟨some (.sh Qff),?_⟩))));have ea:F0 c.ws Z (kF Qff)=Z++[(dF c.ws i).i3]:=di e;show _=[_,_,_,_,_,_,_,_,_,some Qj9,_,_,_];rw[ea,jI,jI];rfl
      .have e:¬ (dF c.ws i).mode="far":=l5 B;have ea:F0 c.ws Z (kF Qff)=Z:=cq e;refine aj (aj (aj (aj ⟨some (.sh Qff),?_⟩)));show _=[_,_,_,_,_,_,_,_,_,some Qj9,_,_,_];rw[ea];rfl
     .refine fq (qW (iK (q:=false) (Yh (cW QfE bK).1 (ky n3)) (λz=>by cases z))) (λB=>by cases B) (λ_=>aj (aj (aj (aj ⟨some (.sh Qc4),?_⟩))));rw[ans n1 n2 n3];rfl
  case avG=>
  rintro δ ⟨y,rfl⟩;have C:=tn.i;have hA:=tn.a;have l2:=Uk c.es ah (R.map kF) h;rw[d8]at l2;rw[me];generalize (R.map kF).foldl Wd O=O2 at C ⊢;generalize (R.map kF).foldl Qf3 h=h2 at C hA l2 ⊢;generalize (R.map kF).foldl Qd9 []=A2 at hA ⊢;obtain⟨g1,g2,g3⟩:=LP A C.g;have U:=M7 C.o g1;refine TU (i:=9) (d:=.lst (A2.map .int)) rfl (fz _) ?_;refine gK E.g E.Qa (λk δ=>∃(v f:ES),δ=[some Qg3,some Qe8,some Qfg,some (ZS (c,s)),V,some (.lst ((O2.map .int).map T.sh)),some (.qw h2),some (.sh (.lst R)),some (.lst ((ah.map .int).map T.sh)),some (.sh (.lst (A2.map .int))),y,v,f]) (dm (v_ E.Uo.1)) ⟨_,_,rfl⟩ (λj δ ⟨_,_,e⟩=>by subst e;exact jj rfl) ?arG ?avI
  case arG=>
   rintro k d δ W ⟨v,f,rfl⟩;rw[k4]at W;obtain⟨t,ht,rfl⟩:=r0.1 W;obtain⟨⟨t0,t1⟩,tO,hg⟩:=hA t (l6 ht);have n1:=A.k.n1;have hd:yc 60 (.lst ((vI c.es F.1 t).map .int)):=XB _ _;refine aM E.g E.Se (aR (ab2 (.inl t) E.u E.Um.1 rfl (aF E.Qa) (dD (c_ (c.ks,c.es,c.ss,t) E.ah4 E.M6 (ai QaO (ai (aF E.Qa) aG)) ⟨A.k.pre.1,We,A.k.kl,A.k.sl⟩ (aL _)))) (t2:=.sh (.lst ((vI c.es F.1 t).map .int))) (by rw[← hg];rfl)) ?_;refine fq (qW (Vr (D6 (aF E.Qa) Qgc rfl rfl).1 (λ_=>Rn (Rq E.u (d1:=.lst ((vI c.es F.1 t).map .int)) (bS (c_ (c.ks,c.es,c.ss,F.1,t) E.Qc E.yG (ai QaO (ai (bS (aR (kg E.eW Qgc (by rw[C.o.length_eq];lia) E.eV) (t2:=.lst ((F.1.map .int).map T.sh)) (by rw[U]))) (ai (aF E.Qa) aG))) ⟨A.k.pre.1,We,We,g2⟩ (aL _))) (aF E.Se) hd hd).1))) (λB=>absurd B (by rw[lx (C.o.mem_iff.2 tO),Oc hd];decide)) (λ_=>aj (aj ⟨_,_,rfl⟩))
  case avI=>
  rintro δ ⟨v,f,rfl⟩;exact aj ⟨O2,h2,_,_,_,_,_,_,⟨.inr ⟨We,F,C,Zz⟩,We⟩,rfl⟩
 case fin2=>
 rintro δ ⟨O,h,o7,o8,o9,y,v,f,⟨Qd,hsz⟩,rfl⟩;rw[d8]at Qd;have C:y5 c (kB c s).1 O h:=by
  obtain⟨e,_⟩|⟨_,p,I,ch⟩:=Qd
  .obtain⟨R0,S,e2,_⟩:=J.Pc;rw[e2]at e;cases e
  .rw[List.drop_length]at ch;cases ch;exact I
 obtain⟨g1,g2,g3⟩:=LP A C.g;have U:=M7 C.o g1;have hd:yc 60 (.lst ((kB c s).1.1.map .int)):=XB _ _;have bb:(vH c.d (Dq (kB c s).1) (Br (kB c s).2.2) (kB c s).2.1 (Yy QfX)).lookup ("moods":Str)=none:=Sn Wl Wl Wl Wl Wl;exact bB (aR (alr E.u (d1:=.lst ((kB c s).1.1.map .int)) (bS (q0_ (c.d,(kB c s).1,Br (kB c s).2.2,(kB c s).2.1,Yy QfX) E.DT (vE E.WQ.1 rfl (WO (c,s))) bb rfl trivial (aL _))) (bS (aR (kg E.eW Qgc (by rw[C.o.length_eq];lia) E.eV) (t2:=.lst (((kB c s).1.1.map .int).map T.sh)) (by rw[U]))) hd hd).2 (t2:=.sh Qdl) (by rw[Oc hd])) rfl
def gi:FG Sk ["script"] ["_law_with_far","_law_chart","_law_cell_at","NestRun","_law_turns","_law_steps","sorted","_law_inside","_law_fresh"] (ak M1):=fG
noncomputable def cl(aN bw aJ aA cB dw bO:Addr):Str->Addr:=λc=>if c="Chart" then aN else if c="Tree" then bw else if c="Runner" then aJ else if c="NestRun" then aA else if c="#_law_chart.<locals>.<lambda>" then cB else if c="#kept.<locals>.<lambda>" then dw else if c="#goable.<locals>.<lambda>" then bO else 0
variable{aN bw aJ aA cB dw bO:Addr}
def Uq:cl aN bw aJ aA cB dw bO "#_law_chart.<locals>.<lambda>" = cB:=by unfold cl;rw[cq Wl];rw[cq Wl];rw[cq Wl];rw[cq Wl];rw[di rfl]
def Y5:cl aN bw aJ aA cB dw bO "#kept.<locals>.<lambda>" = dw:=by unfold cl;rw[cq Wl];rw[cq Wl];rw[cq Wl];rw[cq Wl];rw[cq Wl];rw[di rfl]
def Qe:cl aN bw aJ aA cB dw bO "#goable.<locals>.<lambda>" = bO:=by unfold cl;rw[cq Wl];rw[cq Wl];rw[cq Wl];rw[cq Wl];rw[cq Wl];rw[cq Wl];rw[di rfl]
def aei:cl aN bw aJ aA cB dw bO "Chart" = aN:=by unfold cl;rw[di rfl]
def ah5:cl aN bw aJ aA cB dw bO "Tree" = bw:=by unfold cl;rw[cq Wl];rw[di rfl]
def Y6:cl aN bw aJ aA cB dw bO "Runner" = aJ:=by unfold cl;rw[cq Wl];rw[cq Wl];rw[di rfl]
def Ur:cl aN bw aJ aA cB dw bO "NestRun" = aA:=by unfold cl;rw[cq Wl];rw[cq Wl];rw[cq Wl];rw[di rfl]
def ah6{x:Str}(h:JF x=true)(h0:cl aN bw aJ aA cB dw bO x≠0):(cl aN bw aJ aA cB dw bO x,KG x)∈([(cB,"_law_chart.<locals>.<lambda>"),(dw,"kept.<locals>.<lambda>"),(bO,"goable.<locals>.<lambda>")]:Cs):=by
 unfold cl at h0 ⊢;rw[cq (λe=>by rw[e]at h;exact absurd h Wl)]at h0 ⊢;rw[cq (λe=>by rw[e]at h;exact absurd h Wl)]at h0 ⊢;rw[cq (λe=>by rw[e]at h;exact absurd h Wl)]at h0 ⊢;rw[cq (λe=>by rw[e]at h;exact absurd h Wl)]at h0 ⊢;by_cases b:x="#_law_chart.<locals>.<lambda>"
 .rw[di b,b,show KG ("#_law_chart.<locals>.<lambda>":Str)="_law_chart.<locals>.<lambda>" by decide +kernel];simp
 rw[cq b]at h0 ⊢;by_cases a:x="#kept.<locals>.<lambda>"
 .rw[di a,a,show KG ("#kept.<locals>.<lambda>":Str)="kept.<locals>.<lambda>" by decide +kernel];simp
 rw[cq a]at h0 ⊢;by_cases c:x="#goable.<locals>.<lambda>"
 .rw[di c,c,show KG ("#goable.<locals>.<lambda>":Str)="goable.<locals>.<lambda>" by decide +kernel];simp
 rw[cq c]at h0 ⊢;exact absurd rfl h0
theorem all_mk{l:PySem.W.OpenLaw}{w:World}{K:Frag}{h:Heap}{mg:Bi}{T0:BN}{fa Bs Ut Y7 cp cn ho DB cm dE dC M8 bt br WT gN gD hn gz eT Qf Qg Y8 eR hl eP IZ hk dA Uu Qh M9 eN hj bp Y9 eM Qi P I0 dy Qj eJ Uv Ja eI du Uw Nb dt Za Jb hh Ux Uy eH Bt Hg rQ wK Jc Hh DU bo:Addr}(f:K.In h)(G:h.Ns mainGlobals mg)(aa:mg "law" = some (.ref fa))
  {Nf Uz Zb dr dq hg Qk dn dk dj Ng bj bg WU eF eE hc eD Bb v9 ly sO M0 G5 um rB Gu Tw zC nM uw lC nG Nu mH eC Ql MT rH TR Bk MF zJ rJ MV T7 zQ uI Ub C2 rN GX zR zS MX Bu Hi Jd Hj Je Hl DV O:QaG}
  (eA:InG K "Chart" aN) (hb:plainGet K aN Str.empty=true) (ha:hasDictIn K aN=true) (g5:plainOver K aN=true) (g4:findIn K Qds "__setattr__" = some Qel) (Qm:makesIn K aN=true) (Qn:keepIn K Qds=true)
  (D:findIn K Qds "boxes" = some none)
  (rR:findIn K Qds "names" = some none)
  (n:findIn K Qds "tree" = some none)
  (wL:findIn K Qds "ins" = some none)
  (uJ:findIn K Qds "outs" = some none)
  (r:findIn K Qds "ways" = some none)
  (df:InG K "Tree" bw) (ez:plainGet K bw Str.empty=true) (ey:hasDictIn K bw=true) (ew:plainOver K bw=true) (er:findIn K (.ref bw) "__setattr__" = some Qel) (ep:makesIn K bw=true) (en:keepIn K (.ref bw)=true)
  (t:findIn K (.ref bw) "kinds" = some none)
  (C:findIn K (.ref bw) "elders" = some none)
  (rS:findIn K (.ref bw) "starts" = some none)
  (g0:InG K "Runner" aJ) (Zc:plainGet K aJ Str.empty=true) (Zd:hasDictIn K aJ=true) (Ze:plainOver K aJ=true) (Zf:findIn K Qdt "__setattr__" = some Qel) (ik:makesIn K aJ=true) (ij:keepIn K Qdt=true)
  (iv:findIn K Qdt "place" = some none)
  (ip:findIn K Qdt "past" = some none)
  (iq:findIn K Qdt "boxes" = some none)
  (QO:findIn K Qdt "first_rows" = some none)
  (Zg:InG K "NestRun" aA) (UA:plainGet K aA Str.empty=true) (UB:hasDictIn K aA=true) (UC:plainOver K aA=true) (UD:findIn K Qeb "__setattr__" = some Qel) (UE:makesIn K aA=true) (UG:keepIn K Qeb=true)
  (uR:findIn K Qeb "chart" = some none)
  (M:findIn K Qeb "place" = some none)
  (qv:findIn K Qeb "past" = some none)
  (F:findIn K Qeb "boxes" = some none)
  (nO:findIn K Qeb "first_rows" = some none)
  (I:ZM K aN "__init__" "Chart.__init__" tY Bs Nf)
  (UH:lO K "_law_with_far" zf Ut Uz)
  (Zh:lO K "_law_cell_at" Cv Y7 Zb)
  (de:lO K "_law_take" SX cp dr)
  (dc:lO K "_law_line" SY cn dq)
  (hU:lO K "_law_elders" F3 ho hg)
  (qS:ZM K bw "__init__" "Tree.__init__" vQ DB Qk)
  (da:lO K "_law_tree" LR cm dn)
  (c8:lO K "_law_term" Td dE dk)
  (c5:lO K "_law_deed" Te dC dj)
  (Nh:lO K "_law_some_deeds" oQ M8 Ng)
  (bc:lO K "_law_ask" Nd bt bj)
  (bb:lO K "_law_way" Wo br bg)
  (EA:lO K "_law_chart" Er WT WU)
  {x8:Addr} {hT:Do} {Qo:CS} {hS:Cn} (hR:Wq 1 (WU.code=.ref x8)) (ia:K.lookup x8=some ⟨.type "code",hT,.fields Qo,hS⟩) (h9:Wq 1 (Qo[11]? = some (.ref cB))) (Qp:Wq 2 (codeHdIn K x8 cB=true)) (hP:Wq 3 (cB≠0)) (hO:Wq 2 (K.lookup cB=none)) (hN:Wq 3 (cB∈T0))
  (el:lO K "_law_turns" Es gN eF)
  (ek:lO K "_law_steps" Mf gD eE)
  (hM:lO K "_law_inside" A9 hn hc)
  (ej:lO K "_law_fresh" s_fresh gz eD)
  (ei:lO K "inner" Et eT Bb)
  (Qq:lO K "opened_in" v7 Qf v9)
  (L:lO K "opened" Gi Qg ly)
  (Zi:lO K "in_rows" CB Y8 sO)
  (eh:lO K "begun" Ml eR M0)
  (hL:lO K "firsts" Gk hl G5)
  (eg:lO K "value" Mp eP um)
  (Jf:lO K "with_number" rq IZ rB)
  (hK:lO K "redone" Gn hk Gu)
  (c4:lO K "done" Tr dA Tw)
  (UI:lO K "all_done" zA Uu zC)
  (Qs:lO K "performed" wk Qh nM)
  (Ni:lO K "has_target" ur M9 uw)
  (gg:lO K "above" Mt eN lC)
  (hJ:lO K "within" Gy hj nG)
  (ba:lO K "top" NA bp Nu)
  (Zj:lO K "way_top" CK Y9 mH)
  (gd:lO K "depth" Mx eM eC)
  (Qt:lO K "tops_meet" wB Qi Ql)
  (Nj:lO K "kept" Mz P MT)
  {C3:Addr} {gc:Do} {WV:CS} {f5:Cn} (f3:Wq 1 (MT.code=.ref C3)) (h7:K.lookup C3=some ⟨.type "code",gc,.fields WV,f5⟩) (h6:Wq 1 (WV[11]? = some (.ref dw))) (WW:Wq 2 (codeHdIn K C3 dw=true)) (fT:Wq 3 (dw≠0)) (fR:Wq 2 (K.lookup dw=none)) (fI:Wq 3 (dw∈T0))
  (Jg:lO K "open_leaves" m7 I0 rH)
  (c3:lO K "fits" TL dy TR)
  (Bv:lO K "goable" Bj Qj Bk)
  {sV:Addr} {Zk:Do} {Ko:CS} {Zm:Cn} (Zn:Wq 1 (Bk.code=.ref sV)) (ie:K.lookup sV=some ⟨.type "code",Zk,.fields Ko,Zm⟩) (ib:Wq 1 (Ko[11]? = some (.ref bO))) (Kp:Wq 2 (codeHdIn K sV bO=true)) (Zo:Wq 3 (bO≠0)) (Zq:Wq 2 (K.lookup bO=none)) (Zr:Wq 3 (bO∈T0))
  (fA:lO K "holds" MB eJ MF)
  (UJ:lO K "all_hold" zH Uv zJ)
  (Jh:lO K "number_asks" rE Ja rJ)
  (fy:lO K "picks" MG eI MV)
  (c2:lO K "left" MJ du T7)
  (UK:lO K "all_left" zK Uw zQ)
  (Nk:lO K "remembered" uD Nb uI)
  (c1:lO K "road" T9 dt Ub)
  (Zt:lO K "entered" CZ Za C2)
  (Ji:lO K "all_entered" rL Jb rN)
  (hI:lO K "heeded" GR hh GX)
  (UL:lO K "out_rows" zM Ux zR)
  (UM:lO K "way_rows" zO Uy zS)
  (fw:lO K "moved" Ey eH MX)
  (Bw:ZM K aA "step_at" "NestRun.step_at" lG Bt Bu)
  (Ho:ZM K aA "dealt" "Runner.dealt" qk Hg Hi)
  (rT:ZM K aJ "__init__" "Runner.__init__" rO rQ Jd)
  (Hq:specialIn K Qdt "__getattribute__" = some QkD) (Hr:readsIn K aJ QhP=true) (Hs:findCls K Qdt QhP "__init__" = some (.val (.ref rQ)))
  (lN:ZM K aA "__init__" "NestRun.__init__" qo wK Hj)
  (Jj:ZM K aA "feed" "Runner.feed" rP Jc Je)
  (Ht:ZM K aA "story" "Runner.story" qq Hh Hl)
  (DW:ZM K aA "moods" "NestRun.moods" ou DU DV)
  (V:lO K "law" M1 bo O)
  (cP:nsIn K mainGlobals "list" = some none)
  (a0:nsIn K mainGlobals "len" = some none)
  (fv:nsIn K mainGlobals "range" = some none)
  (aT:nsIn K mainGlobals "int" = some none)
  (aI:nsIn K mainGlobals "str" = some none)
  (fu:nsIn K mainGlobals "tuple" = some none)
  (hH:nsIn K mainGlobals "sorted" = some none)
  (ax:nsIn K mainGlobals "min" = some none)
  (aw:nsIn K mainGlobals "max" = some none)
  (ar:nsIn K mainGlobals "sum" = some none)
  (Qv:nsIn K mainGlobals "enumerate" = some none)
  {hF:Tok} (ft:nsIn K mainGlobals "AFTER" = some (some (.int 3 hF)))
  {WX:Addr} {hE:Do} {Eu:Nat} {hC:Cn} {UN UO UQ UR:Tok} (fo:nsIn K mainGlobals "MARKS" = some (some (.ref WX))) (hB:K.lookup WX=some ⟨.type "tuple",hE,.seq #[.str "out" UN,.str "keep" UO,.str "way" UQ,.str "in" UR] Eu,hC⟩)
  {Zu:Tok} (hA:nsIn K mainGlobals "TARGET" = some (some (.int 4 Zu)))
  {Zv:Tok} (hz:nsIn K mainGlobals "SOURCE" = some (some (.int 0 Zv)))
  (ag:nsIn K mainGlobals "any" = some none)
  {fm:Tok} (cx:nsIn K mainGlobals "SIGN" = some (some (.int 1 fm)))
  {fl:Tok} (cw:nsIn K mainGlobals "ASKS" = some (some (.int 2 fl)))
  (UT:nsIn K mainGlobals "reversed" = some none)
  {fk:Tok} (cv:nsIn K mainGlobals "MODE" = some (some (.int 5 fk)))
  {hy:Tok} (fg:nsIn K mainGlobals "DEEDS" = some (some (.int 3 hy)))
  {Jk:Tok} (Nm:nsIn K mainGlobals "MOST_SIGNS" = some (some (.int 8 Jk)))
  (Jl:Wq 3 (dw≠cB)) (DX:Wq 3 (bO≠cB)) (Hu:Wq 3 (bO≠dw))
  : ∃(fd:QaG) (ts:Cs),(∀p∈ts,p.1∈T0/\ts.lookup p.1=some p.2/\K.lookup p.1=none/\∃c,CodeHd h c p.1)/\(∀(s:Qb) (v:Value),BindsTo s fd ⟨[v],[]⟩ [("script",v)])/\∀base:Heap,K.In base->base.Ns mainGlobals mg->Fb mg base->fj l.prog w K mg base lR 53 fa fd ["script"] (spT K ts 1 xY xZ x6):=by
 have e:=aa.symm.trans (mn f G V.m);cases e;obtain⟨g,rfl,rfl,rfl,rfl,rfl,rfl,rfl,ab⟩:∃g:Str->Addr,aN=g "Chart" /\ bw=g "Tree" /\ aJ=g "Runner" /\ aA=g "NestRun" /\ cB=g "#_law_chart.<locals>.<lambda>" /\ dw=g "#kept.<locals>.<lambda>" /\ bO=g "#goable.<locals>.<lambda>" /\ ∀x,JF x=true->g x≠0->(g x,KG x)∈([(cB,"_law_chart.<locals>.<lambda>"),(dw,"kept.<locals>.<lambda>"),(bO,"goable.<locals>.<lambda>")]:Cs):=⟨(cl aN bw aJ aA cB dw bO),aei.symm,ah5.symm,Y6.symm,Ur.symm,Uq.symm,Y5.symm,Qe.symm,λx=>ah6⟩;have By:=I.binds (ps:=["self","boxes","names","tree","ins","outs","ways"]) λ_ _ _ _ _ _=>by refine lV ?_;exactλ_ _ _ _ _ _ _=>rfl
 have Qw:=qS.binds (ps:=["self","kinds","elders","starts"]) λ_ _ _ _ _ _=>by refine lV ?_;exactλ_ _ _ _=>rfl
 have ff:=mn f G EA.m;have fe:=EA.binds (ps:=["script"]) λ_ _ _ _ _ _=>by refine lV ?_;exactλ_=>rfl
 have Qx:=mn f G L.m;have Qy:=L.binds (ps:=["tree","memory","mood","mode"]) λ_ _ _ _ _ _=>by refine lV ?_;exactλ_ _ _ _=>rfl
 have ee:=mn f G Nj.m;have ed:=Nj.binds (ps:=["chart","found"]) λ_ _ _ _ _ _=>by refine lV ?_;exactλ_ _=>rfl
 have hx:=mn f G Bv.m;have hu:=Bv.binds (ps:=["chart","opens","leaf","sign"]) λ_ _ _ _ _ _=>by refine lV ?_;exactλ_ _ _ _=>rfl
 have Jm:=rT.binds (ps:=["self","boxes","place","script"]) λ_ _ _ _ _ _=>by refine lV ?_;exactλ_ _ _ _=>rfl
 have Hv:=lN.binds (ps:=["self","chart"]) λ_ _ _ _ _ _=>by refine lV ?_;exactλ_ _=>rfl
 have h5:=mn f G V.m;have h4:=V.binds (ps:=["script"]) λ_ _ _ _ _ _=>by refine lV ?_;exactλ_=>rfl
 have WY:=mn f G eA;have az:jJ K (g "Chart"):=⟨hb,ha,g5,g4⟩;have ec:=mn f G df;have bU:jJ K (g "Tree"):=⟨ez,ey,ew,er⟩;have ht:=mn f G g0;have h8:jJ K (g "Runner"):=⟨Zc,Zd,Ze,Zf⟩;have Zw:=mn f G Zg;have aK:jJ K (g "NestRun"):=⟨UA,UB,UC,UD⟩;have k:=nv f G cP;have o:=nv f G a0;have B:=nv f G fv;have cc:=nv f G aT;have N:=nv f G aI;have Nn:=nv f G fu;have z:=nv f G hH;have cb:=nv f G ax;have b7:=nv f G aw;have b6:=nv f G ar;have DC:=nv f G Qv;have fb:∃u,mg "AFTER" = some (.int 3 u):=⟨_,mn f G ft⟩;have e8:=mn f G fo;have BD:∃u,mg "TARGET" = some (.int 4 u):=⟨_,mn f G hA⟩;have Hw:∃u,mg "SOURCE" = some (.int 0 u):=⟨_,mn f G hz⟩;have b5:=nv f G ag;have eb:∃u,mg "SIGN" = some (.int 1 u):=⟨_,mn f G cx⟩;have S:∃u,mg "ASKS" = some (.int 2 u):=⟨_,mn f G cw⟩;have Hx:=nv f G UT;have R:∃u,mg "MODE" = some (.int 5 u):=⟨_,mn f G cv⟩;have e6:∃u,mg "DEEDS" = some (.int 3 u):=⟨_,mn f G fg⟩;have Np:∃u,mg "MOST_SIGNS" = some (.int 8 u):=⟨_,mn f G Nm⟩;refine⟨O,[((g "#_law_chart.<locals>.<lambda>"),"_law_chart.<locals>.<lambda>"),((g "#kept.<locals>.<lambda>"),"kept.<locals>.<lambda>"),((g "#goable.<locals>.<lambda>"),"goable.<locals>.<lambda>")],?tabs,?bind,λbase kb _ bl=>?_⟩
 case tabs=>
  intro p j;simp only[fV,kA,or_false]at j;obtain rfl|rfl|rfl:=j
  .exact⟨hN.1,by simp only[mf,yl],hO.1,x8,Kk f Qp.1⟩
  .exact⟨fI.1,by simp only[mf,yl,beq_false_of_ne Jl.1],fR.1,C3,Kk f WW.1⟩
  .exact⟨Zr.1,by simp only[mf,yl,beq_false_of_ne DX.1,beq_false_of_ne Hu.1],Zq.1,sV,Kk f Kp.1⟩
 case bind=>
  obtain⟨oc,od,kV,doc,pm,an,gR,ct,Q8,rfl,lk,kN⟩:=V.ex;exactλs v=>.of_eq rfl
 have q:=@aql l.prog w mg base K h g f G;have Z:=@aqm l.prog w mg base K h g f G;have BE:fj l.prog w K mg base lR 1 Bs _ ["self","boxes","names","tree","ins","outs","ways"] (va K g "Chart" 7 pV pW pX):=KY I.1 dS.1 λgR A outer s H E b a y d j=>by
  obtain⟨p0,p1,p2,p3,p4,p5⟩:=a;refine LJ ?_ p0 p1 p2 p3 p4 p5 y j;exact⟨⟨⟨dS.nd,rfl,.never⟩,d.units⟩,gL dS 0,gL dS 1,gL dS 2,gL dS 3,gL dS 4,gL dS 5,gL dS 6,gG dS 0,k,az,aK,D,F,rR,n,wL,uJ,r⟩
 have UU:=q 2 oM oN oO UH  jv.1 λd u p=>SW (by exact⟨u,gL jv 0,gL jv 1,gL jv 2,gL jv 3,gL jv 4,gG jv 0,⟨⟨_,_,_,⟨Qm,I.a,I.i,Qn⟩,BE,WY,By⟩,d.mono Wp⟩,az,aK,r,D,F,rR,n,wL,uJ⟩) p;have Y:=q 0 kG kH kI Zh  t6.1 λd u p=>YL (by exact⟨u,gL t6 0,gL t6 1,gG t6 0,o⟩) p;have J:=Z 0 k7 pre_take k9 k8 de  En.1 λd u=>amI (by exact⟨u,gL En 0,gL En 1,gL En 2⟩);have UW:=q 0 vK vN vO dc  Eo.1 λd u p=>amK (by exact⟨u,gL Eo 0,gL Eo 1,gL Eo 2⟩) p;have hq:=q 1 zk zl zm hU  iy.1 λd u p=>ads (by exact⟨u,gL iy 0,gL iy 1,gL iy 2,gL iy 3,gL iy 4,gL iy 5,gG iy 0,gG iy 1,gG iy 2,gG iy 3,B,cT UW d,o,cT Y d⟩) p;have Qz:fj l.prog w K mg base lR 1 DB _ ["self","kinds","elders","starts"] (va K g "Tree" 4 yq yr yt):=KY qS.1 iV.1 λgR A outer s H E b a y d j=>by
  obtain⟨p0,p1,p2⟩:=a;refine PB ?_ p0 p1 p2 y j;exact⟨⟨⟨iV.nd,rfl,.never⟩,d.units⟩,gL iV 0,gL iV 1,gL iV 2,gL iV 3,gG iV 0,k,bU,t,C,rS⟩
 have ea:=q 2 F6 F7 F8 da  ahj λd u p=>amP (by exact⟨u,qB g9 0,qB g9 1,qB g9 2,yQ g9 3,b8 g9 3 rfl,qB g9 4,qB g9 5,yQ g9 6,b8 g9 6 rfl,qB g9 7,qC g9 8,qC g9 9,qC g9 10,qC g9 11,qC g9 12,qC g9 13,cT hq d,B,o,cT Y d,cc,⟨⟨_,_,_,⟨ep,qS.a,qS.i,en⟩,Qz,ec,Qw⟩,d.mono Wp⟩⟩) p;have U:=Z 1 AY vU vV vS c8  xx.1 λd u=>amR (by exact⟨u,gL xx 0,gL xx 1,gL xx 2,gL xx 3,gG xx 0,⟨J,d.mono Wp⟩⟩);have T:=Z 2 AZ A3 A4 A0 c5  mV.1 λd u=>amT (by exact⟨u,gL mV 0,gL mV 1,gL mV 2,gL mV 3,gL mV 4,gG mV 0,gG mV 1,gG mV 2,gG mV 3,⟨J,d.mono Wp⟩,⟨U,d.mono Wp⟩,N,o⟩);have Nq:=q 3 pY pZ p9 Nh  Iq λd u p=>LY (by exact⟨u,qB dU 0,yQ dU 1,b8 dU 1 rfl,yQ dU 2,b8 dU 2 rfl,yQ dU 3,b8 dU 3 rfl,qC dU 4,qC dU 5,qC dU 6,Nn,B,⟨J,d.mono Wp⟩,⟨T,d.mono Wp⟩⟩) p;have b4:=Z 2 LZ L4 L5 L0 bc  vX.1 λd u=>aq4 (by exact⟨u,gL vX 0,gL vX 1,gL vX 2,gL vX 3,gL vX 4,gG vX 0,gG vX 1,⟨J,d.mono Wp⟩,⟨U,d.mono Wp⟩⟩);have b0:=q 3 L6 L7 L8 bb  amW λd u p=>aq7 (by exact⟨u,qB gH 0,yQ gH 1,b8 gH 1 rfl,yQ gH 2,b8 gH 2 rfl,yQ gH 3,b8 gH 3 rfl,qB gH 4,yQ gH 5,b8 gH 5 rfl,yQ gH 6,b8 gH 6 rfl,yQ gH 7,b8 gH 7 rfl,qB gH 8,qB gH 9,qB gH 10,qB gH 11,qB gH 12,qC gH 13,qC gH 14,qC gH 15,qC gH 16,o,⟨J,d.mono Wp⟩,B,Nn,⟨b4,d.mono Wp⟩,⟨T,d.mono Wp⟩⟩) p;have e5:fj l.prog w K mg base lR 5 WT _ ["script"] (N7 K g 1 xC xD xE):=E9 EA.1 PF λgR A outer s H E b a kN d j=>by
  refine ahn ?_ j;exact⟨⟨⟨PF.nd,rfl,.never⟩,d.units⟩,yQ cD 0,b8 cD 0 rfl,qB cD 1,yQ cD 2,b8 cD 2 rfl,qB cD 3,yQ cD 4,b8 cD 4 rfl,qB cD 5,yQ cD 6,b8 cD 6 rfl,yQ cD 7,b8 cD 7 rfl,qB cD 8,qB cD 9,qB cD 10,qB cD 11,qB cD 12,qC cD 13,qC cD 14,qC cD 15,qC cD 16,qC cD 17,qC cD 18,qC cD 19,cT Y d,⟨J,d.mono Wp⟩,cT ea d,o,B,⟨⟨_,_,_,⟨Qm,I.a,I.i,Qn⟩,BE,WY,By⟩,d.mono Wp⟩,z,N,cT Nq d,cT b0 d,bU,t,C,Mc bl kb kN hR.1 (Qp.1) (hP.1),K8 d,d⟩
 have e4:=VD e5 ff EA.kp fe;have gx:=q 0 Cy Cz xF el  adB λd u p=>ahr (by exact⟨u,yQ jw 0,b8 jw 0 rfl,yQ jw 1,b8 jw 1 rfl,yQ jw 2,b8 jw 2 rfl,qB jw 3,qC jw 4,qC jw 5,qC jw 6,qC jw 7,cb,b7,o,B,b6⟩) p;have gw:=q 0 xG xH xJ ek  A8.1 λd u p=>ahu (by exact⟨u,gL A8 0,gL A8 1,gL A8 2⟩) p;have h3:=q 1 ua uc ud hM  YQ λd u p=>adD (by exact⟨u,yQ sM 0,b8 sM 0 rfl,qB sM 1,yQ sM 2,b8 sM 2 rfl,cT UW d,bU,C⟩) p;have gv:=q 1 xK xM xN ej  jx.1 λd u p=>ahx (by exact⟨u,gL jx 0,gL jx 1,gL jx 2,gL jx 3,gL jx 4,gL jx 5,gL jx 6,gG jx 0,gG jx 1,gG jx 2,B,o,cT UW d,bU,t,C,rS⟩) p;have WZ:=q 0 xO pI xP ei  adF λd u p=>ahz (by exact⟨u,qB Ba 0,yQ Ba 1,b8 Ba 1 rfl,qC Ba 2,DC,bU,C⟩) p;have QB:=q 1 rg rj mW Qq  iW.1 λd u p=>PN (by exact⟨u,gL iW 0,gL iW 1,gL iW 2,gL iW 3,gL iW 4,gG iW 0,cT WZ d,bU,t,rS⟩) p;have Zx:∀dd,fj l.prog w K mg base lR (3+dd) Qg ly ["tree","memory","mood","mode"] (N7 K g 4 qa (ki dd) mj):=by
  intro dd
  induction dd using Nat.strongRecOn with
  | ind dd ih=>
   rw[show 3+dd=(2+dd)+1 by lia];exact D5 L.1 iA.1 λgR A outer s H E b a d j=>by
    refine adH (dd:=dd) ?_ j;exact⟨⟨⟨iA.nd,rfl,.never⟩,d.units⟩,gL iA 0,gL iA 1,gL iA 2,gL iA 3,gL iA 4,gL iA 5,gL iA 6,gG iA 0,gG iA 1,cT QB d We,λd' hd=>⟨⟨_,_,_,ih d' hd,Qx,L.kp,Qy⟩,d.mono We⟩⟩
 have hZ:=Zx 40;have QC:=VD hZ Qx L.kp Qy;have Kq:=q 0 qL nA nB Zi  qb.1 λd u p=>YS (by exact⟨u,gL qb 0,gL qb 1,gL qb 2,gL qb 3,az,wL⟩) p;have gr:=q 43 CF CG xQ eh  qc.1 λd u p=>ahB (by exact⟨u,gL qc 0,gL qc 1,gL qc 2,gG qc 0,gG qc 1,gG qc 2,o,cT QC d,cT Kq d,az,n,rR⟩) p;have hY:=q 0 zq ug uh hL  Kh.1 λd u p=>adJ (by exact⟨u,gL Kh 0,az,aK,D,F⟩) p;have W0:=q 0 xR sP xS eg  wc.1 λd u p=>ahD (by exact⟨u,gL wc 0,gL wc 1,gL wc 2,gL wc 3⟩) p;have Jo:=q 0 nX nY jW Jf  iB.1 λd u p=>Iu (by exact⟨u,gL iB 0,gL iB 1,gL iB 2,gL iB 3,gG iB 0,k⟩) p;have hX:=q 1 zu zx zy hK  sQ.1 λd u p=>adM (by exact⟨u,gL sQ 0,gL sQ 1,gG sQ 0,gG sQ 1,cT Jo d,fb⟩) p;have d6:=q 2 Gq Gr Gs c4  uo.1 λd u p=>am2 (by exact⟨u,gL uo 0,gL uo 1,gL uo 2,gL uo 3,gG uo 0,gG uo 1,cT W0 d,cT hX d⟩) p;have UX:=q 3 uq oR oS UI  gy.1 λd u p=>Tz (by exact⟨u,gL gy 0,gL gy 1,gL gy 2,gL gy 3,gL gy 4,gL gy 5,gL gy 6,gG gy 0,gG gy 1,k,cT d6 d⟩) p;have DE:=q 4 jU jd mX Qs  dZ.1 λd u p=>P0 (by exact⟨u,gL dZ 0,gL dZ 1,gL dZ 2,gL dZ 3,gL dZ 4,gL dZ 5,gL dZ 6,gG dZ 0,gG dZ 1,gG dZ 2,k,auM e8 hB,cT UX d⟩) p;have BF:=q 0 lA iC lB Ni  mY.1 λd u p=>Ms (by exact⟨u,gL mY 0,gL mY 1,gG mY 0,BD,az,r⟩) p;have X:=q 0 mq mw mz gg  wu.1 λd u p=>ahH (by exact⟨u,gL wu 0,gL wu 1,gL wu 2,gL wu 3,bU,C⟩) p;have BH:=q 1 mC mF mG hJ  sR.1 λd u p=>adQ (by exact⟨u,gL sR 0,gL sR 1,gL sR 2,gG sR 0,cT X d⟩) p;have bx:=q 2 Mv Mw Ew ba  zE.1 λd u p=>aro (by exact⟨u,gL zE 0,gL zE 1,gL zE 2,gL zE 3,gG zE 0,gG zE 1,cT X d,cT BH d,bU,t⟩) p;have C5:=q 3 nJ kJ nK Zj  ku.1 λd u p=>YV (by exact⟨u,gL ku 0,gL ku 1,gL ku 2,gG ku 0,gG ku 1,gG ku 2,cT bx d,Hw,BD,az,r,n⟩) p;have gq:=q 1 CN xT CP gd  wA.1 λd u p=>ahJ (by exact⟨u,gL wA 0,gL wA 1,gG wA 0,gG wA 1,o,cT X d⟩) p;have QD:=q 2 rC mZ m5 Qt  lD.1 λd u p=>P5 (by exact⟨u,gL lD 0,gL lD 1,gL lD 2,gG lD 0,cT BH d⟩) p;have d5:fj l.prog w K mg base lR 5 P _ ["chart","found"] (N7 K g 2 Be Bf Bg):=E9 Nj.1 WK λgR A outer s H E b a kN d j=>by
  refine am8 ?_ j;exact⟨⟨⟨WK.nd,rfl,.never⟩,d.units⟩,yQ jX 0,b8 jX 0 rfl,qB jX 1,qB jX 2,qB jX 3,qB jX 4,yQ jX 5,b8 jX 5 rfl,qC jX 6,qC jX 7,qC jX 8,qC jX 9,z,cT BF d,cT C5 d,b5,cT gq d,Hw,cT QD d,az,n,r,Mc bl kb kN f3.1 (WW.1) (fT.1),K8 d,d⟩
 have d4:=VD d5 ee Nj.kp ed;have Jp:=q 0 n5 n9 jY Jg  GC λd u p=>Iz (by exact⟨u,yQ qd 0,b8 qd 0 rfl,qB qd 1,az,bU,t,n⟩) p;have d3:=q 0 GD GF Bh c3  Ex.1 λd u p=>ana (by exact⟨u,gL Ex 0,gL Ex 1,gL Ex 2⟩) p;have hW:fj l.prog w K mg base lR 2 Qj _ ["chart","opens","leaf","sign"] (N7 K g 4 zF zG qe):=E9 Bv.1 Km λgR A outer s H E b a kN d j=>by
  refine adX ?_ j;exact⟨⟨⟨Km.nd,rfl,.never⟩,d.units⟩,yQ dB 0,b8 dB 0 rfl,qB dB 1,qB dB 2,qB dB 3,qB dB 4,qB dB 5,qB dB 6,yQ dB 7,b8 dB 7 rfl,qC dB 8,qC dB 9,qC dB 10,qC dB 11,qC dB 12,qC dB 13,qC dB 14,cT X d,DC,eb,Hw,cT d3 d,S,z,az,r,n,Mc bl kb kN Zn.1 (Kp.1) (Zo.1),K8 d,d⟩
 have hV:=VD hW hx Bv.kp hu;have gm:=q 1 CQ CT CV fA  qf.1 λd u p=>ahM (by exact⟨u,gL qf 0,gL qf 1,gL qf 2,gL qf 3,gL qf 4,gG qf 0,cT W0 d⟩) p;have UY:=q 2 uy uz oW UJ  nL.1 λd u p=>T3 (by exact⟨u,gL nL 0,gL nL 1,gL nL 2,gG nL 0,cT gm d⟩) p;have Jq:=q 0 oh oi oj Jh  jy.1 λd u p=>IB (by exact⟨u,gL jy 0,gL jy 1,gG jy 0,gG jy 1,Nn,S,az,r⟩) p;have gk:=q 3 CW CY xU fy  iD.1 λd u p=>ahP (by exact⟨u,gL iD 0,gL iD 1,gL iD 2,gL iD 3,gL iD 4,gL iD 5,gL iD 6,gG iD 0,gG iD 1,gG iD 2,gG iD 3,gG iD 4,cT Jp d,cT hV d,cT UY d,cT Jq d,k⟩) p;have dV:=q 2 GL GN GO c2  ahR λd u p=>anh (by exact⟨u,yQ xV 0,b8 xV 0 rfl,qB xV 1,yQ xV 2,b8 xV 2 rfl,qC xV 3,Hx,cT BH d⟩) p;have UZ:=q 4 uC oX oY UK  gS.1 λd u p=>T8 (by exact⟨u,gL gS 0,gL gS 1,gL gS 2,gL gS 3,gL gS 4,gG gS 0,gG gS 1,gG gS 2,cT dV d,cT C5 d,z,az,n⟩) p;have Nr:=q 0 qg lF qh Nk  fF.1 λd u p=>ML (by exact⟨u,gL fF 0,gL fF 1,gL fF 2,gL fF 3,gL fF 4,gL fF 5,gL fF 6,gG fF 0,k,bU,C,t⟩) p;have cf:=q 1 GQ Bm wF c1  oZ.1 λd u p=>ank (by exact⟨u,gL oZ 0,gL oZ 1,gL oZ 2,gL oZ 3,gL oZ 4,gG oZ 0,gG oZ 1,gG oZ 2,cT X d,k,Hx⟩) p;have Zy:=q 43 qO qP qQ Zt  d7.1 λd u p=>YX (by exact⟨u,gL d7 0,gL d7 1,gL d7 2,gL d7 3,gL d7 4,gL d7 5,gL d7 6,gL d7 7,gL d7 8,gG d7 0,gG d7 1,gG d7 2,gG d7 3,cT cf d,cT QC d,cT WZ d,z,bU,t⟩) p;have Jr:=q 44 jZ i6 j3 Ji  cG.1 λd u p=>II (by exact⟨u,gL cG 0,gL cG 1,gL cG 2,gL cG 3,gL cG 4,gL cG 5,gG cG 0,gG cG 1,gG cG 2,gG cG 3,gG cG 4,cT Zy d,cT C5 d,BD,R,z,az,r,n⟩) p;have QF:=q 2 uF qi qj hI  mJ.1 λd u p=>ad2 (by exact⟨u,gL mJ 0,gL mJ 1,gL mJ 2,gG mJ 0,gG mJ 1,gG mJ 2,R,BD,cT BH d,az,bU,r,t,n⟩) p;have U0:=q 3 uG pA pB UL  iJ.1 λd u p=>Ud (by exact⟨u,gL iJ 0,gL iJ 1,gL iJ 2,gL iJ 3,gL iJ 4,gL iJ 5,gG iJ 0,cT QF d,az,uJ⟩) p;have U1:=q 0 uH pC pD UM  kK.1 λd u p=>Ug (by exact⟨u,gL kK 0,gL kK 1,gL kK 2,gL kK 3,gG kK 0,e6,az,r⟩) p;have gh:=q 45 xW xX sW fw  ad3 λd u p=>ahV (by exact⟨u,yQ eX 0,b8 eX 0 rfl,qB eX 1,qB eX 2,qB eX 3,qB eX 4,yQ eX 5,b8 eX 5 rfl,qB eX 6,qB eX 7,qB eX 8,qC eX 9,qC eX 10,qC eX 11,qC eX 12,qC eX 13,qC eX 14,qC eX 15,cT UZ d,cT Nr d,cT Jr d,cT U0 d,cT U1 d,cT Kq d,z,cT BF d,cT QF d,az,n⟩) p;have BI:=NL l.prog w mg base g 46 jQ ic jR Bw  cA.1 λd u p=>Bp (by exact⟨u,gL cA 0,gL cA 1,gL cA 2,gL cA 3,gL cA 4,gG cA 0,gG cA 1,gG cA 2,cT d4 d,cT gk d,cT gh d,az,aK,M,uR,D,F⟩) p;have wQ:=ab1 l.prog w mg base g 47 iE iG iH iF Ho  bW.1 λd u=>G3 (by exact⟨u,gL bW 0,gL bW 1,gL bW 2,gL bW 3,gL bW 4,gL bW 5,gL bW 6,gL bW 7,gG bW 0,gG bW 1,gG bW 2,gG bW 3,k,Np,cT DE d,o,⟨BI,d.mono Wp,aK⟩,az,aK,M,D,F⟩);have Js:fj l.prog w K mg base lR 49 rQ _ ["self","boxes","place","script"] (ph K g 4 i9 om j4 ja):=RL rT.1 fM.1 (λa j=>by
  obtain⟨p0,p1,p2,p3,p4⟩:=a;dsimp only [i9,ja]
  repeat (first|exact trivial|refine⟨rfl,?_⟩)) λgR A outer s H E b a d j=>by
  refine IL ?_ _ j;exact⟨⟨⟨fM.nd,rfl,.never⟩,d.units⟩,gL fM 0,gL fM 1,gL fM 2,gL fM 3,gL fM 4,gG fM 0,cT DE d,⟨wQ,d.mono Wp,aK⟩,az,aK,M,qv,D,F,nO⟩
 have Hy:fj l.prog w K mg base lR 51 wK _ ["self","chart"] (va K g "NestRun" 2 sX sY sZ):=KY lN.1 eB.1 λgR A outer s H E b a y d j=>by
  refine G6 ?_ a y j;exact⟨⟨⟨eB.nd,rfl,.never⟩,d.units⟩,gL eB 0,gL eB 1,gL eB 2,gG eB 0,gG eB 1,gG eB 2,cT gr d,cT hY d,⟨⟨_,_,_,⟨Hq,Hr,Hs,rT.kp⟩,Js,ht,Jm⟩,d.mono Wp⟩,aK,uR⟩
 have Jt:=ab1 l.prog w mg base g 48 j5 oq j7 j6 Jj  gI.1 λd u=>IV (by exact⟨u,gL gI 0,gL gI 1,gL gI 2,gL gI 3,gL gI 4,gG gI 0,k,⟨wQ,d.mono Wp,aK⟩,az,aK,M,D,F,qv⟩);have Hz:=NL l.prog w mg base g 0 mK mL mO Ht  jb.1 λd u p=>G8 (by exact⟨u,gL jb 0,gL jb 1,gL jb 2,gG jb 0,k,aK,qv,nO⟩) p;have DY:=NL l.prog w mg base g 0 lJ lK lM DW  mP.1 λd u p=>DR (by exact⟨u,gL mP 0,gG mP 0,k,aK,M⟩) p;have ae:fj l.prog w K mg base lR 53 _ _ ["script"] (N7 K g 1 xY xZ x6):=D5 V.1 gi.1 λgR A outer s H E b a d j=>by
  refine arD ?_ j;exact⟨⟨⟨gi.nd,rfl,.never⟩,d.units⟩,gL gi 0,gL gi 1,gL gi 2,gL gi 3,gL gi 4,gL gi 5,gL gi 6,gL gi 7,gL gi 8,gL gi 9,gL gi 10,gL gi 11,gL gi 12,gG gi 0,gG gi 1,gG gi 2,gG gi 3,gG gi 4,gG gi 5,gG gi 6,gG gi 7,gG gi 8,cT UU d,cT e4 d,cT Y d,⟨⟨_,_,_,⟨UE,lN.a,lN.i,UG⟩,Hy,Zw,Hv⟩,d.mono Wp⟩,cT gx d,cT gw d,z,cT h3 d,cT gv d,⟨Jt,d.mono Wp,aK⟩,⟨Hz,d.mono Wp,aK⟩,⟨DY,d.mono Wp,aK⟩,az,n,r⟩
 exact ae.imp (agl Qa0 Qa0 ab)
def walk{l:PySem.W.OpenLaw}{q:Qat}{loose:At}{v:Bi->Heap->Prop}{e:Qju}{d:DefRec}{K:Params->Frag}{T0:BN}(j:l.most=some 63)(b:QjI)
  (o:∀(w:World) (h:Heap),e w h->(K w.params).In h) (r:∀(w:World) (h:Heap),e w h->∀P∈T0,h.get? P=some (tabObj #[]))
  (F:∀(w:World) (mg:Bi) (g:Addr) (h:Heap),(K w.params).In h->h.Ns mainGlobals mg->mg d.name=some (.ref g) →
   ∃(fd:QaG) (ts:Cs),(∀p∈ts,p.1∈T0/\ts.lookup p.1=some p.2/\(K w.params).lookup p.1=none/\∃c,CodeHd h c p.1)/\(∀(s:Qb) (u:Value),BindsTo s fd ⟨[u],[]⟩ [("script",u)])/\∀base:Heap,(K w.params).In base->base.Ns mainGlobals mg->Fb mg base->fj l.prog w Qf2 mg base lR 53 g fd ["script"] (spT Qf2 ts 1 xY xZ x6)) :
  PySem.W.WalkO q loose v e l.row.toRowW d [] QiF:=
 aby (n:=63) (k:=53) (x:="script") (sp:=λw ts=>spT Qf2 ts 1 xY xZ x6) j Wp b ⟨rfl,Wp,Wp⟩ o r F (λ_ _ _ a ns m t i=>agm rfl m rfl t i)
end Law
end
namespace PySem.W.Fast
def tw10026291134977014082:=0
def tw10090755227217729393:=0
def tw10093631803432446716:=0
def tw10104639291826480813:=0
def tw10294074870875383853:=0
def tw1031491175738377280:=0
def tw10403133344916425334:=0
def tw10505304439549338255:=0
def tw10633676113510461216:=0
def tw10694120034990800069:=0
def tw10706026813201920112:=0
def tw10867395063363194236:=0
def tw10891893135553876995:=0
def tw10906556393285018507:=0
def tw10946908327960012928:=0
def tw11075788090688352868:=0
def tw11167602435280822684:=0
def tw11188482648991831040:=0
def tw11212355247997822921:=0
def tw11433389131514805533:=0
def tw11518867381037286338:=0
def tw11600005324960914002:=0
def tw11640724083953295473:=0
def tw11789578090774304566:=0
def tw11811577321723442738:=0
def tw11812482184334555516:=0
def tw11899414245252131807:=0
def tw11948927185084680995:=0
def tw12332416631127854170:=0
def tw12345753556117880653:=0
def tw12352165334051282790:=0
def tw12366315464431087397:=0
def tw1241684448609003765:=0
def tw12446271680996764987:=0
def tw12554185599954484311:=0
def tw12644734794660978672:=0
def tw12671674795880978427:=0
def tw12694417136750864409:=0
def tw12931247425285570025:=0
def tw1293991169650588419:=0
def tw12948177250353922596:=0
def tw1299026372233642607:=0
def tw13034923236491566567:=0
def tw13056148112734959687:=0
def tw13065360103556455789:=0
def tw1308742493988762460:=0
def tw13108092481161603731:=0
def tw13131965267040460539:=0
def tw13154360501317700835:=0
def tw13165507851636112405:=0
def tw13175871667414191535:=0
def tw13201730297257737723:=0
def tw13477935561851316572:=0
def tw13515035480482926043:=0
def tw13551281640327750662:=0
def tw13794397351908881974:=0
def tw13805823656576637321:=0
def tw13809136823434014620:=0
def tw13884348310961641843:=0
def tw13938173482138732460:=0
def tw13938703707724963025:=0
def tw13969681203998103456:=0
def tw1397455810097088151:=0
def tw1408497884418348969:=0
def tw14108899088661180123:=0
def tw14259919909003595558:=0
def tw1427702491670510842:=0
def tw14334912047907156156:=0
def tw14360909640827456904:=0
def tw14399680015057943258:=0
def tw14453791405032044732:=0
def tw14637551462969041215:=0
def tw14691756540997552047:=0
def tw14806172860467536836:=0
def tw14955179913775060888:=0
def tw15075717576027782414:=0
def tw15134092993351270109:=0
def tw15173127127320257768:=0
def tw15178001927456449771:=0
def tw15237323136875884103:=0
def tw15246130092182100838:=0
def tw15390657770405821121:=0
def tw1546040236803102617:=0
def tw15481040085921501882:=0
def tw15560811522226991352:=0
def tw15636670228652253683:=0
def tw15757410778492254700:=0
def tw15758323536791206605:=0
def tw15804381600081010454:=0
def tw15822178445589448676:=0
def tw15867656792299192609:=0
def tw15954350462870838092:=0
def tw15956766541364102559:=0
def tw1607872865024903562:=0
def tw16143181458526960731:=0
def tw16177312530235798457:=0
def tw16231479072658202280:=0
def tw16244312679982812007:=0
def tw16460834607446058487:=0
def tw16481004152264911060:=0
def tw16579252902486420091:=0
def tw16582423558478667750:=0
def tw16611977965388713852:=0
def tw16633598795239165815:=0
def tw16672034857520210680:=0
def tw16744971648151371987:=0
def tw16746292671151399743:=0
def tw16784654361161105192:=0
def tw16803638731990537463:=0
def tw16931876884771123638:=0
def tw17107847062814945564:=0
def tw17175409467667796872:=0
def tw17178997966433895761:=0
def tw17276507220398433195:=0
def tw17304736222420975618:=0
def tw17359680870175826930:=0
def tw17400659631773204373:=0
def tw17408132438724621400:=0
def tw17446878055704270257:=0
def tw17471834466690116224:=0
def tw1751234967205638534:=0
def tw17556561665982153288:=0
def tw17561721643115409433:=0
def tw17638848722683145563:=0
def tw17688200791941793273:=0
def tw17712740084337380001:=0
def tw17717739498754093672:=0
def tw17754664052630399648:=0
def tw17813398707188104974:=0
def tw18049411918144613626:=0
def tw18133509442791832886:=0
def tw18164767108853204368:=0
def tw18300992031179894077:=0
def tw1880095252736632910:=0
def tw1888570284112240198:=0
def tw1953850798164245411:=0
def tw1987127206332160059:=0
def tw2060146170652532695:=0
def tw2083763719113546134:=0
def tw2111267888774438405:=0
def tw2300872494696201371:=0
def tw2306728793260629705:=0
def tw2432286224184921845:=0
def tw2471658880392633571:=0
def tw2489789518291809504:=0
def tw2714061654391855921:=0
def tw2749850763097431206:=0
def tw2767875963839126941:=0
def tw2774745429532386285:=0
def tw2776608772474755259:=0
def tw2798325648905781553:=0
def tw2855458566770054214:=0
def tw2889853290907614450:=0
def tw2908482135761969398:=0
def tw296397841178243326:=0
def tw3063684691085062367:=0
def tw320650430886714621:=0
def tw3248488709898623613:=0
def tw32953058683765573:=0
def tw3357275032993551587:=0
def tw3658865430821179513:=0
def tw3725296856223984579:=0
def tw3748896126745494982:=0
def tw3759403962269984119:=0
def tw3851732401045078224:=0
def tw3893596950760148102:=0
def tw407616984318713974:=0
def tw4160863713766331617:=0
def tw4512905921446639215:=0
def tw4649395235149307634:=0
def tw4681972463454922586:=0
def tw4707546307717097035:=0
def tw4823929994503342138:=0
def tw4824049757568945637:=0
def tw4860302171281740289:=0
def tw4916863124320751704:=0
def tw4934058039140453193:=0
def tw501024249178342293:=0
def tw5173694982396297928:=0
def tw5492148835217951030:=0
def tw5527146921706985317:=0
def tw5554045819242010515:=0
def tw5568780457567852624:=0
def tw5597043353981272669:=0
def tw5614724189804934858:=0
def tw5730070542359706345:=0
def tw5738117878474032382:=0
def tw5767817369707320014:=0
def tw5808363251345645935:=0
def tw5845160197913222467:=0
def tw5900191535188694982:=0
def tw5954319556194092478:=0
def tw6043188483758446774:=0
def tw6064257634282291086:=0
def tw6140446707466794382:=0
def tw6145979864282133167:=0
def tw6186876970582532217:=0
def tw6203942630887424865:=0
def tw6306663879023189750:=0
def tw6459188672477266394:=0
def tw6478243217075051922:=0
def tw6507478398174860466:=0
def tw6634884455148025634:=0
def tw6644867402641046774:=0
def tw6748643848664172763:=0
def tw680211608801159933:=0
def tw6880467724276715930:=0
def tw6981439328603050173:=0
def tw7084854826258352926:=0
def tw7087925435240554730:=0
def tw7132290948628545134:=0
def tw7191066827171939067:=0
def tw7249165330903565690:=0
def tw7369486229100487279:=0
def tw7547923819660922777:=0
def tw755605598796982683:=0
def tw7607379992448286580:=0
def tw7642759296777472855:=0
def tw7682327866816775261:=0
def tw768367140100257745:=0
def tw7761885635584087701:=0
def tw7773670195657209424:=0
def tw7807865333358869757:=0
def tw7905907964497909096:=0
def tw8052399364738288978:=0
def tw8056194306965419488:=0
def tw8106287215828730200:=0
def tw8121041251016050466:=0
def tw8125552903157457215:=0
def tw8133356322132316789:=0
def tw8133377349005737626:=0
def tw8210436795906937512:=0
def tw8248792595557295994:=0
def tw829725184857839909:=0
def tw8310036260698147891:=0
def tw8439686399719941275:=0
def tw8656193412711486685:=0
def tw8687578869100148270:=0
def tw8709728462477526732:=0
def tw8808815338369283397:=0
def tw8839522273686500703:=0
def tw8878307690462363945:=0
def tw8926149789656663653:=0
def tw895679406809153920:=0
def tw9053350946684673536:=0
def tw9166201690673436423:=0
def tw9225177144859078521:=0
def tw9240535970243715972:=0
def tw9300605792286145534:=0
def tw9367272575121745036:=0
def tw9591020895214764412:=0
def tw9604880888253466344:=0
def tw9644426665129619690:=0
def tw9697181325619439860:=0
def tw9798177814757975955:=0
def tw9806174663387437406:=0
def tw9940329603159210698:=0
def tw9961838009080529430:=0
def tw9962920144545324380:=0
end PySem.W.Fast
open PySem PySem.W PyProof.Rows
set_option maxRecDepth 100000 in
set_option maxHeartbeats 0 in
theorem PySem.Challenge.cw_moodtree_k71_whole_far_leads_back_holds : PySem.Challenge.rw_moodtree_k71_whole_far_leads_back.Holds := by
 w_on; o_law; k_head; (case hw => w_witness2)
 k_fill
 refine Law.walk (l := PySem.Challenge.rw_moodtree_k71_whole_far_leads_back) rfl rfl (λw h Y => PySem.W.km_in_of Y) (λw h Y => PySem.W.km_tabs_of Y) ?F
 case F =>
   intro w mg fa h KX G hmg
   apply Law.all_mk KX G hmg
   all_goals first | exact L3.Wq.mk (n := 1) rfl | (refine L3.Wq.mk (n := 2) ?_; kernel_rfl) | (refine L3.Wq.mk (n := 3) ?_; decide) | (apply L3.fn1 <;> k_is) | (apply L3.fn2 <;> k_is) | ((try delta L3.InG); k_is)
