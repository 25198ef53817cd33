import PyProof.Rows.All
import Wide.All
import OpenK.AllK
import Wide.FinOn
import Lean
import PyProof.EqAt
import PyProof.EqKinds
import PyProof.TupleCall
import PySem.Challenge.RW_moodtree_k46_states_by_the_rows
set_option Elab.async false
set_option linter.all false
set_option maxRecDepth 100000
set_option maxHeartbeats 4000000
open PySem.W (instObj Frag lookIn plainGet hasDictIn findIn handedIn plainGet_of isFn plainOver takerIn any_some makesIn emptyDict keepIn callWith_K0 cellsFrom_some fnOf codeIn kla_obj CodeHd envX kla_fn codeHdIn tabObj specialIn mroIn readsIn findCls nsIn)
theorem We{p:Prop}(h:p:=by lia):p:=h
def Wg{p:Prop}(h:p:=by decide +kernel):p:=h
def Wl{p:Prop}(h:p:=by decide):p:=h
def Wp{p:Prop}(h:p:=by simp):p:=h
theorem W7{p:Prop}(h:p:=by simp_all):p:=h
theorem W8{p:Prop}(h:p:=by grind):p:=h
theorem W9{p:Prop}(h:p:=by simp;lia):p:=h
open Lean in
def qqM (k:Name) (x:List Syntax):Syntax:=.node .none k x.toArray
open Lean in
def qqL (x:String):Syntax:=.atom .none x
open Lean in
def qqN (x:String):Syntax:=mkIdent x.toName
open Lean in
def qqC (x:List Syntax):Syntax:=qqM nullKind (x.intersperse (qqL ","))
open Lean in
def qqS (q:List Syntax) (t:String):List Syntax:=
 let r:=(t.drop 1).toString;let n:=r.toNat?.getD 1;let s:=q.drop n;let a:=(q.take n).reverse;let y:=q.headD .missing;let o:=q.tail;let x:=o.headD .missing;let w:=o.tail;let p:=qqM ``Parser.Term.hygienicLParen [qqL "(",qqM hygieneInfoKind [mkIdent .anonymous]]
 match t.front with
 | '@'=>qqM ``Parser.Term.app [s.headD .missing,qqM nullKind a]::s.tail
 | '['=>qqM `«term[_]» [qqL "[",qqC a,qqL "]"]::s
 | '<'=>qqM ``Parser.Term.anonymousCtor [qqL "⟨",qqC a,qqL "⟩"]::s
 | ','=>qqM ``Parser.Term.tuple [p,qqM nullKind [a.headD .missing,qqL ",",qqC a.tail],qqL ")"]::s
 | '.'=>qqM ``Parser.Term.dotIdent [qqL ".",qqN r]::q
 | '!'=>qqM ``Parser.Term.explicit [qqL "@",qqN r]::q
 | '\''=>Syntax.mkStrLit r::q
 | '_'=>(if r.isEmpty then qqM ``Parser.Term.hole [qqL t] else qqN t)::q
 | '='=>qqM ``Parser.Term.namedArgument [qqL "(",qqN r,qqL ":=",y,qqL ")"]::o
 | '>'=>qqM ``Parser.Term.proj [y,qqL ".",if r.isNat then Syntax.mkLit fieldIdxKind r else qqN r]::o
 | '~'=>qqM (.mkSimple s!"term{r}_") [qqL r,y]::o
 | '^'=>qqM ``Parser.Term.arrow [x,qqL "→",y]::w
 | '`'=>qqM (.mkSimple s!"term_{r}_") [x,qqL r,y]::w
 | ':'=>qqM ``Parser.Term.typeAscription [p,x,qqL ":",qqM nullKind [y],qqL ")"]::w
 | '?'=>qqM `termIfThenElse [qqL "if",w.headD .missing,qqL "then",x,qqL "else",y]::w.tail
 | '\\'=>qqM ``Parser.Term.fun [qqL "fun",qqM ``Parser.Term.basicFun [qqM nullKind [if r=="_" then qqM ``Parser.Term.hole [qqL r] else qqN r],qqM nullKind [],qqL "=>",y]]::o
 | _=>(if t.isNat then Syntax.mkNumLit t else if t=="Prop" then qqM ``Parser.Term.prop [qqL t] else qqN t)::q
def qqT:Array String:=("
.refl _ @















Shared








model X.prog X.w @2



Inv X pins σ H s @5










j 1 `+

CL 'Chart @


ao ks @






List α @
es.length 1 `-
List bT @
.inl rfl @





AC X e [0 @3
A Prop ^
CL 'NestRun @
.ref f @
e es `::
trivial \\_ \\_ \\_
CL 'Tree @
AC X e es @3
arrOf z @
QoH
model prog w @2
.Name x pos @2
QoI
bC K CL b H Z δ σ ts vs @9
.ref a @
.sh .int st @ @
k1.trans k2 @
.inr rfl @
some t @
trivial \\_ \\_ \\_ \\_
bE dD cV hs @3
aC E.bJ @
AL X pos es @3
some v @
dO I q Wp @3
lB ws a @2
QoJ
fP ao ks @ es ch Q2 @4
X.calm true `=
aY ks @
QoK
QoL
QoM
cL X CL b e δ t δ1 @7
aC E.aH @
0 i Int : `+
QoN
.Name x pp @2
dR az isAll es ss mem @5
cg ks @
v vs `::
.nil \\_
.int i @
aC E.bw @
decide x m `= @ ~! \\x
jd ks es w @3
lB ws some @2
ws.map iu @
arrOf st @
qk Wl Wl @2
.lst xs @
k 1 `+
QoO
gu E.dw >1 rfl e7 bB dm @2 @3
.cons h r @2 \\r \\h \\_ \\_
.int m @
trivial \\_
EP X pins σ Q @4
aC E.bA @
ds.map T.sh @
.sh .int n @ @
dQ bD i8 _ @ @2
cW ks es ss @3
.ref C @
.int _ @
h7 rfl @
dI X CL b e1 δ .int i @ δ1 @7
.sh .lst s.map .int @ @ @
c7 X scope Nc C s H fp @7
s.heap.objs.size 1 `+
L2.Inv X pins σ H s @5
.bl true @
.tup xs @
.ref av @
.str x @
QoP
QoQ
dI X CL b e2 δ1 .int j @ δ2 @7
.sh .lst es.map .int @ @ @
.sh Qa3 @
QoR
QoS
.cons h k a ik _ b @2 @2 \\b \\a @ r k a h5 _ b @2 @2 \\b \\a @ @2 \\k \\r \\h \\_ \\_
hV.mp b @ >elim h a @ r a @ @2 \\b \\a \\r \\h \\_ \\_
backToKw pos keywordEach [0 X.env @2 @2
absurd b ke @2 \\b \\a
.Call QaL Qae [0 pos @4
ns.map V.int @
ay gV ak @ @
.ref it @
some t0 @
aC E.fH @
ig ws @
QoT
QoU
fq X.env scope.names [0 @3
he pins s σ H _ I h @7
ng X CL b e δ t δ1 @7
ds.length sizeLine `≤
False \\_ \\_
jE _ rfl <2 @
aC E.gQ @
upd H a o @3
aC E.jJ @
ig ws i @2
.lst us @
aC E.cO @
aC E.ja @
.ref x @
Lv eo @
k 1 `+ j `+
QoV
QoW
QoX
QoY
QoZ
Qo0
bC K CL b H Z δ σ t ts `:: v vs `:: @9
c.es.length 1 `-
dI X CL b e δ .lst ds @ δ1 @7
cy E.bO E.aZ aC E.bA @ fz @4
bs.map .int @
.sh .lst hs.map .str @ @ @
.Name x pos' @2
yW X CL b e δ p δ1 @7
some .sh d @ @
.sh .int c @ @
.sh .int a @ @
Jc es ws @2
jY ks es ws @3
c.trans a @
f.trans c @
.ins c fs @2
aj st @
.dK kvs @
aC E.cY @
PE X a ta @3
AN X iter @2
.cod q @
d9 st @
res a @
kG aY ks @ ao ks @ es ss mem false es.length false p @9 \\p
decide p cX es u tg @3 `∈ @ ~! \\p
es.map .int @
jB n.hi n.hv n.hd n.k9 @4
aV aC E.p9 @ ak rfl @3
ah aC E.ck @ aE @2
ao ks s @2 \\s
some .lst tl @ @
.lst tl @
.sh .int wn @ @
rfl \\_ \\_
k1.trans c @
.tabs p >2 @
k es.length `<
m es.length `<
aC E.Wm @
aC E.i6 @
n 1 `-
.tup ds @
.lst ds @
qj ws @
aC E.rq @
.ref aM @
.ref aG @
Option T @
.inl z @
Sem Bool @
RelV y u @2
Ln X i x @3
List Il @
d7 X.prog X.w X.K X.mg X.base CX k f fd ps sp @11
decide x u `≠ @ \\x
cy E.aA E.bf QaI fX @4
starEach Qae X.env @2
absurd q ke @2 \\q
ns.getD i 0 @2 \\i
.sh .int j @ @
trivial \\_ \\_
jq K x qual st f fd @6
l.map .int @
Binds X.K fd ps ds @4
Binds X.K fd ps [0 @4
mem.map .int @
Tj ks es ss mem @4
ao c.ks @
Loc X.env.scope x @2
n3 c p >1 bs sg @4
a sysModules `==
.ins C dx fs @3
rfl \\_
q \\q \\_
Passes CX X E @3
cB K CL Z d v @5
jP X.K CL c @ @2
SBase a₀ st @2
.sh Qew @
.ref D @ vs `::
aC E.cj @
model P w @2
x es.length `<
.int n @
a.take j @
Vals xs us @2
Vals GA ds @2
iy P w @2
l.map f @
hX _ hz @2
KV kvs vs @2
.ref p @
.int x @
.lst _ @
RelV v u @2
.ListComp elt tg iter ifs 0 <4 [1 scope pos @4
envOfC qual aj st @ s.heap.objs.size f iR @5
aV aC E.jo @ ak rfl @3
i pins s σ H _ I h @7
e _ _ h @3
bs.length c.bs.length `=
dI X CL b e δ d δ1 @7
lK ks es ss is os ws @6
u 1 ~- `= u bN es t @2 `∈ `∨
vn X scope xs Nc ix @5
us.reverse vs `++
List κ Value `× @
getMethod I m pl @3
res a @ >clean true `=
X.mg 'range @ none `=
.sh .str sg @ @
dz N ps aj st @ @3
ops.map .int @
ks.map .str @
ss.map .int @
Option V @
vM E.bX >1 @
.ref D' @
ig ws k @2
Gl X 'range @2
IntKeys a₀ @
PA X Qae t @3
bu .nil Wg @2
xs.take j @
vL E.tu >1 @
Option Expr @
cst SL s @2
Do α `×
.tup us @
Nat Int ^
some v0 @
List Bool @
qk We We @2
.own x @
.ref l @
.dT gs @
.ref D @
.ref y @
.int 0 @
.ListComp elt .Name x px @2 .Call .Name 'range pr @2 e [1 [0 pc @4 [0 0 <4 [1 scope pos @4
c7 X scope Nc s3.heap.objs.size s3 upd H s.heap.objs.size .lst [0 @ @3 fp @7
r k a hX _ b @2 @2 \\b \\a @
.sh cW BO s st es es.length @4 es Fz s st es es.length @4 @3 @
some .builtin 'object.__setattr__ @ @
.Call .Attribute QaL m apos @3 Qae [0 pos @4
List.replicate es.length 1 ~- @2
.Compare e1 .NotEq [1 e2 [1 pos @4
kZ cd pl pt bs et @5
.Compare e1 .Eq [1 e2 [1 pos @4
.Call Qko Qae [0 pos @4
pa.endLine pb.line `== true `=
.sh .lst n.map .str @ @ @
.lst Qb7 @
.ref s.heap.objs.size @
.Call Qko [0 [0 pos @4
.BinOp e1 .Add e2 pos @4
c a b i @3 \\i \\_ \\b \\a
.sh .int es.length @ @
keys.zip us.toArray @
0 i `≤ i ws.length `< `∧
vE E.FJ >1 rfl uU @3
gF X scope x Nc ix @5
gF X scope y Nc ix @5
TP X pins σ Q @4
X.mg 'list @ none `=
fs.lookup m @ none `=
au K CL Z ds vs @5
au K CL Z ds us @5
.type 'list @
.sh .int k @ @
eval e X.env @2
aC E.cI @
A.handled none `=
Str Addr `×
.builtin id @
Wi some r @ @
xs.map It.d @
es.length 1 `+
es.getD k 0 @2
es.getD x 0 @2
uW ds k @2 some d @ `=
lB c.ws b @2
some Qad @
a.map .int @
xq SL mm s @3
f1 g l `++ `++
xp ps @ δc `++
kv cA W9 @ @
ps.zip us @
e.trans c @
some 1 ~- @
.int k t2 @2
Gl X 'list @2
Aa kz xs @2
x l `∈
Int Int ^
.lst [0 @
aC E.jx @
.ref bq @
swapsWith e some .Name x pos' @2 @ pos.line X.env @4 pure false @ `=
.lst List.range a @ >map qi Wk s k @2 @ \\k @ >map T.sh @ @
gu E.dw >1 rfl e7 v_ E.cY >1 @ dm @2 @3
aJ bB aJ bB aJ bB aJ bB gi @2 @2 @2 @2
kvs.any decide a >1 k `= @ \\a @
ay vh E.CB aC E.Jt @ E.Cz @3 @
jH E.aA E.bR v_ E.aH >1 @ iY @4
dI X CL b e2 δ1 .int k @ δ2 @7
seqObj 'list us.toArray 0 @3
.ins CL c @ dx su f v gs @3 @3
Fj X A q scope Nc f c s H @9
bh.getD m.toNat 0 @2
ub X CL b tg iter δ ds δ1 @8
Fc X CL x k n arg Pre res @8
dI X CL b e2 δ1 d2 δ2 @7
h H Z σ ts vs _ S k @8
.Subscript e1 e2 pos @3
dI X CL b e1 δ d1 δ1 @7
Do Addr Value `× `×
.Attribute e f pos @3
keepIn X.K Qad @2 true `=
I.gD.fresh hW _ @ @
starEach [0 X.env @2
.lst tl.set j t @2 @
es.getD m.toNat 0 @2
Tj ks es ss mem w @5
some .sh d @ @ δc `::
cR s 1 k Int : `+ @2
b9 K CL H Z t v fp @7
some .pin y t @2 @
.bool true @
X.A.units 64 `+ cLine `<
.Name y py @2
Int Int Bool ^ ^
jB hi hv hd k9 @4
.lst tl t [1 `++ @
X.mg x @ some Qad @ `=
rfl \\_ \\z
Nat BB Prop ^ ^
.sh .int tg @ @
e9 Qce row @2
ah ay oq @ aE @2
aF X.K CL c @ f @3
It Hp Prop ^ ^
s.trans c.zh @
jX false @
.int i t @2
l.map V.str @
vM E.bK >1 @
fO QaZ X.A @2
qf X pins H a @4
some Qao @
newList [0 @
K w.params @
kr ij e @ @
1 j Int : `+
L7 s n st @3
0 k Int : `+
v_ E.aH >1 @
List QdV @
keywordEach [0 X.env @2
d7 X.prog X.w X.K X.mg X.base mX k f fd ps Ny X.K CL n arg Pre res @6 @11
.E8 k _ hU @2 >trans h @ au.mono e f @2 au.mono e g @2 @3 \\k \\g \\f \\h
DJ X CL scope Nc xs.length tg parts ifs elt δc ds p g @13
jd ks es ig ws k @2 @3 \\k
kG aY ks @ QU es ss mem fC mode @ es.length false @8
decide x fP ao c.ks @ c.es ch Qb4 @4 `∈ @ \\x
.um k _ hU @2 >trans h @ cT.mono e f @2 @2 \\k \\f \\h
.builtin 'type.__call__ .ref C @ us `:: kw <2 @2
PySem.revObj l its.toArray.size Int : 1 `- @2
.lst k _ hU @2 >trans h @ Qel @2 \\k \\r \\_ \\h
.ins k _ hU @2 >trans h @ Qel @2 \\k \\r \\_ \\h
.dct k _ hU @2 >trans h @ Qel @2 \\k \\r \\_ \\h
fC mode @ true `= 'far 'new ?
aV aC E.gQ @ ay eZ E.oN E.oM @2 @ d8 rfl @ @3
0 ig ws i @2 >src `≤ ig ws i @2 >src es.length `< `∧
gs.any L0 es QaT x @3 \\w @ ~! \\x
mE cR s 13 k Int : `+ @2 es.length a n st @5
Nv X CL b Qae δ arg a @ >map T.sh @ δ1 @7
cR s 13 k Int : `+ @2
[0 EU : >isEmpty 0 1 ?
mI X.K CL n arg Pre res out @7
bu .cons E.aH >1 .inl E.lY @ .nil @3 Wg @2
fP ao c.ks @ c.es ch Qb4 @4
a f2 `∈ H a @ Z a @ ?
.dct Rd.mono e h @2 r @2 \\r \\_ \\h
cL X CL b e δ .sh .lst ds @ @ δ1 @7
.tup QdF r k @ @2 \\k \\r \\_ \\h
.pin y .ins 'NestRun Qer @2 @2
.Call .Name x p @2 Qae [0 pos @4
.tup aB.pw e h @2 r @2 \\r \\_ \\h
.E8 QdF r q @3 \\q \\r \\_ \\_ \\h
.Compare e1 .NotIn [1 e2 [1 pos @4
scope.names.lookup x @ some .local @ `=
.lst e.seq h @ r @2 \\r \\_ \\h
nZ X CL b Qae δ arg a @ δ1 @7
dI X CL b o δ .ins c fs @2 δ1 @7
.pin y .lst .sh .int s @ @ [1 @ @2
xB b fx r fs w W7 @6 \\hw \\w
PassesOwn QA X.A X.env X.xe @4
bubble arrOf y @ k k l `- @3
ah QaI ah aC E.cI @ aE @2 @2
.Compare e1 .In [1 e2 [1 pos @4
.ins QdF r @2 \\r \\_ \\h
ah ay vd ak ju 0 @ @2 @ aE @2
.Compare e1 op [1 e2 [1 pos @4
c7 X scope Nc C s0 H0 f0 @7
nq qj ws @ Qgj Oc es @ @3
.um QdF r @2 \\r \\_ \\h
congrArg _ i @2 \\i \\_ \\_
cL X CL b e δ .sh d @ δ1 @7
trivial \\_ \\_ \\_ \\_ \\_
.pin y t j @ @2
b 1 0 ?
fP QU es ch n 1 `- @4
dR QaD QU es ss mem @5
.pin r k @ @ \\k \\r \\_
some T.sh d @ @ \\d
ah Qa6 ah Qav aE @2 @2
V BY Hp VK Prop ^ ^ ^ ^
.lst tl ds.map T.sh @ `++ @
.Call Qin e [1 [0 pc @4
t 'bool `== n 'int `== `&&
l6 ij e @ I.ok.above @2
dI X CL b e2 δ1 d δ2 @7
g pins s σ H _ I h @7
mirror_perm _ _ _ _ @4
some .pin y t n @ @2 @
cu dN nS rfl @ aQ @2 @
x >1 >isSome \\x
Str Option NameKind @ ^
.int v n Int : `% @
jS 0 E.eV >1 rfl rfl @4
.Name 'reversed q @2
.done .ret .none @ @
.lst .sh .int p @ @ [1 @
mem.getD m.toNat 0 @2
pE ws ops vs sg es @5
.builtin 'sorted @
c.gD.fresh hW _ @ @
p3 m hs o 3 `/ j @4
.ins CL c @ dx gs @3
X.mg 'reversed @ none `=
.Tuple elts kk pt @3
0 x `≤ x es.length `< `∧
vK cd pl pa bs ex @5
cW c.ks c.es c.ss @3
uo.trans yZ Wl g @2 @
aJ v_ E.bJ >1 @ gi @2
ch.length es.length `=
getMethod U m pl @3
upd H p .dK [0 @ @3
cR s 2 k Int : `+ @2
Nat Heap Prop ^ ^
some .sh t.gW @ @
some .lst tl0 @ @
p 5 `/ m Int : `/
.Tuple es j pos @3
entry N arg a @ @2
X.mg 'sorted @ none `=
gs.Pairwise Qim @
T.sh d @ \\d
x '__name__ `≠
Int Int Prop ^ ^
d.mem_iff.mp c @
f1 a g `:: l `++ `++
j.push .bl _ @ @
jd ks es QdY @3
arg a @ >length 1 `+ n `=
aV QbP ak a @3
r \\r \\_ \\_
call Qad u [1 @2
Tag a₀ xs ι n @4
q >2 >1 >map .int @
eval e0 X.env @2
Gl X 'reversed @2
.type 'type @
x >1 ~! \\x
compareOp op @
F8 QaN es ch @3
pv m p 6 `/ @2
r \\r \\_
X.mg 'len @ none `=
jX false s r @3
cS QdD rfl @2
g1 g2 g3 `++ `++
some QdX @
.lst Qc4 @
k2.trans a2 @
hs.map .str @
upd H s.heap.objs.size .lst [0 @ @3
Ap es jd ks es a @3 jd ks es c @3 @3 \\c \\a
.Name 'range pr @2
newFunctionEnv scope X.env.globals QbH [0 X.env.qual none .none some X.env @ @8
.Call .Attribute QaL 'append pa @3 e [1 [0 pb @4
.Call .Attribute QaL 'extend pa @3 e [1 [0 pb @4
fnOf x qual B3 st @ d9 st @ aj st @ .none kV doc pm an iR ct @12
starEach e1 e2 [2 X.env @2 false eval e1 X.env @2 ,2 starEach e2 [1 X.env @2 `:: `=
.ListComp elt .Name y px @2 iter ifs 0 <4 [1 scope pc @4
.ListComp elt tg iter ifs 0 <4 [1 scope pc @4
a f2 `∈ H a @ Z a @ ? \\a
decide x kY ks es ops Qaz @4 `∈ @ ~! \\x
s.heap.IsRevIter it l items.size Int : 1 `- @3
some Qc1 @ Cd δ1 ix i .pin y t QP @ @2 @4 `::
jH E.aD E.b8 v_ E.bW >1 @ uB @4
envOfC qual scope s.heap.objs.size f cd @5
.ext Fs f q params body scope QbH c @7 @
aV QbN ay eZ E.Ro E.Rn @2 @ d8 rfl @ @3
swapsWith e none pos.line X.env @4 pure false @ `=
scope.names.lookup x @ some .globalImplicit @ `=
some Qc1 @ Cd δ1 ix i .pin y t j @ @2 @4 `::
Value Addr Result Shared Prop ^ ^ ^ ^
.lst gX es j @2 >map .int @ >map T.sh @ @
b X.ex `∈ X.h9.heap.objs.size b `≤ `∨
i j rfl rfl q <5 \\q \\_ \\_
.Call .Name 'list pp @2 e [1 [0 pos @4
starEach e [1 X.env @2 false eval e X.env @2 ,2 [1 `=
kZ cd pl pt T.tup a b t [3 @ [1 `++ bs et @5
.Call .Name 'len pp @2 e [1 [0 pos @4
decide p cX es u t @3 `∈ @ ~! \\p
kr l6 ij e @ I.ok.A1 x c C f @4 @2 @
eval QaL X.env @2
sF hs.i i hi @2 >1 >1 hs.i i hi @2 >1 >2 @2
aq keep a ik _ c @2 @2 @ \\c \\a
ng X CL b e δ .sh .int n @ @ δ1 @7
cL X CL b e δ .sh .bl p @ @ δ1 @7
Ny K CL ps.length arg Pre res @6
dI X CL b e δ .lst Qc4 @ δ1 @7
ng X CL b e1 δ .sh QaQ @ δ1 @7
cL X CL b e δ .lst Qa7 @ δ1 @7
.builtin 'object.__class__ @
back p q ?
V CU CU Hp VK Prop ^ ^ ^ ^ ^
PySem.call f vs @2 \\vs \\f
upd H a .lst us.set j v @2 @ @3
.pin y .lst .sh .int r @ @ [1 @ @2
.pin y .lst .sh .int K @ @ [1 @ @2
.Assign .Name x pos' @2 [1 e pos @3
.BoolOp .And e e2 es `:: `:: pos @3
dI X CL b e1 δ .lst ds @ δ1 @7
scope.names.lookup x @ some .free @ `=
jB nm.hi nm.hv nm.hd nm.k9 @4
W6 X CL x k n arg Pre res out @9
m 'first_rows Str : `== false `=
decide x O `∈ @ \\x
dI X CL b e1 δ .str x @ δ1 @7
.Compare e1 .Gt [1 e2 [1 pos @4
Qa ks es ws mem ops QaU @6
ay v_ Xc 0 =i rfl Wg @3 @ @
ay v_ Py 1 =i rfl Wg @3 @ @
cy E.aD E.jf aC E.bW @ D7 @4
.BoolOp .And e2 es `:: pos @3
assign .Name u py @2 X.env @2
F.args_list_extend_2 _ _ @2
bC X.K CL b H Z δ σ ts vs @9
Option Nat @ SortSt Prop ^ ^
i pos pins s σ H _ I h @8
h k a ik _ b @2 @2 \\b \\a @
r k a h5 _ b @2 @2 \\b \\a @
Ny X.K CL n arg Pre res @6
n pos pins s σ H _ I h @8
c7 X scope Nc C s0 a f0 @7
kk c hX _ o @2 @2 \\o \\c
jD E.fF aC E.fV @ We E.fE @4
upd H l .lst xs zs `++ @ @3
.Constant QaQ j pos @3
.Subscript QaL e2 ps @3
Fm X CL x k n arg Pre res @8
W0 f .sh .val v @ @ ,2 fs2 `:: `++
.Name 'isinstance pp @2
p6 m n rf m n u j @4 @3
I.base.free b o e n a @5
its.toArray.size 1 `-
m 'chart Str : `== false `=
m 'place Str : `== false `=
m 'boxes Str : `== false `=
cy E.bO E.cZ Qa6 lq @4
ah Qdm ah QcG aE @2 @2
.Constant Qbm j pos @3
m7 v_ E.jo >1 @ ak rfl @3
.Return some e @ pos @2
m 'past Str : `== false `=
.Name 'reversed pq @2
seqObj 'list out c @3
pm.nodup_iff.mpr nd @
hm b _ q z \\z @4
Nv X CL b es δ tl δ1 @7
assign QfN X.env @2
some .pin y t 0 @ @2 @
T.PJ p t0 @2 some .pin y u @2 @ `=
f Qf1 .int j u @2 @2
X.mg 'isinstance @ none `=
jS 1 E.eV >1 rfl rfl @4
jS 2 E.eV >1 rfl rfl @4
ka _ e @2 \\e \\u \\b
s.heap.IsList l items @2
fY K CL H Z kvs gs fp @7
BY Hp VK Prop ^ ^ ^
.str toString i @ @
I.gD.fresh oa _ @ @
World Heap Prop ^ ^
nz my _ @ wd _ _ @2 @2
ForInStep.yield r @
X.mg 'enumerate @ none `=
.Name 'sorted pp @2
Te X.env.scope tb @2 true `=
.sh .lst Qc7 @ @
BP X binaryOp op @ r @3
d.params.defaults [0 `=
f6 K CL H Z δ σ fp @7
Hc X CL b e δ p δ1 @7
rs.foldl Qf0 s @2
tupleKind Qdt @
V Hp VK Prop ^ ^ ^
items.size sizeLine `≤
isAll s @ \\s
ah vL E.bK >1 @ aE @2
.Attribute o m apos @3
e Int : u `= jA es u t e @4 e Int : t `≠ `∧ `∨ st e @ Cq es u e @3 lu ss mem E e @ e @4 ch.getD e 0 @2 ? ?
b NameKind.free `== env.scope.kind .function `== `&& env.kindOf n @ some _ @ `== `&& true `= n NameKind.cell ,2 n b ,2 ?
jn m @ true `= D.tup .str 'keep @ .int m @ .int mem.getD m.toNat 0 @2 @ .int bh.getD m.toNat 0 @2 @ [4 @ [1 [0 ?
bu .cons E.jw >1 .inl E.vQ @ .cons E.cY >1 .inl E.x8 @ .cons E.dw >1 .inl E.Kk @ .nil @3 @3 @3 Wg @2
bu .cons E.jw >1 .inl E.vQ @ .cons E.cY >1 .inl E.x8 @ .cons E.cj >1 .inl E.uG @ .nil @3 @3 @3 Wg @2
kla_obj '<lambda> q params body scope QbH X.mg '__name__ @ >getD .none @ g j @9
r .ok .ret .bool true @ @ @ `= OldK f.heap s'.heap @2 s'.os f.os `= AllBare s'.gens @ `∧ `∧ `∧ \\s' \\r
h2 rfl H1 Z1 σ ts vs _ a.pop k v H2 Z2 c.trans d @ Qaq f @6 \\f \\k2 \\d \\Z2 \\H2 \\v @9
h2 rfl H1 Z1 σ ts vs _ c k H2 Z2 a.trans d @ Qaq f @5 \\f \\k2 \\d \\Z2 \\H2 @9
d7 X.prog X.w X.K X.mg X.base mX k f fd ps uj X.K CL c n arg Pre res @7 @11
swapsWith e some .Attribute .Name x pa @2 f pb @3 @ pc.line X.env @4 pure false @ `=
Nl g f I h e pins s2 σ H2 x y v u Q i d c q @13 \\q \\c \\d \\i \\H2 \\y \\x \\s2 \\u \\v @5
far decide e kG az isAll es ss mem far es.length near t @9 `∈ @ `&&
xs.isEmpty ~! Builtin.List.listTooLong xs.size ys.size `+ @ `&& true `= ~¬
es.getD k 0 @2 kG az isAll es ss mem far es.length near t @9 `∈
kvs.map a >1 k `= a >1 y ,2 a ? \\a @
.lst Fz s st es j @4 >map .int @ >map T.sh @ T.sh .int 1 ~- @ @ [1 `++ @
fnOf name qual params body scope d kV doc pm an iR ct @12
.ListComp elt .Name y px @2 iter ifs 0 <4 [1 scope pos @4
n 'int 'str 'list 'tuple 'bool 'dict [6 `∈
kla_fn '<lambda> q params body scope cl pm cd ct @9
G.all sc.names.lookup x @ some .globalImplicit @ `== \\x @
D.tup .str 'sign @ .str sg @ [2 @ D3 goN c a sg bs @4 >1 bs @2 >map J.d @ `::
ay GJ afV jT E.dw >1 rfl @2 rfl rfl ak rfl @5 rfl rfl @3 @
.Call .Attribute .Name x p @2 m apos @3 Qae [0 pos @4
gu LY 3 @ rfl e7 v_ LY 2 @ @ e7 v_ LY 1 @ @ dm @2 @2 @3
HT.Lp xs.length xs.length hi @3 HT.Lp xs.length 0 lo @3 `-
a >1 k `= a >1 v ,2 a ? \\a
a >1 k `= a >1 d ,2 a ? \\a
bG aC E.dJ @ bG vL E.kI >1 @ QbA i @3 gJ k0 k1 @2 @3
H a @ >isSome true `= Z a @ W' a @ ?
X.K.lookup a @ some .type 'tuple @ od .seq its n @2 sl <4 @ `=
wpAny_updateSeq a rfl e =hz hz =_hz' @4
d7 X.prog X.w X.K X.mg X.base mX k f fd ps QgA @11
.lst BO s st es QP @4 >map .str @ >map T.sh @ @
HZ E.g E.cD E.wB vL E.qw >1 @ cC _ @ E.cM E.wA @7
X.env.kindOf y >1 @ some .cell @ `= X.env.kindOf y >1 @ some .free @ `= `∨
a.contains y >1 @ scope.names.lookup y >1 @ some .free @ `== `&&
Fs h'.objs.size q params body scope QbH g @7
.Subscript e .Slice lo hi some st @ p2 @4 pos @3
j6 BW f hm PySem.boot_len Qau hs =he @6
.Call .Attribute e0 'append pa @3 e [1 [0 pb @4
.Call .Attribute e0 'extend pa @3 e [1 [0 pb @4
decide x kY ks es ops QaU @4 `∈ @ ~! \\x
some .builtin 'type.__getattribute__ @ @
N.all sc.names.lookup x @ some .local @ `== \\x @
decide x kY ks es QaB gs @4 `∈ @ ~! \\x
attributeBase QaL 'append X.env QiQ @4 eval QaL X.env @2 `=
attributeBase QaL 'extend X.env QiQ @4 eval QaL X.env @2 `=
jd ks es QbQ @3 1 ~- `= jd ks es QbQ @3 bN es ig ws i @2 >iq >toNat @2 `∈ `∨
oX aO Qf3 aO QdW aO vM E.lT >1 @ bD @2 @2 @2 aQ @2
.int bk p q ? @
spliced backTo pos starEach es X.env @2 @2 @
scope.names.lookup y @ some .free @ `== \\y
.Assign .Attribute .Name x pa @2 f pb @3 [1 e pc @3 gS `::
.int j i `> j i ? @
.int j i `< j i ? @
.Call .Attribute e m apos @3 args [0 pos @4
.Subscript e .Slice lo hi none p2 @4 pos @3
bC K CL b H Z δ σ tl.reverse ts `++ QdL @9
swapsWith Qip none pos.line X.env @4 pure false @ `=
swapsWith Qiq none pos.line X.env @4 pure false @ `=
p2 d _ z @2 >2 >2 >elim .inl .inr @2 @ \\z
.ins 'NestRun kZ cd pl pt bs QbV @5 @2
c7 X scope Nc s.heap.objs.size s H fp @7
.Call .Name 'enumerate pr @2 e [1 [0 pc @4
ah Qdm ah aC E.fV @ ah QcH aE @2 @2 @2
.lst cX es u tg @3 >map .int @ >map T.sh @ @
.Assign .Subscript QaL e2 ps @3 [1 e pos @3 gS `::
Qa c.ks c.es c.ws mem QgC QeZ @6
back 2 3 ?
HR vL E.qw >1 @ cC _ @ y9 za QbA @ @4
.Call .Name 'tuple pp @2 e [1 [0 pos @4
F7 isAll es ss mem far near iX t k @9
some .tup tt.set j .sh .any @ @2 @ @
some .lst ds.filter p @ >map g @ @ @
SP X pins E .next s' @5 \\s' \\_
dI X CL b e δ .lst l.map .bl @ @ δ1 @7
Block X CL scope Nc ifs elt δc ds p g @10
q 6 30 ?
some .pin a .ins c sU f t gs @3 @2 @2 @
.Call .Name 'str pp @2 e [1 [0 pos @4
nH X CL b .Name y px @2 iter δ ds δ1 @8
.call .ref O @ .ref a @ [1 [0 <2 @2
ou E.cD m7 Qiz ak DQ @3 E.cM bH @4
arg a @ >length n `=
List κ V `× @
t es.length `<
Vn X i x @3
i δ1.length `<
D.bS ds @ true `=
BL P w H h @4
Program
FuncData
Gl X x @2
A BA ^
Around
X.N.Nodup
A Bn ^
PE X e te @3
QlP
A T ^
fO k X.A @2
aB Z Z' @2
String
QlO
Ql2
QlV
QlW
QlT
QlX
QlZ
Ql1
QlU
Ql5
Ql6
List Xz @
QlS
Ql4
QlN
Ql3
QlY
Ql0
QlR
QlM
QlQ
Ql7
Ql8
Ql9
Qma
Qmb
Qmc
Qmd
Qme
Qmf
Qmg
Qmi
Qmj
Qmk
Qml
Qmm
Qmn
Qmo
Qmp
Qmq
Qmh
Qmr
Qms
Qmt
Qmu
Qmv
Qmw
Qmx
Qmy
Qmz
QmA
QmB
QmC
QmD
QmE
QmF
QmG
QmH
QmI
QmJ
QmK
QmL
QmM
QmN
QmO
QmP
QmQ
QmR
QmS
QmT
QmU
QmV
QmW
QmX
QmY
QmZ
Qm0
Qm1
Qm2
Qm3
Qm4
Qm5
Qm6
Qm7
Qm8
Qm9
Qna
Qnb
Qnc
Qnd
Qne
Qnf
Qng
Qnh
Qni
Qnj
Qnk
Qnl
Qnm
Qnn
Qno
Qnp
Qnq
Qnr
Qns
Qnt
Qnu
Qnv
Qnw
Qnx
Qny
Qnz
QnA
QnB
QnC
QnD
QnE
QnF
QnG
QnH
QnI
QnJ
QnK
QnL
QnM
QnN
QnO
QnP
QnQ
QnR
QnS
QnT
QnU
QnV
QnW
QnX
QnY
QnZ
Qn0
Qn1
Qn2
Qn3
Qn4
Qn5
Qn6
Qn7
Qn8
Qn9
Qoa
Qob
Qoc
Qod
Qoe
Qof
Qog
Qoh
Qoi
Qoj
Qok
Qol
Qom
Qon
Qoo
Qop
Qoq
Qor
Qos
Qot
Qou
Qov
Qow
Qox
Qoy
Qoz
QoA
QoB
QoC
QoD
QoE
QoF
QoG".splitOn "\n").toArray
def qqI (c:Char):Nat:=if 'a'<=c then c.toNat-97 else if 'A'<=c then c.toNat-39 else c.toNat+4
local macro_rules | `($x:ident)=>let u:=Lean.Macro.throwUnsupported;match x.getId with
 | .str .anonymous s=>let f:=fun n=>match qqT[n]? with
   | some t=>if t.isEmpty then u else pure ((t.splitOn " ").foldl qqS []).head!
   | _=>u
  match s.toList with
  | ['Q',a]=>f (qqI a)
  | ['Q',a,c]=>f (62+62*qqI a+qqI c)
  | _=>u
 | _=>u
noncomputable section
namespace L2
open PySem PySem.Spec PyProof.Rows
abbrev hP:=@List.length_map
abbrev hU:=@List.mem_cons_self
abbrev hX:=@List.mem_cons_of_mem
abbrev hR:=@List.mem_cons
abbrev h5:=@List.mem_append_right
abbrev hV:=@List.mem_append
abbrev h7:=@Nat.le_of_ble_eq_true
abbrev cq:=@if_neg
abbrev hZ:=@List.append_assoc
abbrev hO:=@if_pos
abbrev ik:=@List.mem_append_left
abbrev kf:=@List.getD_eq_getElem?_getD
abbrev hW:=@Nat.le_refl
abbrev ka:=@Heap.get?_push_of_some
abbrev i4:=@List.mem_singleton
abbrev i5:=@of_decide_eq_true
abbrev jj:=@Int.toNat_natCast
abbrev j2:=@List.length_append
abbrev hY:=@wpAny_bind
abbrev iz:=@List.append_nil
abbrev kA:=@List.getElem?_eq_getElem
abbrev ia:=@List.map_map
abbrev ij:=@Heap.lt_size
abbrev j1:=@List.mem_filter
abbrev js:=@List.map_append
abbrev ip:=@List.mem_map
abbrev ke:=@List.not_mem_nil
abbrev l4:=@List.getElem?_eq_some_iff
abbrev km:=@Bool.and_eq_true
abbrev ko:=@List.nodup_append
abbrev ky:=@Int.emod_lt_of_pos
abbrev i8:=@Nat.zero_le
abbrev kc:=@List.map_cons
abbrev lG:=@Heap.get?_push_size
abbrev ll:=@List.pairwise_cons
abbrev la:=@List.getElem?_map
abbrev l7:=@List.mem_of_getElem?
abbrev l9:=@List.perm_append_comm
abbrev lx:=@of_decide_eq_false
abbrev k8:=@List.length_cons
abbrev kx:=@decide_eq_true
abbrev k4:=@Option.some.inj
abbrev l6:=@Nat.lt_of_lt_of_le
abbrev k3:=@Int.emod_nonneg
abbrev l0:=@List.lookup_cons
abbrev lL:=@List.take_length
abbrev kr:=@Nat.ne_of_lt
abbrev kq:=@Nat.le_trans
abbrev lr:=@decide_eq_false
abbrev me:=@Bool.false_ne_true
abbrev l5:=@List.mem_flatMap
abbrev kv:=@Nat.le_of_lt
abbrev mD:=@List.Perm.append_left
abbrev lj:=@PySem.W.mg_of
abbrev kn:=@wpAny_pure
abbrev mu:=@PySem.W.mg_none_of
abbrev mB:=@List.filterMap_cons
abbrev ma:=@List.nodup_cons
abbrev mn:=@List.reverse_cons
abbrev mi:=@List.cons_append
abbrev lh:=@sizeLine_eq
abbrev my:=@List.Sublist.refl
abbrev nz:=@List.Sublist.append
abbrev nv:=@List.filter_append
abbrev oo:=@List.map_congr_left
abbrev ml:=@List.mem_range
abbrev nt:=@List.size_toArray
abbrev og:=@Bool.false_eq_true
abbrev ku:=@wpS_bind
abbrev m4:=@List.length_set
abbrev qr:=@List.length_filter_le
abbrev o4:=@List.getElem?_range
abbrev r3:=@List.pairwise_singleton
abbrev ov:=@List.length_range
abbrev ot:=@List.length_take
abbrev mv:=@Int.zero_add
abbrev we:=@PyProof.Rows.callWith_type1
abbrev p8:=@Nat.lt_of_le_of_lt
abbrev wd:=@List.sublist_append_right
abbrev r0:=@PySem.mem_of_lookup
abbrev rF:=@List.length_reverse
abbrev tj:=@List.getElem?_eq_none
abbrev ti:=@List.length_replicate
abbrev o2:=@List.filter_map
abbrev vu:=@List.filter_cons_of_pos
abbrev tf:=@List.mem_of_mem_take
abbrev rr:=@List.take_add_one
abbrev l8:=@wpS_pure
abbrev vr:=@List.length_singleton
abbrev tc:=@wpAny_Call_Name_kw
abbrev ro:=@List.all_eq_true
abbrev yY:=@List.length_filterMap_le
abbrev m3:=@wpAny_mono
abbrev yI:=@PySem.F.plainAttrs_list
abbrev sT:=@List.flatMap_cons
abbrev rj:=@List.foldl_cons
abbrev ri:=@List.nil_append
abbrev yB:=@List.getElem?_set_self
abbrev oa:=@Nat.le_succ
abbrev yA:=@Option.map_eq_some_iff
abbrev p7:=@List.any_cons
abbrev rh:=@List.nodup_nil
abbrev yn:=@List.getElem?_set_ne
abbrev sA:=@List.find?_cons
abbrev FX:=@wpAny_comprehension_free
abbrev yl:=@List.pairwise_append
abbrev mf:=@Ne.symm
abbrev wb:=@wpAny_truthy_bool
abbrev v3:=@List.ext_getElem?
abbrev vT:=@decide_eq_true_eq
abbrev G1:=@List.filter_cons_of_neg
abbrev y6:=@List.flatMap_append
abbrev GS:=@Heap.get?_update_other
abbrev vy:=@wpAny_passesOwn
abbrev vx:=@List.filter_nil
abbrev GI:=@List.take_append_drop
abbrev tq:=@Nat.lt_irrefl
abbrev LB:=@List.getElem?_append_right
abbrev GG:=@lookup_relabel_local
abbrev LA:=@List.drop_eq_getElem_cons
abbrev y5:=@Nat.lt_succ_self
abbrev oe:=@if_false
abbrev Lu:=@List.Pairwise.imp_of_mem
abbrev y4:=@List.mem_reverse
abbrev F1:=@beq_eq_false_iff_ne
abbrev F0:=@List.perm_iff_count
abbrev vw:=@List.all_cons
abbrev y3:=@Bool.eq_iff_iff
abbrev y0:=@PySem.W.kia_one
abbrev Lq:=@List.pairwise_lt_range
abbrev Lo:=@List.takeWhile_sublist
abbrev Lm:=@PySem.W.methodCall_KW
abbrev LH:=@Heap.get?_update_self
abbrev LG:=@Array.getElem?_toList
abbrev ON:=@List.takeWhile_append_of_pos
abbrev tI:=@beq_iff_eq
abbrev tw:=@call_meets
abbrev G2:=@beq_self_eq_true
abbrev LF:=@List.Pairwise.filter
abbrev zd:=@wpAny_holding
abbrev y8:=@Bool.and_true
abbrev o3:=@if_true
abbrev Ll:=@PySem.W.codeHd_of_K
abbrev KU:=@List.filter_eq_self
abbrev OM:=@List.getElem?_append_left
abbrev FV:=@List.range_succ
abbrev KO:=@PySem.W.callWith_K
abbrev OK:=@PySem.F.slot_list_extend
abbrev OH:=@PySem.F.type_list_extend
abbrev x7:=@wpS_forRange
abbrev OF:=@List.sublist_append_left
abbrev x5:=@List.map_set
abbrev OE:=@List.getElem?_replicate
abbrev KI:=@Bool.not_eq_true'
abbrev FR:=@wpAny_standAt
abbrev Key:=Sum Int Str
noncomputable def Ng:Key->Value->Bool
 | .inl k,v=>Value.isInt k v
 | .inr x,v=>Value.isStrOf x v
noncomputable def axk(w:World):Key->Int
 | .inl k=>hashInt k
 | .inr x=>hashStr w x
theorem gj:∀{k:Key} {v:Value},Ng k v=true->(∃i t,k=Sum.inl i/\v=Value.int i t)\/(∃x t,k=Sum.inr x/\v=Value.str x t)
 | .inl i,v,h=>by
  obtain⟨t,e⟩:=Value.isInt_shape h;exact .inl ⟨i,t,rfl,e⟩
 | .inr x,v,h=>by
  obtain⟨t,e⟩:=Value.isStrOf_shape h;exact .inr ⟨x,t,rfl,e⟩
def abM(i:Int)(t:Tok):Ng (.inl i) Qf1=true:=by simp[Ng,Value.isInt]
def abN(x:Str)(t:Tok):Ng (.inr x) (.str x t)=true:=by simp[Ng,Value.isStrOf]
theorem aoo(a b:Int):decide ((Sum.inl a:Key)=Sum.inl b)=(a==b):=by
 by_cases e:a=b
 .subst e;simp
 simp_all
def aop(a b:Str):decide ((Sum.inr a:Key)=Sum.inr b)=decide (a=b):=by simp
def aoq(a:Int)(b:Str):decide ((Sum.inl a:Key)=Sum.inr b)=false:=lr (λq=>nomatch q)
def aor(a:Str)(b:Int):decide ((Sum.inr a:Key)=Sum.inl b)=false:=lr (λq=>nomatch q)
def iy(prog:QaE)(w:World):PySem.KeyKind prog w Key where
 is:=Ng
 hash:=axk w
 inj:=λv a b f c=>by
  obtain⟨i,t,rfl,rfl⟩|⟨x,t,rfl,rfl⟩:=gj f
  .obtain⟨j,u,rfl,e⟩|⟨y,u,rfl,e⟩:=gj c
   .injection e with e1 _;rw[e1]
   .exact nomatch e
  .obtain⟨j,u,rfl,e⟩|⟨y,u,rfl,e⟩:=gj c
   .exact nomatch e
   .injection e with e1 _;rw[e1]
 byValue:=λk v h=>by
  obtain⟨i,t,rfl,rfl⟩|⟨x,t,rfl,rfl⟩:=gj h<;>rfl
 pyHash:=λhv h=>by
  obtain⟨i,t,rfl,rfl⟩|⟨x,t,rfl,rfl⟩:=gj hv
  .exact wpAny_pyHash_int h
  .exact wpAny_pyHash_str h
 eqBool:=λd hv h=>by
  obtain⟨i,t,rfl,rfl⟩|⟨x,t,rfl,rfl⟩:=gj d
  .obtain⟨j,u,rfl,rfl⟩|⟨y,u,rfl,rfl⟩:=gj hv
   .rw[aoo]at h;exact wpAny_eqBool_int h
   .rw[aoq]at h;exact SeqAt.EqAt.int_str i t y u _ _ _ _ h
  .obtain⟨j,u,rfl,rfl⟩|⟨y,u,rfl,rfl⟩:=gj hv
   .rw[aor]at h;exact SeqAt.EqAt.str_int x t j u _ _ _ _ h
   .rw[aop]at h;exact wpAny_eqBool_str h
 «strs»:=λk x t v h=>by
  obtain⟨i,u,rfl,e⟩|⟨y,u,rfl,e⟩:=gj h
  .exact nomatch e
  .injection e with e1 _;subst e1;cases v<;>rfl
def Tr(prog:QaE)(w:World)(i:Int)(t:Tok):(iy prog w).is (.inl i) Qf1=true:=abM i t
def Tt(prog:QaE)(w:World)(x:Str)(t:Tok):(iy prog w).is (.inr x) (.str x t)=true:=abN x t
inductive V where
 | non|bl (b:Bool)|int (i:Int)|str (x:Str)|ZO (b:Array UInt8)|flt (b:UInt64)|ref (a:Addr)|ty (n:Qbn)
 deriving DecidableEq
def RelV:V->Value->Prop
 | .non,u=>u=Value.none
 | .bl b,u=>u=Value.bool b
 | .int i,u=>∃t,u=Value.int i t
 | .str x, u => ∃ t, u = Value.str x t
 | .ZO b,u=>∃t,u=Value.bytes b t
 | .flt b,u=>∃t,u=Value.float b t
 | .ref a,u=>u=Value.ref a
 | .ty n,u=>u=Value.type n
abbrev _root_.BY:=List V
abbrev _root_.B2:=List Value
abbrev Vals:BY->B2->Prop:=Paired RelV
variable{xs:BY}{us:B2}
theorem Vals.length(r:Qdr):xs.length=us.length:=Paired.length r
theorem Vals.get:∀{xs:BY} {us:B2} {i:Nat} {x:V},Vals xs us->xs[i]? = some x->∃u,us[i]? = some u/\RelV x u
 | _,_,_,_,.nil,e=>by simp at e
 | _,_,0,_,.cons r _,e=>by simp_all
 | _,_,i+1,x,.cons _ t,e=>by
  obtain⟨u,h1,h2⟩:=Vals.get t (‹_›);exact⟨u,‹_›,h2⟩
theorem Vals.set{x:V}{u:Value}(r:RelV x u):∀{xs:BY} {us:B2} (i:Nat),Vals xs us->Vals (xs.set i x) (us.set i u)
 | _,_,_,.nil=>.nil
 | _,_,0,.cons _ t=>.cons r t
 | _,_,i+1,.cons q t=>.cons q (Vals.set r i t)
theorem Vals.append:∀{xs ys:BY} {us ws:B2},Vals xs us->Vals ys ws->Vals (xs++ys) (us++ws)
 | _,_,_,_,.nil,s=>s
 | _,_,_,_,.cons r t,s=>.cons r (Vals.append t s)
theorem Vals.take:∀{xs:BY} {us:B2} (n:Nat),Vals xs us->Vals (xs.take n) (us.take n)
 | _,_,0,_=>.nil
 | _,_,_+1,.nil=>.nil
 | _,_,n+1,.cons r t=>.cons r (Vals.take n t)
theorem Vals.drop:∀{xs:BY} {us:B2} (n:Nat),Vals xs us->Vals (xs.drop n) (us.drop n)
 | _,_,0,r=>r
 | _,_,_+1,.nil=>.nil
 | _,_,n+1,.cons _ t=>Vals.drop n t
def Aw:Option V->Option Value->Prop
 | some v,some u=>RelV v u
 | none,none=>True
 | _,_=>False
def KV{κ:Type}:List (κ×V)->List (κ×Value)->Prop:=Paired λ(p:κ×V) (q:κ×Value)=>p.1=q.1/\RelV p.2 q.2
noncomputable def kV:Key->V
 | .inl i=>.int i
 | .inr x=>.str x
abbrev _root_.Do:=List Key
abbrev _root_.CA:=List (Do×V)
abbrev _root_.CC:=Int->Bool
abbrev _root_.CI:=List (Str×V)
abbrev _root_.CS:=Array Value
abbrev _root_.Cl:=List (Key×V)
inductive HO where
 | lst (xs:BY)
 | tup (xs:BY)
 | dK (kvs:Cl)|dT (kvs:CA)
 | set (S:CC) (n:Nat)
 | ins (C dx:Addr) (fs:CI)
 | own (x:Addr)
 | xd (fs:CI)
 | met (f x:Addr)
 | rng (lo hi:Int)
 | gW (o:Obj) (u:HO)
 | tbl (ps:CS)
 | tabs (q:Str)
 | cod (q:Str)
 | ext (φ:Heap->Prop)
abbrev Hp:=Addr->Option HO
noncomputable def upd(H:Hp)(a:Addr)(o:HO):Hp:=λb=>if b=a then some o else H b
variable{H:Hp}{a:Addr}{o:HO}
theorem aR:upd H a o a=some o:=by unfold upd;simp_all
variable{b:Addr}
def aq(h:b≠a):upd H a o b=H b:=by unfold upd;rw[cq h]
def ate{u:HO}(h:H a=some o)(h':H b=some u)(d:o≠u):a≠b:=by
 intro e;subst e;rw[h]at h';exact d (k4 h')
theorem aP(h:H a=some o)(h':H b=none):a≠b:=by
 intro e;simp_all
section
variable(P:QaE)(w:World)
def iC(H:Hp)(h:Heap)(a:Addr):HO->Prop
 | .lst xs=>xs.length<=sizeLine/\∃(its:B2) (n:Nat),Vals xs its/\h.get? a=some {cls:=.type "list",data:=.seq its.toArray n}
 | .tup xs=>xs.length<=sizeLine/\∃its:B2,Vals xs its/\IsTup h a its.toArray
 | .dK kvs=>kvs.length<=sizeLine/\Qdc=false/\∃vs,KV kvs vs/\h.DictOf Qdt a vs
 | .dT kvs=>kvs.length<=sizeLine/\Qdc=false/\∃xs:List Qfz,
   Paired (λ(p:Do×V) (q:Qfz)=>p.1=q.1/\H q.2.1=some (.tup (p.1.map kV))/\RelV p.2 q.2.2) kvs xs ∧
   ∃o es ep,h.get? a=some o/\o.ExactDict/\o.data=.dict es ep/\es.toList=xs.map (entryOfKey Qkj)/\(xs.map (·.1)).Nodup
 | .set S n=>h.SetOf (intKind P w) a S n
 | .ins C dx fs=>H dx=some (.own a)/\fs.length<=1000/\dx≠a/\h.get? a=some (instObj C dx) ∧
   ∃mA,h.Ns1 dx mA/\(∀f,Aw (fs.lookup f) (mA f))/\PySem.Within mA (fs.map (·.1))
 | .own _=>∃o,h.get? a=some o
 | .xd fs=>∃mA,h.Ns1 a mA/\∀f,Aw (fs.lookup f) (mA f)
 | .rng lo hi=>∃t u v,h.get? a=some {cls:=.type "range",data:=.fields #[.int lo t,.int hi u,.int 1 v]}
 | .gW o u=>h.get? a=some o/\iC H h a u
 | .tbl ps=>h.get? a=some {cls:=.none,data:=.fields ps}
 | .tabs q=>∃ps:CS,h.get? a=some {cls:=.none,data:=.fields ps}/\TriplesOk ps.toList/\∀pos b,codeAmong pos ps.toList=some b->∃c,b=.ref c/\H c=some Qco
 | .cod q=>∃o vs t,h.get? a=some o/\o.data=.fields vs/\vs[1]? = some (.str q t)
 | .met f x=>h.get? a=some (PySem.W.methodObj Qad QbU)
 | .ext φ=>φ h/\(∃o,h.get? a=some o)/\∀h1 h2:Heap,φ h1->(∀o,h1.get? a=some o->h2.get? a=some o)->φ h2
def BL(H:Hp)(h:Heap):Prop:=∀a o,H a=some o->iC P w H h a o
end
variable{P:QaE}{w:World}{H':Hp}{h h':Heap}
theorem iC.lt(x:iC P w H h a o):a<h.objs.size:=by
 cases o with
 | lst xs=>obtain⟨_,_,_,_,e⟩:=x;exact ij e
 | tup xs=>obtain⟨_,_,_,p⟩:=x;exact p.lt
 | dK kvs=>obtain⟨_,_,_,_,o,_,_,e,_⟩:=x;exact ij e
 | dT kvs=>obtain⟨_,_,_,_,o,_,_,e,_⟩:=x;exact ij e
 | set S n=>obtain⟨o,_,_,_,e,_⟩:=x;exact ij e
 | ins C dx fs=>obtain⟨_,_,_,e,_⟩:=x;exact ij e
 | own y=>obtain⟨_,e⟩:=x;exact ij e
 | xd fs=>obtain⟨_,⟨_,_,_,e,_⟩,_⟩:=x;exact ij e
 | rng lo hi=>obtain⟨_,_,_,e⟩:=x;exact ij e
 | gW b u=>obtain⟨e,_⟩:=x;exact ij e
 | tbl ps=>exact ij (x)
 | tabs q=>obtain⟨_,e,_⟩:=x;exact ij e
 | cod q=>obtain⟨_,_,_,e,_⟩:=x;exact ij e
 | met f y=>exact ij (x)
 | ext φ=>obtain⟨_,⟨_,e⟩,_⟩:=x;exact ij e
theorem Paired.Na{α β:Type}{F G:α->β->Prop}:∀{l₁:Q1} {l₂:List β},Paired F l₁ l₂->(∀a b,F a b->G a b)->Paired G l₁ l₂
 | _,_,.nil,_=>.nil
 | _,_,.cons r t,f=>.cons (f _ _ r) (Paired.Na t f)
theorem iC.Hq(x:iC P w H h a o)(k:∀b u,(b=a\/H b=some (.own a))->h.get? b=some u->h'.get? b=some u)
  (l:∀b,H b=some (.own a)->H' b=some (.own a)) (j:∀b xs,H b=some Qbk->H' b=some Qbk) (k9:∀b q,H b=some Qco->H' b=some Qco:=by intro _ _ q;exact q):iC P w H' h' a o:=by
 induction o with
 | lst xs=>obtain⟨z,its,n,r,e⟩:=x;exact⟨z,its,n,r,k _ _ Q4 e⟩
 | tup xs=>obtain⟨z,its,r,g,e,c⟩:=x;exact⟨z,its,r,g,k _ _ Q4 e,c⟩
 | dK kvs=>obtain⟨z,y,vs,r,g,es,ep,e,c⟩:=x;exact⟨z,y,vs,r,g,es,ep,k _ _ Q4 e,c⟩
 | dT kvs=>
  obtain⟨z,y,xs,r,g,es,ep,e,c⟩:=x;exact⟨z,y,xs,Paired.Na r λp q z=>⟨z.1,j _ _ z.2.1,z.2.2⟩,g,es,ep,k _ _ Q4 e,c⟩
 | set S n=>obtain⟨g,es,ep,t,e,c⟩:=x;exact⟨g,es,ep,t,k _ _ Q4 e,c⟩
 | ins C dx fs=>
  obtain⟨d,z,ne,e,mA,⟨od,es,ep,e2,c⟩,r⟩:=x;exact⟨l _ d,z,ne,k _ _ Q4 e,mA,⟨od,es,ep,k _ _ (.inr d) e2,c⟩,r⟩
 | own y=>obtain⟨g,e⟩:=x;exact⟨g,k _ _ Q4 e⟩
 | xd fs=>obtain⟨mA,⟨od,es,ep,e,c⟩,r⟩:=x;exact⟨mA,⟨od,es,ep,k _ _ Q4 e,c⟩,r⟩
 | rng lo hi=>obtain⟨t,u,v,e⟩:=x;exact⟨t,u,v,k _ _ Q4 e⟩
 | gW g u i=>obtain⟨e,q⟩:=x;exact⟨k _ _ Q4 e,i q⟩
 | tbl ps=>
  have e:=x;exact k a _ Q4 e
 | met f y=>
  have e:=x;exact k a _ Q4 e
 | tabs q=>obtain⟨ps,e,tr,cs⟩:=x;exact⟨ps,k _ _ Q4 e,tr,λpos m z=>let ⟨c,e1,e2⟩:=cs pos m z;⟨c,e1,k9 _ _ e2⟩⟩
 | cod q=>obtain⟨g,vs,t,e,r⟩:=x;exact⟨g,vs,t,k _ _ Q4 e,r⟩
 | ext φ=>obtain⟨p,⟨o,e⟩,st⟩:=x;exact⟨st _ _ p λo q=>k _ _ Q4 q,⟨o,k _ _ Q4 e⟩,st⟩
theorem BL.lt(x:Qbs)(e:H a=some o):a<h.objs.size:=(x a o e).lt
theorem BL.fresh(x:Qbs)(e:h.objs.size<=a):H a=none:=by
 cases q:H a with
 | none=>rfl
 | some u=>exact absurd (l6 (x.lt q) e) (tq _)
theorem BL.kept(x:Qbs)(k:∀b u,h.get? b=some u->h'.get? b=some u):BL P w H h':=λa o e=>
 (x a o e).Hq (λb u _ q=>k b u q) Qdf λ_ _ q=>q
theorem BL.laid(x:Qbs)(k:∀b u,h.get? b=some u->h'.get? b=some u)(g:h.objs.size<=a)(new:iC P w QbO h' a o):BL P w QbO h':=λb u e=>by
 have d:=x.fresh g;by_cases f:b=a
 .subst f;rw[aR]at e;grind
 .rw[aq f]at e;exact(x b u e).Hq (λc v _ q=>k c v q) (λc q=>aq (aP q d)▸q) (λc xs q=>aq (aP q d)▸q) λc z q=>aq (aP q d)▸q
def Rd(H:Hp)(a:Addr)(u:HO):Prop:=H a=some u\/∃o,H a=some (.gW o u)
theorem Rd.ok{u:HO}(r:Rd H a u)(x:Qbs):iC P w H h a u:=by
 obtain r|⟨o,r⟩:=r
 .exact x a u r
 .obtain⟨_,q⟩:=x a _ r;exact q
def Hd:Option HO->Prop
 | some (.lst _)=>True
 | some (.dK _)=>True
 | some (.dT _)=>True
 | some (.set _ _)=>True
 | some (.ins _ _ _)=>True
 | some (.ext _)=>True
 | some (.tabs _)=>True
 | _=>False
variable{x e:Addr}{o':HO}
theorem BL.write(ok:Qbs)(d:Hd (H x))(he:e=x\/H e=some Qed)(k:∀b u,b≠e->h.get? b=some u->h'.get? b=some u)(f:∃u,h'.get? e=some u)
  (new:iC P w (upd H x o') h' x o'):BL P w (upd H x o') h':=λb u q=>by
 have l:∀c y,H c=some (.own y)->c≠x:=λc y r z=>by subst z;rw[r]at d;exact d
 have j:∀c xs,H c=some Qbk->c≠x:=λc xs r z=>by subst z;rw[r]at d;exact d
 have i:∀c q,H c=some Qco->c≠x:=λc q r z=>by subst z;rw[r]at d;exact d
 by_cases g:b=x
 .subst g;rw[aR]at q;grind
 .rw[aq g]at q;by_cases a:b=e
  .have m:H b=some Qed:=by
    obtain z|z:=he
    .exact absurd (a.trans z) g
    .rw[a];exact z
   rw[q]at m;cases m;obtain⟨v,hv⟩:=f;exact⟨v,a▸hv ⟩
  .refine(ok b u q).Hq (λc v n r=>k c v ?_ r) (λc r=>aq (l c b r)▸r) (λc xs r=>aq (j c xs r)▸r) λc z r=>aq (i c z r)▸r;grind
abbrev _root_.BS:=List Addr
structure Un(fs ex:BS)(H H':Hp)(h h':Heap):Prop where
 keep:∀b o,h.get? b=some o->H b=none->b∉fs->b∉ex->h'.get? b=some o
 slot:∀b o,h.get? b=some o->H b=none->b∈fs->b∉ex->∃sl,h'.get? b=some {o with slots:=sl}
 free:∀b o,h.get? b=some o->H b=none->b∉ex->H' b=none
 there:∀b o,h.get? b=some o->b∉ex->∃o',h'.get? b=some o'
 FW:∀b xs,H b=some Qbk->H' b=some Qbk
 iD:∀b o u,H b=some (.gW o u)->H' b=some (.gW o u)
 FY:∀b ps,H b=some (.tbl ps)->∃more,H' b=some (.tbl (ps++more))
section
variable{fs ex:BS}{H1 H2:Hp}{h1 h2:Heap}
theorem Un.any(u:Un fs ex H H1 h h1){a:Obj}(q:h.get? b=some a)(n:H b=none)(c:b∉ex):∃sl,h1.get? b=some {a with slots:=sl}:=by
 by_cases d:b∈fs
 .exact u.slot b a q n d c
 .exact⟨ _,u.keep b a q n d c⟩
theorem Un.trans(a:Un fs ex H H1 h h1)(b:Un fs ex H1 H2 h1 h2):Un fs ex H H2 h h2 where
 keep:=λc d q n f e=>b.keep c d (a.keep c d q n f e) (a.free c d q n e) f e
 slot:=λc d q n f e=>by
  obtain⟨sl,e1⟩:=a.slot c d q n f e;obtain⟨g,e2⟩:=b.slot c _ e1 (a.free c d q n e) f e;exact⟨g,e2⟩
 free:=λc d q n e=>by
  obtain⟨o',e1⟩:=a.there c d q e;exact b.free c o' e1 (a.free c d q n e) e
 there:=λc d q e=>by
  obtain⟨o',e1⟩:=a.there c d q e;exact b.there c o' e1 e
 FW:=λc xs q=>b.FW c xs (a.FW c xs q)
 iD:=λc d xs q=>b.iD c d xs (a.iD c d xs q)
 FY:=λc ps q=>by
  obtain⟨m1,e1⟩:=a.FY c ps q;obtain⟨m2,e2⟩:=b.FY c _ e1;exact⟨m1++m2,by simp_all ⟩
theorem Un.kept(k:∀b u,h.get? b=some u->h'.get? b=some u):Un fs ex H H h h':=
 ⟨λb a q _ _ _=>k b a q,λb a q _ _ _=>⟨ _,k b a q⟩,λ_ _ _ n _=>n,λb a q _=>⟨a,k b a q⟩,λ_ _ q=>q,λ_ _ _ q=>q,λ_ ps q=>⟨#[],‹_› ⟩⟩
theorem Un.refl:Un fs ex H H h h:=Un.kept λ_ _ q=>q
theorem Un.laid(k:∀b u,h.get? b=some u->h'.get? b=some u)(d:h.objs.size<=a)(c:H a=none):Un fs ex H QbO h h' where
 keep:=λb u q _ _ _=>k b u q
 slot:=λb u q _ _ _=>⟨ _,k b u q⟩
 free:=λb u q n _=>aq (kr (l6 (ij q) d))▸n
 there:=λb u q _=>⟨u,k b u q⟩
 FW:=λb xs q=>aq (aP q c)▸q
 iD:=λb u xs q=>aq (aP q c)▸q
 FY:=λb ps q=>⟨#[],by rw[aq (aP q c),q];simp⟩
theorem Un.write(d:Hd (H x))(he:e=x\/H e=some Qed)(k:∀b u,b≠e->h.get? b=some u->h'.get? b=some u)(c:∃u,h'.get? e=some u):Un fs ex H (upd H x o) h h':=by
 have g:∀b,H b=none->b≠x:=λb n z=>by subst z;rw[n]at d;exact d
 have f:∀b,H b=none->b≠e:=λb n z=>by simp_all
 have hm:∀b u,H b=some u->¬ Hd (some u)->b≠x:=λb u q nm z=>by simp_all
 refine⟨λb u q n _ _=>k b u (f b n) q,λb u q n _ _=>⟨ _,k b u (f b n) q⟩,λb u q n _=>aq (g b n)▸n,λb u q _=>?_,
  λb xs q=>aq QjS▸q,λb u xs q=>aq QjS▸q,λb ps q=>⟨#[],by rw[aq QjS,q];simp⟩⟩
 by_cases a:b=e
 .subst a;exact c
 .exact⟨u,k b u a q⟩
end
noncomputable def Pc(h:Heap)(H:Hp):BS:=(List.range h.objs.size).filter λa=>(H a).isSome
def Lw(h:Heap)(H:Hp):Heap:=PySem.W.hideAll h (Pc h H)
def abP(h:Heap)(H:Hp):(Lw h H).objs.size=h.objs.size:=PySem.W.hideAll_size _ _
theorem ael{o:Obj}(e:h.get? b=some o)(n:H b=none):(Lw h H).get? b=some o:=
 PySem.W.hideAll_get _ e λhm=>by
  have q:=(j1.1 hm).2;simp_all
theorem ajo{o:Obj}(e:(Lw h H).get? b=some o):h.get? b=some o/\H b=none:=by
 have a:=PySem.W.of_hideAll _ e;refine⟨a,?_⟩;cases q:H b with
 | none=>rfl
 | some x=>
  have hm:b∈Pc h H:=j1.2 ⟨ml.2 (ij a),by simp[q]⟩;have z:(Lw h H).get? b=none:=PySem.W.hideAll_none _ hm;simp_all
abbrev _root_.BM:=List (Addr×Obj)
noncomputable def ajp(g h:Heap)(L:Addr):BM:=(List.range h.objs.size).filterMap λa=>if a=L\/(g.get? a).isSome=true then none else(h.get? a).map λo=>(a,o)
def rest(g h:Heap)(L d:Addr):BM:=(ajp g h L).filter λp=>decide (p.1≠d)
abbrev _root_.Bz:=Str->Option Value
structure Mod(K:Frag)(mg:Bz)(base:Heap):Prop where
 xc:K.In base
 glob:base.Ns mainGlobals mg
 blt:∃mb,base.Ns builtinsNs mb/\∀x:Str,x≠"__name__"->mb x=bootBuiltins x
 nolimit:base.NoLimit
abbrev _root_.At:=List Str
abbrev _root_.Bi:=Value->Shared->Prop
abbrev _root_.EM:=List Env
structure Cx where
 prog:Program
 w:World
 K:Frag
 mg:Str->Option Value
 base:Heap
 A:Around
 N:At
 h9:Shared
 nN:Hp
 env:Env
 outer:EM
 stack:EM
 ex:BS
 fn:Str->Bool
 calm:Bool
 pn:BM
 xe:Value->Shared->Prop
noncomputable def n7(l:EM):BS:=l.filterMap (·.frame)
abbrev Cx.fs(X:Cx):BS:=n7 X.outer
def tJ(sc:Scope)(x:Str):Prop:=sc.names.lookup x=some .local\/sc.names.lookup x=some .cell\/sc.names.lookup x=some .free
def Loc(sc:Scope)(x:Str):Prop:=sc.names.lookup x=some .local\/sc.names.lookup x=some .cell
def Look(env:Env)(h:Heap)(m:Bz)(x:Str)(u:Value):Prop:=
 (env.kindOf x=some .local/\m x=some u)\/((env.kindOf x=some .cell\/env.kindOf x=some .free)/\∃c,env.cells.lookup x=some c/\h.IsCell c (some u))
structure Cx.Ok(X:Cx):Prop where
 mod:Mod X.K X.mg X.base
 kind:X.env.scope.kind=.function
 glob:X.env.globals=mainGlobals
 blt:X.env.builtins=builtinsNs
 above:X.h9.heap.objs.size<=X.env.locals
 inj:∀x y c,X.env.cells.lookup x=some c->X.env.cells.lookup y=some c->x=y
 has:∀x,(X.env.kindOf x=some .cell\/X.env.kindOf x=some .free)->∃c,X.env.cells.lookup x=some c
 A1:∀x c,X.fn x=true->X.env.cells.lookup x=some c->X.h9.heap.objs.size<=c
 hd:X.calm=true->X.A.handled=none
 frames:X.A.frames=some X.stack
 HA:X.stack=X.outer\/(X.stack=X.env::X.outer/\X.env.frame=some X.env.locals)
 Pz:∀b∈X.ex,b≠X.env.locals/\∀x c,X.env.cells.lookup x=some c->c≠b
 bs:∀b o,X.base.get? b=some o->X.h9.heap.get? b=some o/\X.nN b=none
 p5:X.base.objs.size<=X.h9.heap.objs.size
 FA:∀b o,X.base.get? b=some o->b∉X.ex
 IH:∀b∈X.ex,b∉X.fs
 FZ:X.h9.heap.FunFrames X.base X.outer
 u7:∀b∈X.fs,X.nN b=none
structure Inv(X:Cx)(pins:BM)(σ:Qge)(H:Hp)(s:Qr):Prop where
 ok:X.Ok
 os:s.os=X.h9.os
 bare:AllBare s.gens
 base:Un X.fs X.ex X.nN H X.h9.heap s.heap
 loc:∃m,s.heap.Ns X.env.locals m/\∀(i:Nat) (x:Str) (v:V),X.N[i]? = some x->σ[i]? = some Qax->tJ X.env.scope x->∃u,RelV v u/\Look X.env s.heap m x u
 cell:∀x c,X.env.cells.lookup x=some c->∃v,s.heap.IsCell c v
 free:H X.env.locals=none
 xu:∀x c,X.env.cells.lookup x=some c->H c=none
 pin:∀p∈X.pn++pins,s.heap.get? p.1=some p.2/\H p.1=none/\p.1≠X.env.locals/\p.1∉X.fs/\∀v,p.2.data ≠ .cell v
 gD:BL X.prog X.w H s.heap
 len:σ.length=X.N.length
variable{X:Cx}{pins:BM}{σ:Qge}{s:Qr}
theorem Cx.Ok.axq(ok:X.Ok){o:Obj}(e:X.base.get? b=some o):b∉X.fs:=λa=>by
 have:=(ok.FZ.mem a).1;grind
theorem Inv.bs(I:QE):∀b o,X.base.get? b=some o->s.heap.get? b=some o/\H b=none:=λb o e=>
 ⟨I.base.keep b o (I.ok.bs b o e).1 (I.ok.bs b o e).2 (I.ok.axq e) (I.ok.FA b o e),I.base.free b o (I.ok.bs b o e).1 (I.ok.bs b o e).2 (I.ok.FA b o e)⟩
theorem Inv.bk(I:QE):∀b o,X.base.get? b=some o->s.heap.get? b=some o:=λb o e=>(I.bs b o e).1
theorem Inv.mod(I:QE):Mod X.K X.mg X.base:=I.ok.mod
theorem Inv.Gy(I:QE):X.K.In s.heap:=I.ok.mod.xc.keeps I.bk
theorem Inv.nolimit(I:QE):s.heap.NoLimit:=I.ok.mod.nolimit.keeps I.bk
theorem Inv.lt(I:QE):X.env.locals<s.heap.objs.size:=let ⟨_,a,_⟩:=I.loc;a.lt
theorem Inv.sz(I:QE):X.h9.heap.objs.size<=s.heap.objs.size:=kq I.ok.above (kv I.lt)
theorem Inv.axr(I:QE)(h:s.heap.objs.size<=a):a∉X.fs:=λc=>by
 obtain⟨_,o,b,_⟩:=I.ok.FZ.mem c;exact absurd (l6 (ij b) (kq I.sz h)) (tq _)
theorem Inv.vi(I:QE):∀x c,X.env.cells.lookup x=some c->c≠X.env.locals:=λx c e z=>by
 obtain⟨v,o,d,hd⟩:=I.cell x c e;obtain⟨m,⟨o',es,ep,a,b,_⟩,_⟩:=I.loc;grind
theorem Inv.FZ(I:QE):s.heap.FunFrames X.base X.outer:=by
 have all:∀(l:EM),(∀b∈n7 l,b∈X.fs)->X.h9.heap.FunFrames X.base l->s.heap.FunFrames X.base l:=by
  intro l
  induction l with
  | nil=>intro _ _;trivial
  | cons env r d=>
   intro hs i;obtain⟨j,⟨L,o,hf,h,g,hd⟩,f⟩:=i;have c:=hs L (by unfold n7;rw[mB,hf];exact hU);obtain⟨sl,e⟩:=I.base.slot L o g (I.ok.u7 L c) c λz=>I.ok.IH L z c;exact⟨j,⟨L,_,hf,h,e,hd⟩,d (λb a=>hs b (by unfold n7;rw[mB,hf];exact hX _ a)) f⟩
 exact all _ (λ_ a=>a) I.ok.FZ
theorem Inv.stack(I:QE):s.heap.FunFrames X.base X.stack:=by
 obtain e|⟨e,hf⟩:=I.ok.HA
 .rw[e];exact I.FZ
 .rw[e];obtain⟨m,a,_⟩:=I.loc;refine .cons (by rw[I.ok.kind];decide) hf a ?_ I.FZ;exact Heap.get?_none_of_le (kq I.ok.p5 I.ok.above)
theorem Inv.OS(I:QE):∀b∈n7 X.stack,b∈X.env.locals::X.fs:=λb a=>by
 obtain e|⟨e,hf⟩:=I.ok.HA
 .rw[e]at a;exact hX _ a
 .rw[e]at a;unfold n7 at a;rw[mB,hf]at a;exact a
theorem Inv.OU(I:QE):∀b∈n7 X.stack,H b=none:=λb a=>by
 obtain e|a:=hR.1 (I.OS b a)
 .rw[e];exact I.free
 .obtain⟨_,o,c,_⟩:=I.ok.FZ.mem a;exact I.base.free b o c (I.ok.u7 b a) λz=>I.ok.IH b z a
variable{t':Nat}
theorem Inv.step{g':Array GenState}{d':Drawn}{ch:BS}(I:QE)
  (g:∀b∈ch,QiI/\b≠X.env.locals/\(∀x c,X.env.cells.lookup x=some c->c≠b)/\∀p∈X.pn++pins,p.1≠b)
  (keep:∀b o,b≠X.env.locals->b∉X.fs->b∉ch->s.heap.get? b=some o->H b=none->h'.get? b=some o)
  (slot:∀b o,b≠X.env.locals->b∈X.fs->b∉ch->s.heap.get? b=some o->H b=none->∃sl,h'.get? b=some {o with slots:=sl}) (free:∀b o,b∉ch->s.heap.get? b=some o->H b=none->H' b=none)
  (there:∀b o,b∉ch->s.heap.get? b=some o->∃o',h'.get? b=some o')
  (FW:∀b xs,H b=some Qbk->H' b=some Qbk) (iD:∀b o u,H b=some (.gW o u)->H' b=some (.gW o u)) (FY:∀b ps,H b=some (.tbl ps)->∃more,H' b=some (.tbl (ps++more)))
  (ns:∀m,s.heap.Ns X.env.locals m->h'.Ns X.env.locals m) (gD:BL X.prog X.w H' h') (G:AllBare g') :
  Inv X pins σ H' {s with heap:=h',gens:=g',drawn:=d',toks:=t'}:=by
 have y:∀b o,X.h9.heap.get? b=some o->b≠X.env.locals:=λb o e=>kr Qhg;have h:∀b o,X.h9.heap.get? b=some o->b∉X.ex->b∉ch:=λb o e a j=>by
  rcases(g b j).1 with z|z
  .exact a z
  .exact absurd (l6 (ij e) z) (tq _)
 have cellK:∀x c,X.env.cells.lookup x=some c->∀v,s.heap.IsCell c v->h'.IsCell c v:=λx c e v ⟨o,t,hd⟩=>by
  have f:c∉ch:=λz=>(g c z).2.2.1 x c e rfl;by_cases D:c∈X.fs
  .obtain⟨sl,q⟩:=slot c o (I.vi x c e) D f t (I.xu x c e);exact⟨_,q,hd⟩
  .exact⟨o,keep c o (I.vi x c e) D f t (I.xu x c e),hd⟩
 refine⟨I.ok,I.os,G,⟨λb o e n j a=>?_,λb o e n j a=>?_,λb o e n a=>?_,λb o e a=>?_,λb xs e=>FW b xs (I.base.FW b xs e),λb o xs e=>iD b o xs (I.base.iD b o xs e),λb ps e=>?_⟩,?_,λx c e=>?_,?_,λx c e=>?_,λp C=>?_,gD,I.len⟩
 .exact keep b o (y b o e) j (h b o e a) (I.base.keep b o e n j a) QjE
 .obtain⟨sl,e1⟩:=I.base.slot b o e n j a;obtain⟨A,e2⟩:=slot b _ (y b o e) j (h b o e a) e1 QjE;exact⟨A,e2⟩
 .obtain⟨o',e1⟩:=I.base.there b o e a;exact free b o' (h b o e a) e1 QjE
 .obtain⟨o',e1⟩:=I.base.there b o e a;exact there b o' (h b o e a) e1
 .obtain⟨m1,e1⟩:=I.base.FY b ps e;obtain⟨m2,e2⟩:=FY b _ e1;exact⟨m1++m2,by rw[e2,Array.append_assoc]⟩
 .obtain⟨m,E,F⟩:=I.loc;refine⟨m,ns m E,λi x v e1 e2 J=>?_⟩;obtain⟨u,r,l⟩:=F i x v e1 e2 J;refine⟨u,r,?_⟩;obtain l|⟨k,c,e,z⟩:=l
  .exact .inl l
  .exact .inr ⟨k,c,e,cellK x c e _ z⟩
 .obtain⟨v,z⟩:=I.cell x c e;exact⟨v,cellK x c e v z⟩
 .obtain⟨m,⟨o,_,_,t,_⟩,_⟩:=I.loc;exact free _ o (λz=>(g _ z).2.1 rfl) t I.free
 .obtain⟨v,o,t,hd⟩:=I.cell x c e;exact free c o (λz=>(g c z).2.2.1 x c e rfl) t (I.xu x c e)
 .obtain⟨e,n,ne,B,d⟩:=I.pin p C;have f:p.1∉ch:=λz=>(g p.1 z).2.2.2 p C rfl;exact⟨keep p.1 p.2 ne B f e n,free p.1 p.2 f e n,ne,B,d⟩
theorem Inv.un(I:QE)(u:Un X.fs [] H H' s.heap h')(gD:BL X.prog X.w H' h'):Inv X pins σ H' {s with heap:=h',toks:=t'}:=by
 obtain⟨m,⟨o,es,ep,g,r⟩,_⟩:=id I.loc;obtain⟨sl,i⟩:=u.any g I.free Wp;exact I.step (ch:=[]) (λ_ z=>nomatch z) (λb o _ c _ e n=>u.keep b o e n c Wp) (λb o _ c _ e n=>u.slot b o e n c Wp) (λb o _ e n=>u.free b o e n Wp) (λb o _ e=>u.there b o e Wp) u.FW u.iD u.FY (λj hm=>by
  obtain⟨o',d,f,a,h⟩:=hm;rw[g]at a;cases a;exact⟨_,d,f,i,h⟩) gD I.bare
theorem Inv.call{g':Array GenState}{d':Drawn}{ch:BS}(I:QE)(u:Un (n7 X.stack) ch H H' s.heap h')(gD:BL X.prog X.w H' h')(l:AllBare g')
  (f:∀b∈ch,QiI/\b≠X.env.locals/\(∀x c,X.env.cells.lookup x=some c->c≠b)/\∀p∈X.pn++pins,p.1≠b) :
  Inv X pins σ H' {s with heap:=h',gens:=g',drawn:=d',toks:=t'}:=by
 obtain⟨m,⟨o,es,ep,j,r⟩,_⟩:=id I.loc;obtain⟨sl,g⟩:=u.any j I.free λz=>(f _ z).2.1 rfl;exact I.step f (λb o g q a e n=>u.keep b o e n (λz=>(hR.1 (I.OS b z)).elim g q) a) (λb o _ _ a e n=>u.any e n a) (λb o a e n=>u.free b o e n a) (λb o a e=>u.there b o e a) u.FW u.iD u.FY (λt hm=>by
  obtain⟨o',h,i,d,k⟩:=hm;rw[j]at d;cases d;exact⟨_,h,i,g,k⟩) gD l
theorem Inv.turned{it:Addr}(I:QE)(k:∀b o,b≠it->s.heap.get? b=some o->h'.get? b=some o)(j:H it=none)(f:it≠X.env.locals)
  (h1:it∈X.ex\/X.h9.heap.objs.size<=it) (h2:∀x c,X.env.cells.lookup x=some c->c≠it) (i:∀p∈X.pn++pins,p.1≠it):Inv X pins σ H {s with heap:=h',toks:=t'}:=by
 have d:∀b u,H b=some u->b≠it:=λb u e z=>by grind
 refine I.step (ch:=[it]) (λb h=>?_) (λb o _ _ a e _=>k b o (λz=>a (by simp[z])) e) (λb o _ _ a e _=>⟨ _,k b o (λz=>a (by simp[z])) e⟩) (λ_ _ _ _ n=>n)
  (λb o a e=>⟨o,k b o (λz=>a (by simp[z])) e⟩) (λ_ _ e=>e) (λ_ _ _ e=>e) (λb ps e=>⟨#[],‹_› ⟩) (λm hm=>?_) (λb u e=>?_) I.bare
 .have e:=by simpa using h
  subst e;exact⟨h1,f,h2,i⟩
 .obtain⟨o,es,ep,g,r⟩:=hm;exact⟨o,es,ep,k _ o (mf f) g,r⟩
 .refine(I.gD b u e).Hq (λc v a q=>k c v ?_ q) Qdf λ_ _ q=>q;obtain z|z:=a
  .rw[z];exact d b u e
  .exact d c _ z
theorem Inv.tok(I:QE)(t:Nat):Inv X pins σ H {s with toks:=t}:=I.un Un.refl I.gD
theorem Inv.kept(I:QE)(k:∀b u,s.heap.get? b=some u->h'.get? b=some u):Inv X pins σ H {s with heap:=h',toks:=t'}:=I.un (Un.kept k) (I.gD.kept k)
theorem Inv.laid(I:QE)(k:∀b u,s.heap.get? b=some u->h'.get? b=some u)(c:s.heap.objs.size<=a)(new:iC X.prog X.w QbO h' a o) :
  Inv X pins σ (upd H a o) {s with heap:=h',toks:=t'}:=I.un (Un.laid k c (I.gD.fresh c)) (I.gD.laid k c new)
theorem Inv.write(I:QE)(c:Hd (H x))(he:e=x\/H e=some Qed)(k:∀b u,b≠e->s.heap.get? b=some u->h'.get? b=some u)(a:∃u,h'.get? e=some u)
  (new:iC X.prog X.w (upd H x o) h' x o):Inv X pins σ (upd H x o) {s with heap:=h',toks:=t'}:=I.un (Un.write c he k a) (I.gD.write c he k a new)
theorem Inv.yS{a:BM}(I:QE)(h:∀p∈a,s.heap.get? p.1=some p.2/\H p.1=none/\p.1≠X.env.locals/\p.1∉X.fs/\∀v,p.2.data ≠ .cell v):Inv X a σ H s:=
 ⟨I.ok,I.os,I.bare,I.base,I.loc,I.cell,I.free,I.xu,λp b=>(hV.1 b).elim (λz=>I.pin p (ik _ z)) (h p),I.gD,I.len⟩
variable{i:Nat}
def Tv{N:At}(c:N.Nodup){j:Nat}{x:Str}(a:N[i]? = some x)(b:N[j]? = some x):i=j:=by
 obtain⟨h1,e1⟩:=l4.1 a;obtain⟨h2,e2⟩:=l4.1 b;exact(List.getElem_inj c).1 (e1.trans e2.symm)
variable{M:Model}{A:QaF}{E:Bi}{v:V}{u:Value}{Q:Unit->Shared->Prop}
abbrev _root_.EU:=List Keyword
abbrev _root_.AB(X:Cx)(p:Pos)(e:Expr):Prop:=((backTo p (starEach [e] X.env)).all Qh8&&(backToKw p Qgf).all Qhm&&decide ([e].length+([]:EU).length+Qgz<30))=true
abbrev _root_.Cf:=List Expr
abbrev _root_.AC(X:Cx)(e:Expr)(es:Cf):Prop:=starEach Qae X.env=(false,eval e X.env)::starEach es X.env
abbrev _root_.AD(x:Str):Prop:=(x==("__debug__":Str))=false
abbrev _root_.AE(x:Str):Prop:=(x==("__classdict__":Str))=false
abbrev _root_.AL(X:Cx)(p:Pos)(es:Cf):Prop:=(backTo p (starEach es X.env)).any (·.1)=false
abbrev _root_.AM(X:Cx)(y:Str):Prop:=X.fn y=true\/X.env.scope.names.lookup y=some .local
abbrev _root_.AN(X:Cx)(e:Expr):Prop:=∀x,foldedSetIterable e X.env x=pure x
abbrev _root_.AR(X:Cx)(e d:Expr):Prop:=starEach [e,d] X.env=[(false,eval e X.env),(false,eval d X.env)]
abbrev _root_.AS(X:Cx)(e:Expr)(f:Str):Prop:=attributeBase e f X.env QeO=eval e X.env
def abQ{x:Str}(I:QE)(hN:QbX)(hi:X.N[i]? = some x)(g:Qda)(r:QdA)
  (h:∀s',Inv X pins (σ.set i Qax) H s'->(∃a,Heap.SameBut a s.heap s'.heap/\(a=X.env.locals\/X.env.cells.lookup x=some a))->Q () s') (hf:AM X x:=by first|exact .inl rfl|exact .inr rfl|assumption):wpAny M A (storeName X.env x u) Q E s:=by
 obtain⟨m,V,hl⟩:=id I.loc;have Z:(X.env.scope.kind == .class || (X.env.scope.kind == .module&&X.env.locals != X.env.globals))=false:=by rw[I.ok.kind];rfl
 have t:i<σ.length:=by rw[I.len];exact(l4.1 hi).1
 have vi:=I.vi;have tracked:∀{a:Addr} {h':Heap},(∃o,s.heap.get? a=some o/\H a=none)->Heap.SameBut a s.heap h'->BL X.prog X.w H h':=λ{a h'} ha hs b ob e=>by
  obtain⟨_,_,Tw⟩:=ha;refine(I.gD b ob e).Hq (λc K f q=>(hs.2 c ?_).trans q) Qdf λ_ _ q=>q;rintro rfl;obtain rfl|f:=f
  .rw[Tw]at e;cases e
  .rw[Tw]at f;cases f
 obtain l|l:=g
 .refine wpAny_storeName_local l V (λh' U hs=>?_) Z;obtain⟨oL,_,_,T,_⟩:=id V;refine h _ ⟨I.ok,I.os,I.bare,⟨λb o e n D g=>?_,λb o e n D g=>?_,I.base.free,λb o e g=>?_,I.base.FW,I.base.iD,I.base.FY⟩,⟨_,U,λj y v' e1 e2 W=>?_⟩,λy c e=>?_,I.free,I.xu,λp S=>?_,tracked ⟨oL,T,I.free⟩ hs,by simpa using I.len⟩ ⟨_,hs,.inl rfl⟩
  .exact(hs.2 b (kr Qhg)).trans (I.base.keep b o e n D g)
  .obtain⟨sl,e1⟩:=I.base.slot b o e n D g;exact⟨sl,(hs.2 b (kr Qhg)).trans e1⟩
  .obtain⟨o',e1⟩:=I.base.there b o e g;exact⟨o',(hs.2 b (kr Qhg)).trans e1⟩
  .by_cases B:j=i
   .subst B;rw[hi]at e1;cases e1;rw[yB t]at e2;cases e2;exact⟨u,r,.inl ⟨l,Wp⟩⟩
   .rw[yn (mf B)]at e2;obtain⟨O,P,q⟩:=hl j y v' e1 e2 W;refine⟨O,P,?_⟩;obtain⟨k,e⟩|⟨k,c,e,z⟩:=q
    .refine .inl ⟨k,?_⟩;have:y≠x:=λe=>B (Tv hN e1 (e▸hi));simp[this,e]
    .exact .inr ⟨k,c,e,z.sameBut hs (vi y c e)⟩
  .obtain⟨K,z⟩:=I.cell y c e;exact⟨K,z.sameBut hs (vi y c e)⟩
  .obtain⟨e,n,ne,R,d⟩:=I.pin p S;exact⟨(hs.2 p.1 ne).trans e,n,ne,R,d⟩
 .have C:X.fn x=true:=by
   obtain z|z:=hf
   .exact z
   .rw[z]at l;cases l
  obtain⟨c,f⟩:=I.ok.has x (.inl l);obtain⟨K,z⟩:=I.cell x c f;refine wpAny_storeName_cell I.ok.kind l f z (λh' J hs=>?_);obtain⟨oc,F,Y⟩:=id z;refine h {s with heap:=h'} ⟨I.ok,I.os,I.bare,⟨λb o e n D g=>?_,λb o e n D g=>?_,I.base.free,λb o e g=>?_,I.base.FW,I.base.iD,I.base.FY⟩,⟨m,V.sameBut hs (Ne.symm (vi x c f)),λj y v' e1 e2 W=>?_⟩,λy L e=>?_,I.free,I.xu,λp S=>?_,tracked ⟨oc,F,I.xu x c f⟩ hs,by simpa using I.len⟩ ⟨c,hs,.inr f⟩
  .exact(hs.2 b QiP).trans (I.base.keep b o e n D g)
  .obtain⟨sl,e1⟩:=I.base.slot b o e n D g;exact⟨sl,(hs.2 b QiP).trans e1⟩
  .obtain⟨o',e1⟩:=I.base.there b o e g;exact⟨o',(hs.2 b QiP).trans e1⟩
  .by_cases B:j=i
   .subst B;rw[hi]at e1;cases e1;rw[yB t]at e2;cases e2;exact⟨u,r,.inr ⟨.inl l,c,f,J⟩⟩
   .rw[yn (mf B)]at e2;obtain⟨O,P,q⟩:=hl j y v' e1 e2 W;refine⟨O,P,?_⟩;obtain q|⟨k,L,e,z'⟩:=q
    .exact .inl q
    .refine .inr ⟨k,L,e,z'.sameBut hs ?_⟩;rintro rfl;exact B (Tv hN e1 (I.ok.inj _ _ _ e f▸hi))
  .by_cases G:L=c
   .subst G;exact⟨_,J⟩
   .obtain⟨w2,z2⟩:=I.cell y L e;exact⟨w2,z2.sameBut hs G⟩
  .obtain⟨e,n,ne,R,d⟩:=I.pin p S;refine⟨(hs.2 p.1 ?_).trans e,n,ne,R,d⟩;intro q;rw[q,F]at e;have q':oc=p.2:=k4 e;exact d K (by rw[← q'];exact Y)
def Hr{x:Str}(I:QE)(b:QbX)(hi:X.N[i]? = some x)(a:Qda)(r:QdA)
  (h:∀s',Inv X pins (σ.set i Qax) H s'->Q () s') (hf:AM X x:=by first|exact .inl rfl|exact .inr rfl|assumption):wpAny M A (storeName X.env x u) Q E s:=
 abQ I b hi a r (λs' c _=>h s' c) hf
abbrev _root_.Dx:=Option Addr
abbrev XK:=Value->Dx->Hp->Prop
abbrev St:=List (Option V)
abbrev VK:=V->Hp->Prop
abbrev TE:=St->Hp->VK->Prop
abbrev _root_.Db:=Bool->Hp->Prop
abbrev TT:=St->Hp->Db->Prop
abbrev _root_.EO:=BY->Hp->Prop
abbrev TA:=St->Hp->EO->Prop
structure Ends where
 nx:St->Hp->Prop
 rt:VK
 bk:St->Hp->Prop:=λ_ _=>False
 ct:St->Hp->Prop:=λ_ _=>False
abbrev TS:=Ends->St->Hp->Prop
def EP(X:Cx)(pins:BM)(σ:St)(Q:VK)(u:Value)(s':Qr):Prop:=∃v H',Inv X pins σ H' s'/\RelV v u/\Q v H'
def TP(X:Cx)(pins:BM)(σ:St)(Q:Db)(b:Bool)(s':Qr):Prop:=∃H',Inv X pins σ H' s'/\Q b H'
def AP(X:Cx)(pins:BM)(σ:St)(Q:EO)(us:B2)(s':Qr):Prop:=∃vs H',Inv X pins σ H' s'/\Vals vs us/\Q vs H'
def SP(X:Cx)(pins:BM)(D:Ends)(f:Flow)(s':Qr):Prop:=
 match f with
 | .next=>∃σ' H',Inv X pins σ' H' s'/\D.nx σ' H'
 | .brk=>∃σ' H',Inv X pins σ' H' s'/\D.bk σ' H'
 | .cont=>∃σ' H',Inv X pins σ' H' s'/\D.ct σ' H'
 | .ret u=>∃v σ' H',Inv X pins σ' H' s'/\RelV v u/\D.rt v H'
def PE(X:Cx)(e:Expr)(t:TE):Prop:=
 ∀(pins:BM) (s:Qr) (σ:St) (H:Hp) (Q:VK),Inv X pins σ H s->t σ H Q->wpAny QA X.A QeO Qa5 X.xe s
def PT(X:Cx)(e:Expr)(t:TT):Prop:=
 ∀(pins:BM) (s:Qr) (σ:St) (H:Hp) (Q:Db),Inv X pins σ H s->t σ H Q->wpAny QA X.A (isTrue e X.env QeO) QeH X.xe s
def PW(X:Cx)(e:Expr)(t:TT):Prop:=
 ∀(whole:Sem Value) (pins:BM) (s:Qr) (σ:St) (H:Hp) (Q:Db),Inv X pins σ H s->t σ H Q->wpAny QA X.A (isTrue e X.env whole) QeH X.xe s
def PA(X:Cx)(es:Cf)(t:TA):Prop:=
 ∀(pos:Pos) (pins:BM) (s:Qr) (σ:St) (H:Hp) (Q:EO),Inv X pins σ H s->t σ H Q->wpAny QA X.A Qlf (AP X pins σ Q) X.xe s
def PS(X:Cx)(st:Stmt)(t:TS):Prop:=
 ∀(pins:BM) (s:Qr) (σ:St) (H:Hp) (D:Ends),Inv X pins σ H s->t D σ H->wpAny QA X.A (exec st X.env) (SP X pins D) X.xe s
abbrev _root_.Cs:=List Stmt
def Wo(X:Cx)(st:Cs)(t:TS):Prop:=
 ∀(pins:BM) (s:Qr) (σ:St) (H:Hp) (D:Ends),Inv X pins σ H s->t D σ H->wpAny QA X.A (execs st X.env) (SP X pins D) X.xe s
noncomputable def gE{α:Type}{t:Sem α}{Q b:α->Shared->Prop}(h:wpAny M A t Q E s)(hQ:∀a s,Q a s->b a s):wpAny M A t b E s:=m3 h hQ λ_ _ x=>x
section
noncomputable def axx(i:Nat):TE:=λσ H Q=>∃v,σ[i]? = some Qax/\Q v H
noncomputable def tC(v:V):TE:=λ_ H Q=>Q v H
def jB{x:Str}{pos:Pos}(j:X.N[i]? = some x)(hv:tJ X.env.scope x)(hd:AD x:=by decide)(k9:AE x:=by decide):PE X Qal (axx i):=by
 intro pins s σ H Q I h;obtain⟨v,e,h⟩:=h;obtain⟨m,f,g⟩:=I.loc;obtain⟨u,r,l⟩:=g i x v j e hv;have fin:EP X pins σ Q u s:=⟨v,H,I,r,h⟩;obtain⟨a,hm⟩|⟨a,c,d,b⟩:=l
 .exact wpAny_Name (wpAny_loadName_local I.ok.kind a f hm fin) hd
 .obtain a|a:=a
  .exact wpAny_Name (wpAny_loadName_cell I.ok.kind a d b fin) hd
  .exact wpAny_Name (wpAny_loadName_free I.ok.kind a d b fin k9) hd
noncomputable def Wq{i j pos}:PE X Qjy (tC QaQ):=λ_ _ _ H _ I h=>wpAny_Constant_int ⟨.int i,H,I.tok _,⟨_,rfl⟩,h⟩
noncomputable def TU{b j pos}:PE X (.Constant (.bool b) j pos) (tC (.bl b)):=λ_ _ _ H _ I h=>Constant_bool ⟨.bl b,H,I,rfl,h⟩
noncomputable def aow{x j pos}:PE X QjL (tC Qbm):=λ_ _ _ H _ I h=>Calls.Constant_str ⟨.str x,H,I.tok _,⟨_,rfl⟩,h⟩
def Gl(X:Cx)(x:Str):Prop:=X.env.kindOf x=some .globalImplicit
def Gz{σ:St}{x:Str}{pos:Pos}{Q:Bi}(I:QE)(a:Qam)(hm:X.mg x=some u)(h:Q u s)
  (hd:AD x:=by decide):wpAny QA X.A (eval Qal X.env) Q E s:=
 Calls.Name_function_global I.ok.kind a (Calls.loadGlobal_global (I.ok.glob▸I.mod.glob.keeps I.bk) hm h) hd
def qL{σ:St}{x:Str}{pos:Pos}{Q:Bi}(I:QE)(b:Qam)(hm:X.mg x=none)(hv:bootBuiltins x=some u)(h:Q u s)
  (a:QhT:=by decide) (hd:AD x:=by decide):wpAny QA X.A (eval Qal X.env) Q E s:=by
 obtain⟨mb,h1,h2⟩:=I.mod.blt;exact Calls.Name_function_global I.ok.kind b (Calls.loadGlobal_builtin (I.ok.glob▸I.mod.glob.keeps I.bk) hm (I.ok.blt▸h1.keeps I.bk) ((h2 x a).trans hv) h) hd
def OV{x:Str}{pos:Pos}(a:Qam)(hm:X.mg x=some u)(r:QdA)(hd:AD x:=by decide):PE X Qal (tC v):=
 λ_ _ _ H _ I h=>Gz I a hm ⟨v,H,I,r,h⟩ hd
def ajr{x:Str}{pos:Pos}(b:Qam)(hm:X.mg x=none)(hv:bootBuiltins x=some u)(r:QdA)(a:QhT:=by decide)(hd:AD x:=by decide):PE X Qal (tC v):=
 λ_ _ _ H _ I h=>qL I b hm hv ⟨v,H,I,r,h⟩ a hd
variable{a b:Expr}{ta tb:TE}{pos:Pos}
noncomputable def tB(t:TE):TT:=λσ H Q=>t σ H λx H1=>∃c,x=.bl c/\Q c H1
def aox{e:Expr}{t:TE}(h:PE X e t)(he:∀whole,isTrue e X.env whole=(do let v ← whole;standAt e.pos;holding [v] (truthy v)):=by intro _;rfl):PT X e (tB t):=by
 intro pins s σ H Q I hw;refine isTrue_plain (gE (h pins s σ H _ I hw) λv s1 zz=>?_) (he _);obtain⟨x,H1,c,a,b⟩:=zz;obtain⟨d,rfl,q⟩:=b;cases a;exact wb ⟨H1,c,q⟩
variable{tA tB':TT}{rest:Cf}
noncomputable def axy(t u:TT):TT:=λσ H Q=>t σ H λc H1=>if c=true then u σ H1 Q else Q false H1
noncomputable def tOr(t u:TT):TT:=λσ H Q=>t σ H λc H1=>if c=true then Q true H1 else u σ H1 Q
noncomputable def axz(t:TT):TT:=λσ H Q=>t σ H λc H1=>Q (!c) H1
theorem ZP(b:PT X a tA):PW X (.BoolOp .And [a] pos) tA:=by
 intro d pins s σ H Q I h;refine isTrue_and (gE (b pins s σ H Q I h) λc s1 e=>?_);cases c with
 | true=>exact isTrue_and_nil e
 | false=>exact e
theorem aoy(b:PT X a tA):PW X (.BoolOp .Or [a] pos) tA:=by
 intro d pins s σ H Q I h;refine isTrue_or (gE (b pins s σ H Q I h) λc s1 e=>?_);cases c with
 | false=>exact isTrue_or_nil e
 | true=>exact e
theorem aeo(i:PT X a tA)(g:PW X (.BoolOp .And (b::rest) pos) tB'):PW X (.BoolOp .And (a::b::rest) pos) (axy tA tB'):=by
 intro f pins s σ H Q I h;refine isTrue_and (gE QdE λc s1 zz=>?_);obtain⟨H1,e,d⟩:=zz;cases c with
 | true=>exact g f pins s1 σ H1 Q e d
 | false=>exact⟨H1,e,d⟩
theorem atj(i:PT X a tA)(g:PW X (.BoolOp .Or (b::rest) pos) tB'):PW X (.BoolOp .Or (a::b::rest) pos) (tOr tA tB'):=by
 intro f pins s σ H Q I h;refine isTrue_or (gE QdE λc s1 zz=>?_);obtain⟨H1,e,d⟩:=zz;cases c with
 | true=>exact⟨H1,e,d⟩
 | false=>exact g f pins s1 σ H1 Q e d
noncomputable def aoz(b:PT X a tA):PT X (.UnaryOp .Not a pos) (axz tA):=λpins s σ H Q I h=>isTrue_not (b pins s σ H _ I h)
noncomputable def atk(ta tb:TE):TE:=λσ H Q=>ta σ H λx H1=>∃c,x=.bl c/\if c=true then tb σ H1 Q else Q (.bl false) H1
noncomputable def axA(ta tb:TE):TE:=λσ H Q=>ta σ H λx H1=>∃c,x=.bl c/\if c=true then Q Qbj H1 else tb σ H1 Q
noncomputable def aoA{op}{t:TE}(h:PE X a t):PE X (.BoolOp op [a] pos) t:=λpins s σ H Q I hw=>BoolOp_one (h pins s σ H Q I hw)
theorem aoB(i:Qcm)(g:PE X (.BoolOp .And (b::rest) pos) tb):PE X (.BoolOp .And (a::b::rest) pos) (atk ta tb):=by
 intro pins s σ H Q I h;refine BoolOp_and (gE QdE λv s1 zz=>?_);obtain⟨x,H1,e,f,d⟩:=zz;obtain⟨c,rfl,d⟩:=d;cases f;refine wb ?_;cases c with
 | true=>exact g pins s1 σ H1 Q e d
 | false=>exact⟨.bl _,H1,e,rfl,d⟩
theorem atl(i:Qcm)(g:PE X (.BoolOp .Or (b::rest) pos) tb):PE X (.BoolOp .Or (a::b::rest) pos) (axA ta tb):=by
 intro pins s σ H Q I h;refine BoolOp_or (gE QdE λv s1 zz=>?_);obtain⟨x,H1,e,f,d⟩:=zz;obtain⟨c,rfl,d⟩:=d;cases f;refine wb ?_;cases c with
 | false=>exact g pins s1 σ H1 Q e d
 | true=>exact⟨.bl true,H1,e,rfl,d⟩
noncomputable def tIf(t:TT)(ta tb:TE):TE:=λσ H Q=>t σ H λc H1=>if c=true then ta σ H1 Q else tb σ H1 Q
theorem aep{c:Expr}(g:PT X c tA)(j:Qcm)(i:PE X b tb):PE X (.IfExp c a b pos) (tIf tA ta tb):=by
 intro pins s σ H Q I h;refine wpAny_IfExp (gE Qhi λd s1 zz=>?_);obtain⟨H1,f,e⟩:=zz;cases d with
 | true=>exact j pins s1 σ H1 Q f e
 | false=>exact i pins s1 σ H1 Q f e
end
def oj(K:Frag)(H:Hp)(a:Addr)(xs:BY):Prop:=
 Rd H a QaY ∨
  ∃(o:Obj) (its:CS) (n:Nat),K.lookup a=some o/\o.cls=.type "list" /\ o.dict=none/\o.data=.seq its n/\its.size<=sizeLine/\Vals xs its.toList
def Dz(K:Frag)(H:Hp)(a:Addr)(xs:BY):Prop:=
 Rd H a Qbk ∨
  ∃(o:Obj) (its:CS) (n:Nat),K.lookup a=some o/\o.cls=.type "tuple" /\ o.data=.seq its n/\its.size<=sizeLine/\Vals xs its.toList
noncomputable def axB:Value->Option V
 | .none=>some .non
 | .bool b=>some (.bl b)
 | .int i _=>some QaQ
 | .str x _ => some Qbm
 | .bytes b _=>some (.ZO b)
 | .float b _=>some (.flt b)
 | .ref a=>some Qao
 | .type n=>some (.ty n)
 | _=>none
theorem RelV.abs{x:V}(r:RelV x u):axB u=some x:=by
 cases x with
 | non=>cases r;rfl
 | bl _=>cases r;rfl
 | int _=>obtain⟨t,rfl⟩:=r;rfl
 | str _=>obtain⟨t,rfl⟩:=r;rfl
 | ZO _=>obtain⟨t,rfl⟩:=r;rfl
 | flt _=>obtain⟨t,rfl⟩:=r;rfl
 | ref _=>cases r;rfl
 | ty _=>cases r;rfl
theorem RelV.inj{x y:V}(r:RelV x u)(q:QcS):x=y:=k4 (r.abs.symm.trans q.abs)
theorem Vals.inj{ys:BY}(h:Qdr)(q:Vals ys us):xs=ys:=by
 induction h generalizing ys with
 | nil=>cases q;rfl
 | cons r _ i=>cases q with
  | cons a t'=>rw[r.inj a,i t']
variable{σ:St}{ys:BY}{K:Frag}
theorem oj.of(h:H a=some QaY):oj K H a xs:=.inl (.inl h)
theorem Dz.of(h:H a=some Qbk):Dz K H a xs:=.inl (.inl h)
theorem Inv.list(I:QE)(h:oj X.K H a xs):∃its:B2,Vals xs its/\PlainL s.heap a its.toArray/\xs.length<=sizeLine:=by
 obtain h|⟨o,its,n,b,c,hd,hs,hz,r⟩:=h
 .obtain⟨z,its,n,r,e⟩:=h.ok I.gD;exact⟨its,r,⟨_,n,e,rfl,rfl,rfl⟩,z⟩
 .refine⟨ _,r,⟨o,n,I.Gy a o b,c,hd,‹_› ⟩,?_⟩;have e:=r.length;grind
theorem Inv.tuple(I:QE)(h:Dz X.K H a xs):∃its:B2,Vals xs its/\IsTup s.heap a its.toArray/\xs.length<=sizeLine:=by
 obtain h|⟨o,its,n,b,c,hs,hz,r⟩:=h
 .obtain⟨z,its,r,p⟩:=h.ok I.gD;exact⟨its,r,p,z⟩
 .refine⟨ _,r,⟨o,I.Gy a o b,c,n,‹_› ⟩,?_⟩;have e:=r.length;grind
theorem Inv.Hs(I:QE)(h:oj X.K H a xs)(h':oj X.K H a ys):xs=ys:=by
 obtain⟨its,r,⟨o,n,e,_,_,d⟩,_⟩:=I.list h;obtain⟨f,c,⟨o',g,b,_,_,d'⟩,_⟩:=I.list h';rw[e]at b;cases b;rw[d]at d';injection d' with d1 _;have:its=f:=by simp_all
 subst this;exact r.inj c
theorem Inv.abR(I:QE)(h:Dz X.K H a xs)(h':Dz X.K H a ys):xs=ys:=by
 obtain⟨its,r,⟨o,e,_,n,d⟩,_⟩:=I.tuple h;obtain⟨f,c,⟨o',b,_,g,d'⟩,_⟩:=I.tuple h';rw[e]at b;cases b;rw[d]at d';injection d' with d1 _;have:its=f:=by simp_all
 subst this;exact r.inj c
noncomputable abbrev Cx.l3(X:Cx)(E:Bi):Cx:={X with xe:=E}
abbrev Cx.nc(X:Cx):Cx:=X.l3 λ_ _=>False
theorem Cx.Ok.l3(ok:X.Ok)(E:Bi):(X.l3 E).Ok:=
 ⟨ok.mod,ok.kind,ok.glob,ok.blt,ok.above,ok.inj,ok.has,ok.A1,ok.hd,ok.frames,ok.HA,ok.Pz,ok.bs,ok.p5,ok.FA,ok.IH,ok.FZ,ok.u7⟩
theorem Cx.Ok.xx(ok:(X.l3 E).Ok):X.Ok:=
 ⟨ok.mod,ok.kind,ok.glob,ok.blt,ok.above,ok.inj,ok.has,ok.A1,ok.hd,ok.frames,ok.HA,ok.Pz,ok.bs,ok.p5,ok.FA,ok.IH,ok.FZ,ok.u7⟩
theorem Inv.l3(I:QE)(E:Bi):Inv (X.l3 E) pins σ H s:=⟨I.ok.l3 E,I.os,I.bare,I.base,I.loc,I.cell,I.free,I.xu,I.pin,I.gD,I.len⟩
theorem Inv.xx(I:Inv (X.l3 E) pins σ H s):Inv X pins σ H s:=⟨I.ok.xx,I.os,I.bare,I.base,I.loc,I.cell,I.free,I.xu,I.pin,I.gD,I.len⟩
theorem SP.xx{D:Ends}{f:Flow}{s':Qr}(h:SP (X.l3 E) pins D f s'):SP X pins D f s':=by
 cases f with
 | next=>obtain⟨σ',H',I,q⟩:=h;exact⟨σ',H',I.xx,q⟩
 | brk=>obtain⟨σ',H',I,q⟩:=h;exact⟨σ',H',I.xx,q⟩
 | cont=>obtain⟨σ',H',I,q⟩:=h;exact⟨σ',H',I.xx,q⟩
 | ret u=>obtain⟨v,σ',H',I,r,q⟩:=h;exact⟨v,σ',H',I.xx,r,q⟩
theorem Wo.nc{st:Cs}{t:TS}(h:Wo X.nc st t):Wo X st t:=λpins s σ H D I hw=>
 m3 (h pins s σ H D (I.l3 _) hw) (λ_ _ q=>q.xx) λ_ _ z=>False.elim z
section
variable{st:Stmt}{rest:Cs}{t u:TS}{e:Expr}{te:TE}{pos:Pos}
noncomputable def atm:TS:=λD σ H=>D.nx σ H
noncomputable def axC(t u:TS):TS:=λD σ H=>t {D with nx:=u D} σ H
noncomputable def ajs:Wo X [] atm:=λ_ _ σ H _ I h=>wpAny_execs_nil ⟨σ,H,I,h⟩
theorem aeq(h1:PS X st t)(h2:Wo X rest u):Wo X (st::rest) (axC t u):=by
 intro pins s σ H D I h;refine wpAny_execs_cons (gE (h1 pins s σ H _ I h) λf s1 q=>?_);cases f with
 | next=>
  obtain⟨σ',H',a,q⟩:=q;exact h2 pins s1 σ' H' D a q
 | ret v=>exact q
 | brk=>exact q
 | cont=>exact q
noncomputable def aoC:TS:=λD σ H=>D.bk σ H
noncomputable def atn:TS:=λD σ H=>D.ct σ H
noncomputable def aer:PS X (.Break pos) aoC:=λ_ _ σ H _ I h=>wpAny_Break ⟨σ,H,I,h⟩
noncomputable def Tz:PS X (.Continue pos) atn:=λ_ _ σ H _ I h=>wpAny_Continue ⟨σ,H,I,h⟩
theorem Inv.quiet(I:QE):interactive X.env=false:=by simp[interactive,I.ok.kind]
noncomputable def ato(te:TE):TS:=λD σ H=>te σ H λ_ H1=>D.nx σ H1
def yT(he:QbY)(hs:QiD:=by rfl):PS X (.Expr e pos) (ato te):=λpins s σ H D I h=>wpAny_Expr_any (gE QbI λv s1 ⟨x,H1,b,c,a⟩=>⟨σ,H1,b,a⟩) I.quiet hs
noncomputable def axD(te:TE):TS:=λD σ H=>te σ H D.rt
def aes(he:QbY):PS X QjN (axD te):=λpins s σ H D I h=>wpAny_Return_some (gE QbI λv s1 ⟨x,H1,c,a,b⟩=>⟨x,σ,H1,c,a,b⟩)
noncomputable def axE(c:TT)(t u:TS):TS:=λD σ H=>c σ H λb H1=>if b=true then t D σ H1 else u D σ H1
theorem TM{c:Expr}{a b:Cs}{e:TT}(i:PT X c e)(k:Wo X a t)(j:Wo X b u):PS X (.If c a b pos) (axE e t u):=by
 intro pins s σ H D I h;refine wpAny_If (gE QdE λd s1 zz=>?_);obtain⟨H1,g,f⟩:=zz;cases d with
 | true=>exact k pins s1 σ H1 D g f
 | false=>exact j pins s1 σ H1 D g f
end
abbrev TG:=V->St->Hp->(St->Hp->Prop)->Prop
abbrev wt:=BY->St->Hp->(St->Hp->Prop)->Prop
def PG(X:Cx)(target:Expr)(t:TG):Prop:=
 ∀(pins:BM) (s:Qr) (σ:St) (H:Hp) (v:V) (u:Value) (Q:St->Hp->Prop),Inv X pins σ H s->RelV v u->t v σ H Q →
  wpAny QA X.A (assign target X.env u) (λ_ s'=>∃σ' H',Inv X pins σ' H' s'/\Q σ' H') X.xe s
def LO(X:Cx)(ts:Cf)(t:wt):Prop:=
 ∀(pins:BM) (s:Qr) (σ:St) (H:Hp) (vs:BY) (us:B2) (Q:St->Hp->Prop),Inv X pins σ H s->Vals vs us->t vs σ H Q →
  wpAny QA X.A (assignInOrder ((assignEach ts X.env).map (·.2)) us) (λ_ s'=>∃σ' H',Inv X pins σ' H' s'/\Q σ' H') X.xe s
abbrev Nw:=V->V->V->Hp->(Hp->Prop)->Prop
def Sk(X:Cx)(t:Nw):Prop:=
 ∀(pins:BM) (s:Qr) (σ:St) (H:Hp) (o i v:V) (a b u:Value) (Q:Hp->Prop),Inv X pins σ H s->RelV o a->RelV i b->RelV v u->t o i v H Q →
  wpAny QA X.A (setItem a b u) (λ_ s'=>∃H',Inv X pins σ H' s'/\Q H') X.xe s
abbrev LM:=V->V->Hp->VK->Prop
def PIp(X:Cx)(op:Operator)(t:LM):Prop:=
 ∀(pins:BM) (s:Qr) (σ:St) (H:Hp) (x y:V) (v u:Value) (Q:VK),Inv X pins σ H s->RelV x v->RelV y u->t x y H Q →
  wpAny QA X.A (inplaceOp op v u) Qa5 X.xe s
variable{pos:Pos}
noncomputable def Nh(i:Nat):TG:=λv σ H Q=>Q (σ.set i Qax) H
def uX{x:Str}(b:QbX)(hi:X.N[i]? = some x)(a:Qda)(hf:AM X x:=by first|exact .inl rfl|exact .inr rfl|assumption):PG X Qal (Nh i):=λpins s σ H v u Q I r h=>wpAny_assign_Name (Hr I b hi a r (λs' c=>⟨_,H,c,h⟩) hf)
noncomputable def Sa:wt:=λvs σ H Q=>vs=[]/\Q σ H
noncomputable def OA(t:TG)(u:wt):wt:=λvs σ H Q=>∃v r,vs=v::r/\t v σ H λσ' H'=>u r σ' H' Q
def ajt:LO X [] Sa:=by
 intro pins s σ H vs us Q I r h;obtain⟨e,h⟩:=h;exact assignInOrder_nil ⟨σ,H,I,h⟩
variable{es:Cf}
def TF{e:Expr}{t:TG}{u:wt}(h1:PG X e t)(h2:LO X es u)
  (hs:(assignEach Qae X.env).map (·.2)=assign e X.env::(assignEach es X.env).map (·.2):=by rfl):LO X Qae (OA t u):=by
 intro pins s σ H vs us Q I r h;obtain⟨v,f,e1,h⟩:=h;subst e1;cases r with
 | cons r b=>
  rw[hs];refine assignInOrder_cons (gE (h1 pins s σ H _ _ _ I r h) λ_ s1 zz=>?_);obtain⟨a,H1,d,c⟩:=zz;exact h2 pins s1 a H1 _ _ Q d b c
noncomputable def RY(K:Frag)(n:Nat)(t:wt):TG:=λv σ H Q=>∃a xs,v=.ref a/\Dz K H a xs/\xs.length=n/\t xs σ H Q
variable{k:Nat}
def aoF{t:wt}{n:Nat}(m:QaC)(h:LO X es t)
  (j:(assignEach es X.env).length=n:=by rfl) (d:(assignEach es X.env).findIdx? (·.1)=none:=by rfl):PG X (.Tuple es k pos) (RY X.K n t):=by
 intro pins s σ H v u Q I r hw;obtain⟨a,xs,e1,i,l,hw⟩:=hw;subst e1;cases r;obtain⟨its,c,g,hz⟩:=I.tuple i;refine assign_Tuple_tuple (I.ok.hd m) g (by simp[j,← l,c.length]) d λh' f=>?_;have p:=I.kept (t':=s.toks) λb o e=>f b o Qf9 e;exact h pins _ σ H xs _ Q p (‹_›) hw
noncomputable def axF(to a:TE)(t:Nw):TG:=λv σ H Q=>to σ H λo H1=>a σ H1 λi H2=>t o i v H2 λb=>Q σ b
def aev{o i:Expr}{to a:TE}{t:Nw}(g:PE X o to)(hi:PE X i a)(hs:Sk X t)
  (n:∀v,assign (.Subscript o i pos) X.env v=(do
   let U ← holding [v] (eval o X.env)
   let iv ← holding [v,U] (eval i X.env)
   standAt pos
   holding [v,U,iv] (setItem U iv v)
   release [v,U,iv] []):=by intro _;rfl):PG X (.Subscript o i pos) (axF to a t):=by
 intro pins s σ H v u Q I r h;refine hY (zd (gE Qhi λU s1 zz=>?_));obtain⟨x,H1,l,c,f⟩:=zz;refine hY (zd (gE (hi pins s1 σ H1 _ l f) λiv s2 zz=>?_));obtain⟨y,H2,k,b,e⟩:=zz;refine hY (FR (hY (zd (gE (hs pins s2 σ H2 x y v U iv u _ k c b r e) λ_ s3 zz=>?_))));obtain⟨m,j,d⟩:=zz;exact wpAny_release ⟨σ,m,j,d⟩
noncomputable def RU(te:TE)(g:TG):TS:=λD σ H=>te σ H λx H1=>g x σ H1 D.nx
variable{tg:Expr}{te:TE}
def aew{e:Expr}{g:TG}(he:QbY)(c:PG X tg g)(hs:swapsWithSole [tg] e pos.line X.env=pure false:=by rfl)(hw:swappedStores [tg] e X.env=pure none:=by rfl)
  (h1:(assignEach [tg] X.env).map (·.2)=[assign tg X.env]:=by rfl):PS X (.Assign [tg] e pos) (RU te g):=by
 intro pins s σ H D I h;refine wpAny_Assign_stores (gE QbI λv s1 zz=>?_) hs hw;obtain⟨x,H1,d,a,b⟩:=zz;rw[h1];exact gE (c pins s1 σ H1 x v _ d a b) λ_ s2 q=>q
def aex{x:Str}{e:Expr}{pos':Pos}(d:QbX)(hi:X.N[i]? = some x)(c:Qda)(he:QbY)(hs:Qfh:=by rfl)(hf:AM X x:=by first|exact .inl rfl|exact .inr rfl|assumption) :
  PS X Qi6 (RU te (Nh i)):=by
 intro pins s σ H D I h;refine wpAny_Assign_Name (gE QbI λv s1 zz=>?_) hs;obtain⟨y,H1,g,a,b⟩:=zz;exact Hr g d hi c a (λs2 f=>⟨_,H1,f,b⟩) hf
noncomputable def axG(i:Nat)(te:TE)(a:LM):TS:=λD σ H=>∃x,σ[i]? = some (some x)/\te σ H λy H1=>a x y H1 λz H2=>D.nx (σ.set i (some z)) H2
theorem aoG{x:Str}{e:Expr}{op:Operator}{j:LM}{pos':Pos}(G:QbX)(hi:X.N[i]? = some x)(g:Qda)(he:QbY)(B:PIp X op j)(hf:AM X x:=by first|exact .inl rfl|exact .inr rfl|assumption) :
  PS X (.AugAssign Qb9 op e pos) (axG i te j):=by
 intro pins s σ H D I h;obtain⟨v,e1,h⟩:=h;obtain⟨m,C,E⟩:=I.loc;have f:tJ X.env.scope x:=by obtain k|k:=g;exact .inl k;exact .inr (.inl k)
 obtain⟨u,r,l⟩:=E i x v hi e1 f;refine wpAny_AugAssign_Name ?_;have go:wpAny QA X.A QeO (λw d=>wpAny QA X.A (inplaceOp op u w) (λr b=>wpAny QA X.A (storeName X.env x r) (λ_=>SP X pins D .next) X.xe b) X.xe d) X.xe s:=by
  refine gE QbI λw s1 zz=>?_;obtain⟨y,H1,L,p,t⟩:=zz;refine gE (B pins s1 σ H1 v y u w _ L r p t) λz s2 zz=>?_;obtain⟨M,H2,K,o,q⟩:=zz;exact Hr K G hi g o (λs3 J=>⟨_,H2,J,q⟩) hf
 obtain⟨a,hm⟩|⟨a,c,F,n⟩:=l
 .exact wpAny_loadName_local I.ok.kind a C hm go
 .obtain a|a:=a
  .exact wpAny_loadName_cell I.ok.kind a F n go
  .obtain k|k:=g
   .have:X.env.scope.names.lookup x=some _:=a;simp_all
   .have:X.env.scope.names.lookup x=some _:=a;simp_all
noncomputable def ipI(f:Int->Int->Int):LM:=λx y H Q=>∃i j,x=.int i/\y=.int j/\Q (.int (f i j)) H
def aoH:PIp X .Add (ipI λi j=>i+j):=by
 intro pins s σ H x y v u Q I b a h;obtain⟨i,j,e1,e2,q⟩:=h;subst e1;subst e2;obtain⟨t,rfl⟩:=b;obtain⟨t',rfl⟩:=a;exact iadd_int ⟨.int _,H,I.tok _,⟨_,rfl⟩,q⟩
noncomputable def aoI(c:TT)(tb:TS):TS:=λD σ H=>∃W:Nat->St->Hp->Prop,(∃m,W m σ H)/\∀m σ H,W m σ H →
 c σ H λb H1=>if b=true then ∃N:St->Hp->Prop,(∀σ' H',N σ' H'->∃a,a<m/\W a σ' H')/\tb {D with nx:=N,ct:=N,bk:=D.nx} σ H1 else D.nx σ H1
variable{c:Expr}
theorem aey{body:Cs}{o:TT}{tb:TS}(p:QgS)(u:PT X c o)(x:Wo X body tb):PS X (.While c body [] pos) (aoI o tb):=by
 intro pins s σ H D I h;obtain⟨W,⟨m0,w0⟩,turn⟩:=h;refine wpAny_While (codeAny_whileLoop (λn s'=>∃σ' H',Inv X pins σ' H' s'/\W n σ' H') ?_ m0 ⟨σ,H,I,w0⟩);rintro n s1 ⟨d,H1,y,t⟩;refine vy p (gE (u pins s1 d H1 _ y (turn n d H1 t)) λb s2 zz=>?_);obtain⟨H2,r,i⟩:=zz;cases b with
 | true=>
  obtain⟨N,q,i⟩:=i;refine vy p (gE (x pins s2 d H2 _ r i) λf s3 g=>?_);cases f with
  | next=>
   obtain⟨a,e,m,k⟩:=g;obtain⟨l,hm,j⟩:=q a e k;exact⟨l,hm,a,e,m,j⟩
  | cont=>
   obtain⟨a,e,m,k⟩:=g;obtain⟨l,hm,j⟩:=q a e k;exact⟨l,hm,a,e,m,j⟩
  | brk=>exact g
  | ret v=>exact g
 | false=>
  exact wpAny_execs_nil ⟨d,H2,r,i⟩
structure It where
 go:Nat->Hp->Prop
 ph:Nat->Hp->V->Hp->Prop
 stop:Nat->Hp->Prop
def qf(X:Cx)(pins:BM)(H:Hp)(b:Addr):Prop:=
 H b=none/\b≠X.env.locals/\b∉X.fs/\QiI/\(∀x c,X.env.cells.lookup x=some c->c≠b)/\∀p∈X.pn++pins,p.1≠b
theorem Inv.Lx(I:QE)(a:s.heap.objs.size<=b)(f:H' b=none):qf X pins H' b:=by
 refine⟨f,Nat.ne_of_gt (l6 I.lt a),I.axr a,.inr (kq I.sz a),λx c e z=>?_,λp d z=>?_⟩
 .obtain⟨v,q⟩:=I.cell x c e;exact absurd (l6 q.lt (z▸a)) (tq _)
 .exact absurd (l6 (ij (I.pin p d).1) (z▸a)) (tq _)
structure Turn(P:QaE)(w:World)(K:Frag)(tg:Expr)(J:It)(fp:BS)(it:Addr)(tn:QhK):Prop where
 mem:it∈fp
 obj:∀i h,tn i h->∀b∈fp,∃o,h.get? b=some o/\∀v,o.data ≠ .cell v
 keep:∀i h h',tn i h->(∀b∈fp,∀o,h.get? b=some o->h'.get? b=some o)->tn i h'
 item:∀(X:Cx),X.prog=P->X.w=w->X.K=K->X.calm=true->∀(i:Nat) (pins:BM) (s:Qr) (σ:St) (H:Hp) (E:Bi),Inv X pins σ H s->(∀b∈fp,qf X pins H b)->tn i s.heap->J.go i H →
  wpAny Qdn X.A (pyNext QbB) (λr s1=>∃u,r=some u ∧
   wpAny Qdn X.A (letOwnedTupleGo tg QbB u) (λ_ s2=>∃x H',Inv X pins σ H' s2/\RelV x u/\J.ph i H x H'/\tn (i+1) s2.heap/\∀b∈fp,H' b=none) E s1) E s
 done:∀(X:Cx),X.prog=P->X.w=w->X.K=K->X.calm=true->∀(i:Nat) (pins:BM) (s:Qr) (σ:St) (H:Hp) (E:Bi),Inv X pins σ H s->(∀b∈fp,qf X pins H b)->tn i s.heap->J.stop i H →
  wpAny Qdn X.A (pyNext QbB) (λr s1=>r=none/\Inv X pins σ H s1) E s
 self:∀(A:QaF) (i:Nat) (s:Qr) (Q:Bi) (E:Bi),tn i s.heap->Q QbB s->wpAny Qdn A (pyIter QbB) Q E s
abbrev TI:=St->Hp->(It->Hp->Prop)->Prop
def PIE(X:Cx)(pins:BM)(σ:St)(tg:Expr)(R:QfY)(a:Value)(s2:Qr):Prop:=
 ∃(it:Addr) (fp:BS) (tn:QhK) (J:It) (H':Hp),a=.ref it/\Inv X pins σ H' s2/\Turn X.prog X.w X.K tg J fp it tn/\tn 0 s2.heap/\(∀b∈fp,qf X pins H' b)/\R J H'
def PI(X:Cx)(tg iter:Expr)(a:TI):Prop:=
 ∀(pins:BM) (s:Qr) (σ:St) (H:Hp) (R:QfY),Inv X pins σ H s->a σ H R →
  wpAny QA X.A (eval iter X.env) (λv s1=>wpAny QA X.A (pyIter v) (PIE X pins σ tg R) X.xe s1) X.xe s
def ZQ{it:Addr}{o:Obj}{n:Qbn}{vs:CS}(a:s.heap.get? it=some o)(c:o.cls=.type n)(hd:o.data=.fields vs)
  (b:["enumerate","zip","dict_itemiterator","dict_reverseitemiterator","odict_iterator","itertools.zip_longest","itertools.pairwise"].contains n=false) (hQ:Q () s):wpAny M A (letOwnedTupleGo tg QbB u) Q E s:=by
 cases tg<;>first
  | exact kn hQ
  | (cases u<;>first
    | exact kn hQ
    | (refine hY (wpAny_load a ?_)
       rw[c,hd];show wpAny M A (if (["enumerate","zip","dict_itemiterator","dict_reverseitemiterator","odict_iterator","itertools.zip_longest","itertools.pairwise"].contains n&&vs[0]? == some _)=true then _ else _) Q E s;rw[cq (by intro h;rw[b]at h;cases h)];exact kn hQ))
noncomputable def Itl(K:Frag)(a:Addr):It:=
 ⟨λi H=>∃xs x,oj K H a xs/\xs[i]? = some x,λi H x H'=>H'=H/\∀xs,oj K H a xs->xs[i]? = some x,λi H=>∃xs,oj K H a xs/\xs.length<=i⟩
noncomputable def Itt(K:Frag)(a:Addr):It:=
 ⟨λi H=>∃xs x,Dz K H a xs/\xs[i]? = some x,λi H x H'=>H'=H/\∀xs,Dz K H a xs->xs[i]? = some x,λi H=>∃xs,Dz K H a xs/\xs.length<=i⟩
noncomputable def Hk(lo:Int)(n:Nat):It:=⟨λi _=>i<n,λi H x H'=>H'=H/\x=.int (lo+i),λi _=>n<=i⟩
theorem abT(a it:Addr):Turn P w K tg (Itl K a) [it] it (λi h=>h.IsListIter it a i) where
 mem:=by simp
 obj:=λi h st b f=>by
  have e:b=it:=by simpa using f
  subst e;obtain⟨o,e,c,d⟩:=st;simp_all
 keep:=λi h h' st k=>st.at λo e=>k it Wp o e
 item:=by
  intro X n hw q v i pins s σ H E I hf st m;subst n hw q;obtain⟨xs,x,g,l⟩:=m;obtain⟨its,j,p,hz⟩:=I.list g;obtain⟨u,C,A⟩:=j.get l;obtain⟨f0,f1,f2,t,f4,r⟩:=hf it Wp;refine wpAny_pyNext_list_item st p.isList (x:=u) (by simpa using C) λh' y z=>?_;have F:=I.turned (t':=s.toks) (λb o f e=>(z.2 b f).trans e) f0 f1 t f4 r;obtain⟨o,e,c,d⟩:=id y;exact⟨u,rfl,ZQ (s:={s with heap:=h'}) e c d Wl ⟨x,H,F,A,⟨rfl,λys B=>by rw[I.Hs B g];exact l⟩,y,λb f=>(hf b f).1⟩⟩
 done:=by
  intro X n hw q v i pins s σ H E I hf st m;subst n hw q;obtain⟨xs,g,l⟩:=m;obtain⟨its,j,p,hz⟩:=I.list g;obtain⟨f0,f1,f2,t,f4,r⟩:=hf it Wp;have G:=j.length;exact wpAny_pyNext_list_end (I.ok.hd v) st p.isList W9 λh' D=>⟨rfl,I.turned (t':=s.toks) (λb o f e=>D b o f e) f0 f1 t f4 r⟩
 self:=λ_ _ _ _ _ st h=>wpAny_pyIter_listiter st h
theorem Wr(a it:Addr):Turn P w K tg (Itt K a) [it] it (λi h=>h.IsTupleIter it a i) where
 mem:=by simp
 obj:=λi h st b f=>by
  have e:b=it:=by simpa using f
  subst e;obtain⟨o,e,c,d⟩:=st;simp_all
 keep:=λi h h' st k=>st.at λo e=>k it Wp o e
 item:=by
  intro X n hw q v i pins s σ H E I hf st m;subst n hw q;obtain⟨xs,x,g,l⟩:=m;obtain⟨its,j,p,hz⟩:=I.tuple g;obtain⟨u,C,A⟩:=j.get l;obtain⟨f0,f1,f2,t,f4,r⟩:=hf it Wp;refine wpAny_pyNext_tuple_item st (p) (x:=u) (by simpa using C) λh' y z=>?_;have F:=I.turned (t':=s.toks) (λb o f e=>(z.2 b f).trans e) f0 f1 t f4 r;obtain⟨o,e,c,d⟩:=id y;exact⟨u,rfl,ZQ (s:={s with heap:=h'}) e c d Wl ⟨x,H,F,A,⟨rfl,λys B=>by rw[I.abR B g];exact l⟩,y,λb f=>(hf b f).1⟩⟩
 done:=by
  intro X n hw q v i pins s σ H E I hf st m;subst n hw q;obtain⟨xs,g,l⟩:=m;obtain⟨its,j,p,hz⟩:=I.tuple g;obtain⟨f0,f1,f2,t,f4,r⟩:=hf it Wp;have G:=j.length;exact wpAny_pyNext_tuple_end (I.ok.hd v) st (p) W9 λh' D=>⟨rfl,I.turned (t':=s.toks) (λb o f e=>D b o f e) f0 f1 t f4 r⟩
 self:=λ_ _ _ _ _ st h=>wpAny_pyIter_tupleiter st h
theorem Ws(it:Addr)(lo:Int)(n:Nat):Turn P w K tg (Hk lo n) [it] it (λi h=>IsRangeIter h it (lo+(i:Nat)*1) ((n:Int)-(i:Nat)) 1) where
 mem:=by simp
 obj:=λi h st b a=>by simp_all
 keep:=λi h h' st k=>k it Wp _ st
 item:=by
  intro X j hw l d i pins s σ H E I hf st c;subst j hw l;obtain⟨f0,f1,f2,g,f4,f⟩:=hf it Wp;have W:=Walks.range (prog:=X.prog) (w:=X.w) (I.ok.hd d) it lo 1 n;refine W.item i s _ _ c st λv h' tk hv m kk=>?_;obtain⟨t,rfl⟩:=hv;have q:Inv X pins σ H {s with heap:=h',toks:=tk}:=I.turned (λb o a e=>kk b o (by simpa using a) e) f0 f1 g f4 f;refine⟨_,rfl,ZQ m rfl rfl Wl ⟨.int (lo+i),H,q,⟨t,?_⟩,⟨rfl,rfl⟩,m,λb a=>(hf b a).1⟩⟩;rw[Int.mul_one]
 done:=by
  intro X j hw l d i pins s σ H E I hf st c;obtain⟨f0,f1,f2,g,f4,f⟩:=hf it Wp;exact wpAny_pyNext_range_end (I.ok.hd d) st (by have:n<=i:=c;lia) λh' p=>⟨rfl,I.turned (p) f0 f1 g f4 f⟩
 self:=λ_ _ _ _ _ st h=>wpAny_pyIter_rangeiter st h
def atu(K:Frag)(tl:TE):TI:=λσ H R=>tl σ H λx H1=>∃a,x=.ref a/\(∃xs,oj K H1 a xs)/\R (Itl K a) H1
def axH(K:Frag)(tl:TE):TI:=λσ H R=>tl σ H λx H1=>∃a,x=.ref a/\(∃xs,Dz K H1 a xs)/\R (Itt K a) H1
def ZR{l:Expr}{tl:TE}(i:PE X l tl):PI X tg l (atu X.K tl):=by
 intro pins s σ H R I h;refine gE QdE λv s1 zz=>?_;obtain⟨x,H1,c,d,f⟩:=zz;obtain⟨a,e,⟨xs,g⟩,q⟩:=f;subst e;cases d;obtain⟨its,k,p,hz⟩:=c.list g;refine wpAny_pyIter_list p.isList ?_;refine⟨ _,_,_,_,H1,rfl,c.kept λb o e=>ka _ e,abT a _,⟨_,lG _ rfl,rfl,rfl⟩,λb j=>?_,q⟩;have e:=by simpa using j
 subst e;exact c.Lx (hW _) Qhw
def aoJ{l:Expr}{tl:TE}(i:PE X l tl):PI X tg l (axH X.K tl):=by
 intro pins s σ H R I h;refine gE QdE λv s1 zz=>?_;obtain⟨x,H1,c,d,f⟩:=zz;obtain⟨a,e,⟨xs,g⟩,q⟩:=f;subst e;cases d;obtain⟨its,k,p,hz⟩:=c.tuple g;refine wpAny_pyIter_tuple (p) ?_;refine⟨ _,_,_,_,H1,rfl,c.kept λb o e=>ka _ e,Wr a _,⟨_,lG _ rfl,rfl,rfl⟩,λb j=>?_,q⟩;have e:=by simpa using j
 subst e;exact c.Lx (hW _) Qhw
theorem TH{R:QfY}{lo hi:Int}{t u v:Tok}{tk:Nat}(I:QE)(h1:-(2 ^ 62)<=lo)(h2:lo<2 ^ 62)(d:-(2 ^ 62)<=hi)(c:hi<2 ^ 62)
  (q:R (Hk lo (hi-lo).toNat) H):wpAny QA X.A (pyIter Qex) (PIE X pins σ tg R) E {s with heap:=s.heap.push {cls:=.type "range",data:=.fields #[.int lo t,.int hi u,.int 1 v]},toks:=tk}:=by
 refine wpAny_pyIter_range (IsRange.new ..) (small_one h1 h2 d c) ?_;have a:Inv X pins σ H {s with heap:=s.heap.push {cls:=.type "range",data:=.fields #[.int lo t,.int hi u,.int 1 v]},toks:=tk}:=I.kept λb o e=>ka _ e;refine⟨ _,_,_,_,H,rfl,
  a.kept λb o e=>ka _ e,Ws _ lo _,?_,λb f=>?_,q⟩
 .have e1:lo+((0:Nat))*1=lo:=by simp
  have e2:(((hi-lo).toNat))-((0:Nat))=Builtin.Range.rangeSize lo hi 1:=by rw[rangeSize_one];grind
  rw[e1,e2];exact lG _ rfl
 .have e:b=(s.heap.push {cls:=.type "range",data:=.fields #[.int lo t,.int hi u,.int 1 v]}).objs.size:=by simp_all
  subst e;exact a.Lx (hW _) (a.gD.fresh (hW _))
def atv(ta:TA):TI:=λσ H R=>ta σ H λvs H1=>∃j:Int,vs=[.int j] /\ -(2 ^ 62)<=j/\j<2 ^ 62/\R (Hk 0 j.toNat) H1
def atw(ta:TA):TI:=λσ H R=>ta σ H λvs H1=>∃i j:Int,vs=[.int i,.int j]/\(-(2 ^ 62)<=i/\i<2 ^ 62 /\ -(2 ^ 62)<=j/\j<2 ^ 62)/\R (Hk i (j-i).toNat) H1
variable{p:Pos}
theorem Ni{a:Expr}{ta:TA}(g:QdZ)(hm:QdP)(i:PA X [a] ta)(hs:starEach [a] X.env=[(false,eval a X.env)]:=by rfl):PI X tg (.Call (.Name "range" p) [a] [] pos) (atv ta):=by
 intro pins s σ H R I h;refine Call_ (qL I g hm boot_range (we (gE Qjp λus s1 zz=>?_) hs rfl));obtain⟨vs,H1,k,d,b⟩:=zz;obtain⟨j,e,b,f,q⟩:=b;subst e;cases d with
 | cons r c=>
  cases c;obtain⟨t,rfl⟩:=r;exact call_range_1 (TH k We We b f W7)
theorem abU{a b:Expr}{ta:TA}(n:QdZ)(hm:QdP)(o:PA X [a,b] ta)(hs:AR X a b:=by rfl)(u:starEach [b] X.env=[(false,eval b X.env)]:=by rfl) :
  PI X tg (.Call (.Name "range" p) [a,b] [] pos) (atw ta):=by
 intro pins s σ H R I h;refine Call_ (qL I n hm boot_range (we (gE (o pos pins s σ H _ I h) λus s1 zz=>?_) W7 (by rw[u];rfl)));obtain⟨vs,H1,v,f,d⟩:=zz;obtain⟨i,j,e,⟨d,m,l,k⟩,q⟩:=d;subst e;cases f with
 | cons r c=>
  cases c with
  | cons g c=>
   cases c;obtain⟨t,rfl⟩:=r;obtain⟨t',rfl⟩:=g;exact call_range_2 (TH v d m l k q)
abbrev _root_.D2:=Nat->Nat
noncomputable def axI(c:TI)(g:TG)(tb:TS):TS:=λD σ H=>c σ H λJ H1=>∃W:Nat->Nat->St->Hp->Prop,(∃m,W 0 m σ H1)/\∀i m σ H,W i m σ H →
 (J.stop i H/\D.nx σ H)\/(J.go i H/\∃N:St->Hp->Prop,(∀σ' H',N σ' H'->∃b,b<m/\W (i+1) b σ' H')/\∀x H',J.ph i H x H'->g x σ H' λa H2=>tb {D with nx:=N,ct:=N,bk:=D.nx} a H2)
noncomputable def Ht(fp:BS)(h:Heap):BM:=fp.filterMap λb=>(h.get? b).map λo=>(b,o)
def mZ{fp:BS}{o:Obj}(a:b∈fp)(e:h.get? b=some o):(b,o)∈Ht fp h:=List.mem_filterMap.2 ⟨b,a,by rw[e];rfl⟩
theorem abV{fp:BS}{p:Addr×Obj}(a:p∈Ht fp h):p.1∈fp/\h.get? p.1=some p.2:=by
 obtain⟨b,c,e⟩:=List.mem_filterMap.1 a;cases q:h.get? b with
 | none=>rw[q]at e;cases e
 | some o=>
  rw[q]at e;have d:=k4 e;subst d;exact⟨c,q⟩
theorem Inv.pinned{fp:BS}(I:QE)(hf:∀b∈fp,qf X pins H b)(g:∀b∈fp,∃o,s.heap.get? b=some o/\∀v,o.data ≠ .cell v):Inv X (pins++Ht fp s.heap) σ H s:=
 I.yS λp f=>(hV.1 f).elim (λz=>I.pin p (h5 _ z)) λz=>by
  obtain⟨a,e⟩:=abV z;obtain⟨f0,f1,f2,_⟩:=hf p.1 a;obtain⟨o,c,d⟩:=g p.1 a;rw[e]at c;cases c;exact⟨e,f0,f1,f2,d⟩
theorem Inv.xA{pl:BM}(I:Inv X (pins++pl) σ H s):Inv X pins σ H s:=I.yS λp a=>I.pin p (h5 _ (ik _ a))
def aez{iter:Expr}{body:Cs}{O:TI}{g:TG}{tb:TS}(z:QgS)(P:QaC)(hi:PI X tg iter O)(hg:PG X tg g)(k:Wo X body tb)
  (hs:Qcn:=by intro _;rfl):PS X (.For tg iter body [] pos) (axI O g tb):=by
 intro pins s σ H D I h;refine wpAny_For (gE (hi pins s σ H _ I h) λv s1 h1=>gE h1 λaa s2 h2=>?_) hs;obtain⟨it,fp,tn,J,H2,e,I2,T,F,f2,W,⟨m0,w0⟩,turn⟩:=h2;subst e;have j:∀{H':Hp},(∀b∈fp,H' b=none)->∀b∈fp,qf X pins H' b:=λhn b k=>⟨hn b k,(f2 b k).2⟩;refine codeAny_forLoop_any (λn s'=>∃i σ' H',Inv X pins σ' H' s'/\tn i s'.heap/\(∀b∈fp,H' b=none)/\W i n σ' H') ?_ m0 ⟨0,σ,H2,I2,F,λb k=>(f2 b k).1,w0⟩;rintro n s3 ⟨i,c,C,R,t,B,Z⟩;obtain⟨stop,qn⟩|⟨go,N,hN,step⟩:=turn i n c C Z
 .refine vy z (gE (T.done X rfl rfl rfl P i pins s3 c C X.xe R (j B) t stop) λr s4 zz=>?_);obtain⟨K,I4⟩:=zz;subst K;exact wpAny_execs_nil ⟨c,C,I4,qn⟩
 .refine vy z (gE (T.item X rfl rfl rfl P i pins s3 c C X.xe R (j B) t go) λr s4 zz=>?_);obtain⟨u,K,h4⟩:=zz;subst K;refine vy z (gE h4 λ_ s5 zz=>?_);obtain⟨x,S,I5,r5,U,ZS,L⟩:=zz;have M:=I5.pinned (j L) (T.obj _ _ ZS);refine vy z (gE (hg _ s5 c S x u _ M r5 (step x S U)) λ_ s6 zz=>?_);obtain⟨E,H6,I6,q6⟩:=zz;refine vy z (gE (k _ s6 E H6 _ I6 q6) λf G q=>?_);have again:∀{a:St} {p:Hp},Inv X (pins++Ht fp s5.heap) a p G->N a p->∃m,m<n/\∃i σ' H',Inv X pins σ' H' G/\tn i G.heap/\(∀b∈fp,H' b=none)/\W i m σ' H':=λ{a p} l y=>by
   obtain⟨m',hm,Y⟩:=hN a p y;refine⟨m',hm,i+1,a,p,l.xA,T.keep _ _ _ ZS λb k o e=>(l.pin (b,o) (h5 _ (h5 _ (mZ k e)))).1,λb k=>?_,Y⟩;obtain⟨o,e,d⟩:=T.obj _ _ ZS b k;exact(l.pin (b,o) (h5 _ (h5 _ (mZ k e)))).2.1
  cases f with
  | next=>obtain⟨a,p,l,y⟩:=q;exact again l y
  | cont=>obtain⟨a,p,l,y⟩:=q;exact again l y
  | brk=>obtain⟨a,p,l,q⟩:=q;exact⟨a,p,l.xA,q⟩
  | ret v=>obtain⟨V,a,p,l,r7,q⟩:=q;exact⟨V,a,p,l.xA,r7,q⟩
abbrev R2:=V->V->Hp->VK->Prop
def BP(X:Cx)(f:Value->Value->Sem Value)(r:R2):Prop:=
 ∀(pins:BM) (s:Qr) (σ:St) (H:Hp) (x y:V) (v u:Value) (Q:VK),Inv X pins σ H s->RelV x v->RelV y u->r x y H Q →
  wpAny QA X.A (f v u) Qa5 X.xe s
def OP(X:Cx)(f:Value->Sem Value)(r:Qkk):Prop:=
 ∀(pins:BM) (s:Qr) (σ:St) (H:Hp) (x:V) (v:Value) (Q:VK),Inv X pins σ H s->RelV x v->r x H Q →
  wpAny QA X.A (f v) Qa5 X.xe s
def om(X:Cx)(f:Value)(r:Qj4):Prop:=
 ∀(pins:BM) (s:Qr) (σ:St) (H:Hp) (xs:BY) (us:B2) (Q:VK),Inv X pins σ H s->Vals xs us->r xs H Q →
  wpAny QA X.A (call f us) Qa5 X.xe s
def axL(X:Cx)(r:V->Hp->Db->Prop):Prop:=
 ∀(pins:BM) (s:Qr) (σ:St) (H:Hp) (x:V) (v:Value) (Q:Db),Inv X pins σ H s->RelV x v->r x H Q →
  wpAny QA X.A (truthy v) QeH X.xe s
noncomputable def w7(r:R2)(ta tb:TE):TE:=λσ H Q=>ta σ H λx H1=>tb σ H1 λy H2=>r x y H2 Q
noncomputable def tUn(r:Qkk)(ta:TE):TE:=λσ H Q=>ta σ H λx H1=>r x H1 Q
noncomputable def rI(C:QhU)(g:Int->Int->V):R2:=λx y H Q=>∃i j,x=.int i/\y=.int j/\C i j/\Q (g i j) H
noncomputable def uV(g:Int->Int->V):R2:=λx y H Q=>∃i j,x=.int i/\y=.int j/\Q (g i j) H
def rU(g:Int->V):V->Hp->VK->Prop:=λx H Q=>∃i,x=.int i/\Q (g i) H
variable{a b:Expr}{ta tb:TE}{f:Value->Value->Sem Value}
def Nl(l:Qcm)(k:PE X b tb){R:V->V->Hp->Prop}(I:QE)
  (h:ta σ H λx H1=>tb σ H1 λy H2=>R x y H2) {Q:Bi}
  (hf:∀v u s2 x y H2,Inv X pins σ H2 s2->RelV x v->RelV y u->R x y H2->wpAny QA X.A (f v u) Q X.xe s2) :
  wpAny QA X.A (eval a X.env) (λv d=>wpAny QA X.A (eval b X.env) (λu c=>wpAny QA X.A (f v u) Q X.xe c) X.xe d) X.xe s:=by
 refine gE (l pins s σ H _ I h) λv s1 zz=>?_;obtain⟨x,H1,n,g,j⟩:=zz;refine gE (k pins s1 σ H1 _ n j) λu s2 zz=>?_;obtain⟨y,H2,m,e,i⟩:=zz;exact hf v u s2 x y H2 m g e i
noncomputable def TL{op:Operator}{r:R2}(e:Qke)(g:Qcm)(f:PE X b tb):PE X (.BinOp a op b pos) (w7 r ta tb):=λpins s σ H Q I h=>wpAny_BinOp QkA
def aty{op:UnaryOp}{r:Qkk}(d:OP X (unaryOp op) r)(e:Qcm):PE X (.UnaryOp op a pos) (tUn r ta):=λpins s σ H Q I h=>UnaryOp_ (gE (e pins s σ H _ I h) λv s1 ⟨x,H1,f,b,c⟩=>d pins s1 σ H1 x v Q f b c)
def zt{C:QhU}{g:Int->Int->Int}
  (rule:∀(i j:Int) (t u:Tok) (s:Qr) (Q:Bi) (E:Bi),C i j->Q (.int (g i j) s.toks) {s with toks:=s.toks+1}->wpAny QA X.A QjX Q E s) :
  BP X f (rI C λi j=>.int (g i j)):=by
 intro pins s σ H x y v u Q I b a h;obtain⟨i,j,rfl,rfl,c,q⟩:=h;obtain⟨t,rfl⟩:=b;obtain⟨t',rfl⟩:=a;exact rule i j t t' s _ _ c ⟨.int _,H,I.tok _,⟨_,rfl⟩,q⟩
def SI{g:Int->Int->Int}
  (rule:∀(i j:Int) (t u:Tok) (s:Qr) (Q:Bi) (E:Bi),Q (.int (g i j) s.toks) {s with toks:=s.toks+1}->wpAny QA X.A QjX Q E s) :
  BP X f (uV λi j=>.int (g i j)):=by
 intro pins s σ H x y v u Q I b a h;obtain⟨i,j,rfl,rfl,q⟩:=h;obtain⟨t,rfl⟩:=b;obtain⟨t',rfl⟩:=a;exact rule i j t t' s _ _ ⟨.int _,H,I.tok _,⟨_,rfl⟩,q⟩
def Nd{g:QfO}
  (rule:∀(i j:Int) (t u:Tok) (s:Qr) (Q:Bi) (E:Bi),Q (.bool (g i j)) s->wpAny QA X.A QjX Q E s) :
  BP X f (uV λi j=>.bl (g i j)):=by
 intro pins s σ H x y v u Q I b a h;obtain⟨i,j,rfl,rfl,q⟩:=h;obtain⟨t,rfl⟩:=b;obtain⟨t',rfl⟩:=a;exact rule i j t t' s _ _ ⟨.bl _,H,I,rfl,q⟩
def SH(i j:Int):Prop:=0<j/\j<1073741824
def SF(i j:Int):Prop:=0<=j/\j<=1000000/\i.natAbs<2 ^ 64
def IF(i j:Int):Prop:=(-(2 ^ 64)<i/\i<2 ^ 64)\/(-(2 ^ 64)<j/\j<2 ^ 64)
theorem IF.ok{i j:Int}(h:IF i j):IntMulOk i j:=by
 obtain⟨h1,h2⟩|⟨h1,h2⟩:=h
 .exact .of_left (intBits_le_64 h1 h2)
 .exact .of_right (intBits_le_64 h1 h2)
def aeA:BP X (binaryOp .Add) (uV λi j=>.int (i+j)):=SI λ_ _ _ _ _ _ _ q=>add_int q
def aeB:BP X (binaryOp .Sub) (uV λi j=>.int (i-j)):=SI λ_ _ _ _ _ _ _ q=>sub_int q
def aoN:BP X (binaryOp .Mult) (rI IF λi j=>.int (i*j)):=zt λ_ _ _ _ _ _ _ a q=>mul_int q a.ok
theorem ajv:BP X (binaryOp .FloorDiv) (rI SH λi j=>.int (i / j)):=zt λi j _ _ _ _ _ a q=>by
 have h1:=a.1;have h2:=a.2;exact floordiv_int We (by rw[Int.fdiv_eq_ediv_of_nonneg i We];exact q) (.inl (PyProof.noPylong_small We))
theorem aoO:BP X (binaryOp .Mod) (rI (λ_ j=>0<j) λi j=>.int (i % j)):=zt λi j _ _ _ _ _ a q=>mod_int' We (by rw[Int.fmod_eq_emod_of_nonneg i We];exact q)
def aoP:BP X (binaryOp .Pow) (rI SF λi j=>.int (i ^ j.toNat)):=zt λ_ _ _ _ _ _ _ a q=>pow_int_small a.1 a.2.1 a.2.2 q
def unI{f:Value->Sem Value}{g:Qfd}
  (rule:∀(i:Int) (t:Tok) (s:Qr) (Q:Bi) (E:Bi),Q (.int (g i) s.toks) {s with toks:=s.toks+1}->wpAny QA X.A (f Qf1) Q E s) :
  OP X f (rU λi=>.int (g i)):=by
 intro pins s σ H x v Q I a h;obtain⟨i,rfl,q⟩:=h;obtain⟨t,rfl⟩:=a;exact rule i t s _ _ ⟨.int _,H,I.tok _,⟨_,rfl⟩,q⟩
def aoQ:OP X (unaryOp .USub) (rU λi=>.int (-i)):=unI λ_ _ _ _ _ q=>neg_int q
noncomputable def SE:V->V->Bool
 | .non,.non=>true | .non,.int _=>true | .int _,.non=>true | .non,.bl _=>true | .bl _,.non=>true | .non,.str _=>true | .str _,.non=>true
 | .int _,.int _=>true | .bl _,.bl _=>true | .str _,.str _=>true | .ZO _,.ZO _=>true
 | .int _,.str _=>true | .str _,.int _=>true | .bl _,.str _=>true | .str _,.bl _=>true
 | _,_=>false
def rEq:R2:=λx y H Q=>SE x y=true/\Q (.bl (decide (x=y))) H
def rNe:R2:=λx y H Q=>SE x y=true/\Q (.bl (!decide (x=y))) H
def ZT{i j:Int}:decide (V.int i=V.int j)=(i==j):=by
 rw[y3];simp
def aeC{i j:Bool}:decide (V.bl i=V.bl j)=(i==j):=by
 rw[y3];simp
def ZU{i j:Str}:decide (V.str i=V.str j)=(i==j):=by
 rw[y3];simp
theorem ZV{i j:Array UInt8}:decide (V.ZO i=V.ZO j)=(i.toList==j.toList):=by
 rw[y3];simp_all
def dO{Q:VK}{k a:Bool}(I:QE)(q:Q (.bl k) H)(e:k=a):EP X pins σ Q (.bool a) s:=by
 subst e;exact⟨.bl k,H,I,rfl,q⟩
theorem TK:BP X (compareOp .Eq) rEq:=by
 intro pins s σ H x y v u Q I b a h;obtain⟨hs,q⟩:=h;cases x with
 | non=>
  cases b;cases y with
  | non=>cases a;exact PySem.EqNone.eq_none_none Qay
  | bl j=>cases a;exact PySem.EqNone.eq_none_bool Qay
  | int j=>obtain⟨t',rfl⟩:=a;exact PySem.EqNone.eq_none_int Qay
  | str j=>obtain⟨t',rfl⟩:=a;exact PySem.EqNone.eq_none_str Qay
  | _=>exact absurd (show false=true from hs) me
 | bl i=>
  cases b;cases y with
  | non=>cases a;exact PySem.EqNone.eq_bool_none Qay
  | bl j=>cases a;exact eq_bool (dO I q aeC)
  | str j=>obtain⟨t',rfl⟩:=a;exact PySem.EqMixed.eq_bool_str Qay
  | _=>exact absurd (show false=true from hs) me
 | int i=>
  obtain⟨t,rfl⟩:=b;cases y with
  | non=>cases a;exact PySem.EqNone.eq_int_none Qay
  | int j=>obtain⟨t',rfl⟩:=a;exact eq_int (dO I q ZT)
  | str j=>obtain⟨t',rfl⟩:=a;exact PySem.EqMixed.eq_int_str Qay
  | _=>exact absurd (show false=true from hs) me
 | str i=>
  obtain⟨t,rfl⟩:=b;cases y with
  | non=>cases a;exact PySem.EqNone.eq_str_none Qay
  | bl j=>cases a;exact PySem.EqMixed.eq_str_bool Qay
  | int j=>obtain⟨t',rfl⟩:=a;exact PySem.EqMixed.eq_str_int Qay
  | str j=>obtain⟨t',rfl⟩:=a;exact eq_str (dO I q ZU)
  | _=>exact absurd (show false=true from hs) me
 | ZO i=>
  obtain⟨t,rfl⟩:=b;cases y with
  | ZO j=>obtain⟨t',rfl⟩:=a;exact PySem.W.eq_bytes (dO I q ZV)
  | _=>exact absurd (show false=true from hs) me
 | _=>cases y<;>exact absurd (show false=true from hs) me
theorem TJ:BP X (compareOp .NotEq) rNe:=by
 intro pins s σ H x y v u Q I b a h;obtain⟨hs,q⟩:=h;cases x with
 | non=>
  cases b;cases y with
  | non=>cases a;exact PySem.EqNone.ne_none_none Qay
  | bl j=>cases a;exact PySem.EqNone.ne_none_bool Qay
  | int j=>obtain⟨t',rfl⟩:=a;exact PySem.EqNone.ne_none_int Qay
  | str j=>obtain⟨t',rfl⟩:=a;exact PySem.EqNone.ne_none_str Qay
  | _=>exact absurd (show false=true from hs) me
 | bl i=>
  cases b;cases y with
  | non=>cases a;exact PySem.EqNone.ne_bool_none Qay
  | bl j=>cases a;exact ne_bool (dO I q (congrArg not aeC))
  | str j=>obtain⟨t',rfl⟩:=a;exact PySem.EqMixed.ne_bool_str Qay
  | _=>exact absurd (show false=true from hs) me
 | int i=>
  obtain⟨t,rfl⟩:=b;cases y with
  | non=>cases a;exact PySem.EqNone.ne_int_none Qay
  | int j=>obtain⟨t',rfl⟩:=a;exact ne_int (dO I q (congrArg not ZT))
  | str j=>obtain⟨t',rfl⟩:=a;exact PySem.EqMixed.ne_int_str Qay
  | _=>exact absurd (show false=true from hs) me
 | str i=>
  obtain⟨t,rfl⟩:=b;cases y with
  | non=>cases a;exact PySem.EqNone.ne_str_none Qay
  | bl j=>cases a;exact PySem.EqMixed.ne_str_bool Qay
  | int j=>obtain⟨t',rfl⟩:=a;exact PySem.EqMixed.ne_str_int Qay
  | str j=>obtain⟨t',rfl⟩:=a;exact ne_str (dO I q (congrArg not ZU))
  | _=>exact absurd (show false=true from hs) me
 | ZO i=>
  obtain⟨t,rfl⟩:=b;cases y with
  | ZO j=>obtain⟨t',rfl⟩:=a;exact PySem.W.ne_bytes (dO I q (congrArg not ZV))
  | _=>exact absurd (show false=true from hs) me
 | _=>cases y<;>exact absurd (show false=true from hs) me
def atF:BP X (compareOp .Lt) (uV λi j=>.bl (decide (i<j))):=Nd λ_ _ _ _ _ _ _ q=>lt_int q
def atG:BP X (compareOp .LtE) (uV λi j=>.bl (decide (i<=j))):=Nd λ_ _ _ _ _ _ _ q=>le_int q
def TC:BP X (compareOp .Gt) (uV λi j=>.bl (decide (j<i))):=Nd λ_ _ _ _ _ _ _ q=>gt_int q
theorem sS(b:Expr){op:CmpOp}(h:op ≠ .In:=by decide)(h2:op ≠ .NotIn:=by decide):behindInMarks op b=false:=by
 have e1:(op==CmpOp.In)=false:=by grind
 have e2:(op==CmpOp.NotIn)=false:=by grind
 cases b<;>simp[behindInMarks,e1,e2]
noncomputable def yU{op:CmpOp}{r:R2}(e:BP X Qh9 r)(g:Qcm)(f:PE X b tb)(hm:behindInMarks op b=false):PE X (.Compare a [op] [b] pos) (w7 r ta tb):=λpins s σ H Q I h=>wpAny_Compare1 QkA hm
noncomputable def atH(t:TE):TT:=λσ H Q=>t σ H λx H'=>∃k,x=.bl k/\Q k H'
def uY{op:CmpOp}{r:R2}(m:BP X Qh9 r)(o:Qcm)(n:PE X b tb)(hm:behindInMarks op b=false):PT X (.Compare a [op] [b] pos) (atH (w7 r ta tb)):=by
 intro pins s σ H Q I h;refine wpAny_isTrue_Compare1 (gE (o pins s σ H _ I h) λv s1 ⟨x,H1,t,g,l⟩=>gE (n pins s1 σ H1 _ t l) λu s2 ⟨y,H2,q,f,j⟩=>
  gE (m pins s2 σ H2 x y v u _ q g f j) λc s3 ⟨z,w,p,d,k,e,i⟩=>?_) hm
 subst e;cases d;exact wb ⟨w,p,i⟩
def SA(K:Frag)(x:V)(H:Hp)(k:Bool):Prop:=
 match x with
 | .non=>k=false
 | .bl b=>k=b
 | .int i=>k=(i != 0)
 | .str y => y.length <= sizeLine /\ k = ((y.length : Int) != 0)
 | .ZO y=>y.size<=sizeLine/\k=((y.size:Int) != 0)
 | .ref p=>(∃xs,oj K H p xs/\k=!xs.isEmpty)\/(∃xs,Dz K H p xs/\k=!xs.isEmpty)\/∃kvs,H p=some Qck/\k=!kvs.isEmpty
 | _=>False
def Wt{κ:Type}{kvs:QbF}{vs:QdM}(r:Qdw):(!vs.isEmpty)=!kvs.isEmpty:=by
 cases r<;>rfl
def Hu{its:B2}(r:Vals xs its):(!its.toArray.isEmpty)=!xs.isEmpty:=by
 cases r<;>simp
def Hv:(sizeLine:Nat)<2 ^ 63:=by decide
theorem aoR:axL X (λx H Q=>∃k,SA X.K x H k/\Q k H):=by
 intro pins s σ H x v Q I c h;obtain⟨k,e,q⟩:=h;have j:=Hv;have hs:sizeLine=16777216:=lh;cases x with
 | non=>
  cases c;have a:k=false:=e;subst a;exact truthy_none ⟨H,I,q⟩
 | bl b=>
  cases c;have a:k=b:=e;subst a;exact wb ⟨H,I,q⟩
 | int i=>
  obtain⟨t,rfl⟩:=c;have a:k=(i != 0):=e;subst a;exact PySem.P.truthy_int ⟨H,I,q⟩
 | str y=>
  obtain⟨t,rfl⟩:=c;obtain⟨f,a⟩:y.length<=sizeLine/\k=((y.length:Int) != 0):=e;subst a;exact PySem.P.truthy_str We ⟨H,I.tok _,q⟩
 | ZO y=>
  obtain⟨t,rfl⟩:=c;obtain⟨f,a⟩:y.size<=sizeLine/\k=((y.size:Int) != 0):=e;subst a;exact PySem.W.truthy_bytes We ⟨H,I.tok _,q⟩
 | ref p=>
  cases c;have a:(∃xs,oj X.K H p xs/\k=!xs.isEmpty)\/(∃xs,Dz X.K H p xs/\k=!xs.isEmpty)\/∃kvs,H p=some Qck/\k=!kvs.isEmpty:=e;obtain⟨xs,d,a⟩|⟨xs,d,a⟩|⟨kvs,d,a⟩:=a
  .subst a;obtain⟨its,r,pl,hz⟩:=I.list d;have hlen:=r.length;exact wpAny_truthy_list pl.isList (by simp only[nt];lia) ⟨H,I.tok _,by rw[Hu r];exact q⟩
  .subst a;obtain⟨its,r,pl,hz⟩:=I.tuple d;have hlen:=r.length;exact truthy_tuple pl (by simp only[nt];lia) ⟨H,I.tok _,by rw[Hu r];exact q⟩
  .subst a;obtain⟨hz,g,vs,r,m⟩:kvs.length<=sizeLine/\(p==sysModules)=false/\∃vs,KV kvs vs/\s.heap.DictOf (iy X.prog X.w) p vs:=I.gD p _ d;have hlen:kvs.length=vs.length:=Paired.length r;exact wpAny_truthy_dict g m We ⟨H,I.tok _,by rw[Wt r];exact q⟩
 | _=>exact(show False from e).elim
def aeD(d:Qcm)(he:∀whole,isTrue a X.env whole=(do let v ← whole;standAt a.pos;holding [v] (truthy v))) :
  PT X a (λσ H Q=>ta σ H λx H'=>∃k,SA X.K x H' k/\Q k H'):=λpins s σ H Q I h=>isTrue_plain (gE (d pins s σ H _ I h) λv s1 ⟨x,H1,e,b,c⟩=>aoR pins s1 σ H1 x v Q e b c) (he _)
def Hw:BP X (binaryOp .Add) (λx y H Q=>∃i j,x=.str i/\y=.str j/\i.length+j.length<=sizeLine/\Q (.str (i++j)) H):=by
 intro pins s σ H x y v u Q I b a h;obtain⟨i,j,rfl,rfl,hz,q⟩:=h;obtain⟨t,rfl⟩:=b;obtain⟨t',rfl⟩:=a;exact add_str (λt' tk=>⟨.str _,H,I.tok _,⟨_,rfl⟩,q⟩) hz
theorem vals1{x:V}(r:Vals [x] us):∃u,us=[u]/\RelV x u:=by
 cases r with
 | cons b a=>cases a;exact⟨_,rfl,b⟩
theorem vals2{x y:V}(r:Vals [x,y] us):∃u a,us=[u,a]/\RelV x u/\RelV y a:=by
 cases r with
 | cons e d=>
  cases d with
  | cons c b=>cases b;exact⟨_,_,rfl,e,c⟩
def abW(b:QaC):om X (.builtin "max") (λxs H Q=>∃i j,xs=[.int i,.int j]/\Q Qli H):=by
 intro pins s σ H xs us Q I r h;obtain⟨i,j,rfl,q⟩:=h;obtain⟨u,c,rfl,⟨t,rfl⟩,⟨t',rfl⟩⟩:=vals2 r;refine max_two_ints (I.ok.hd b) λh' tk k=>⟨_,H,I.kept k,?_,q⟩;by_cases a:j > i
 .rw[hO a,hO a];exact⟨_,rfl⟩
 .rw[cq a,cq a];exact⟨_,rfl⟩
def abX(b:QaC):om X (.builtin "min") (λxs H Q=>∃i j,xs=[.int i,.int j]/\Q Qlj H):=by
 intro pins s σ H xs us Q I r h;obtain⟨i,j,rfl,q⟩:=h;obtain⟨u,c,rfl,⟨t,rfl⟩,⟨t',rfl⟩⟩:=vals2 r;refine min_two_ints (I.ok.hd b) λh' tk k=>⟨_,H,I.kept k,?_,q⟩;by_cases a:j<i
 .rw[hO a,hO a];exact⟨_,rfl⟩
 .rw[cq a,cq a];exact⟨_,rfl⟩
def abY:om X (.type "int") (λxs H Q=>(∃i,xs=[.int i]/\Q QaQ H)\/∃k,xs=[.bl k]/\Q (.int (if k then 1 else 0)) H):=by
 intro pins s σ H xs us Q I r h;obtain⟨i,rfl,q⟩|⟨k,rfl,q⟩:=h
 .obtain⟨u,rfl,t,rfl⟩:=vals1 r;exact call_int_int ⟨.int i,H,I,⟨_,rfl⟩,q⟩
 .obtain⟨u,rfl,a⟩:=vals1 r;cases a;exact call_int_bool ⟨.int _,H,I.tok _,⟨_,rfl⟩,q⟩
def BQ:om X (.type "str") (λxs H Q=>∃i,xs=[.int i]/\i.natAbs.log2<1920/\Q Qj5 H):=by
 intro pins s σ H xs us Q I r h;obtain⟨i,rfl,hz,q⟩:=h;obtain⟨u,rfl,t,rfl⟩:=vals1 r;exact PySem.P.str_of_int hz ⟨.str _,H,I.tok _,⟨_,rfl⟩,q⟩
structure Wu(h:Heap)(x dx C:Addr)(mA:Bz):Prop where
 obj:h.get? x=some (instObj C dx)
 ns:h.Ns1 dx mA
 ne:dx≠x
variable{dx:Addr}
theorem abZ{mA:Bz}(n:h.Ns1 dx mA):∃od,h.get? dx=some od/\∀name,lookIn name od=some (mA name):=by
 obtain⟨o,es,ep,d,hd,f,_,hm⟩:=n;refine⟨o,d,λname=>?_⟩;have e:=hm name;unfold nsFind findBy at e;rw[← Array.find?_toList]at e;unfold lookIn;rw[hd];dsimp;split
 .simp_all
 .have a:es.toList.any (·.refKey)=false:=by
   rw[List.any_eq_false];intro y c;obtain⟨z,t,b⟩:=f y (Array.mem_toList_iff.1 c);simp[DictEntry.refKey,b]
  have g:¬ es.toList.any (·.refKey)=true:=by rw[a];simp_all
  rw[cq g];simp_all
variable{C:Addr}
theorem Wu.look{mA:Bz}(I:Wu h x dx C mA):∃od,PySem.W.InstAt h x (instObj C dx) C (some od)/\∀name,lookIn name od=some (mA name):=
 let ⟨od,a,b⟩:=abZ I.ns
 ⟨od,⟨I.obj,rfl,rfl,a⟩,b⟩
variable{prog:QaE}{f:Addr}{mA:Bz}{name:Str}{v:Value}
def get_map{expr:Bool}{Q:Bi}(X:K.In s.heap)(I:Wu s.heap x dx C mA)(d:plainGet K C name=true)(c:hasDictIn K C=true)
  (e:findIn K Qbb name=some none) (hv:mA name=some v) (a:handedIn v=true) (h:Q v {s with toks:=s.toks+1}) :
  wpAny Qak A (getAttr QbU name expr) Q E s:=by
 obtain⟨od,J,b⟩:=I.look;exact PySem.W.get_value X J (plainGet_of d).1 (PySem.W.findObj_own c e rfl (by rw[b,hv])) a h
variable{pl:QcR}
theorem aeE{Q:Value×B2->Shared->Prop}(X:K.In s.heap)(I:Wu s.heap x dx C mA)(a:plainGet K C name=true)
  (hf:findIn K Qbb name=some Qe0) (b:isFn K Qad=true) (hv:mA name=none) (h:Q (.ref f,[.ref x]) s) :
  wpAny Qak A (getMethod QbU name pl) Q E s:=by
 obtain⟨od,J,c⟩:=I.look;exact PySem.W.method_fn X J (plainGet_of a).1 (plainGet_of a).2 hf (tI.1 b) (by show(lookIn name od).map _=some _;simp_all) h
theorem ajw{ns:At}(X:K.In s.heap)(I:Wu s.heap x dx C mA)
  (hs:findIn K Qbb "__setattr__" = some Qen) (k:plainOver K C=true) (j:takerIn K C name=some none) (l:hasDictIn K C=true)
  (hw:PySem.Within mA ns) (hsz:ns.length<=sizeLine)
  (h:∀h',Wu h' x dx C (λy=>if y=name then some v else mA y)->Heap.SameBut dx s.heap h'->Q () {s with heap:=h',toks:=s.toks+2}) :
  wpAny Qak A (setAttr QbU name v) Q E s:=by
 obtain⟨od,J,q⟩:=I.look;refine PySem.W.set_plain X J hs (PySem.W.osa_open X J k j λb=>?_);obtain⟨cd,m,e⟩:=any_some l;have i:=I.obj;refine hY (kn (hY (hY (wpAny_loadPart i (hY (PySem.W.Looks.here (PySem.W.looks_clsIn X m) ?_))))));rw[e];refine kn (hY (kn (hY ?_)));refine wpAny_nsSet1 I.ns λh' a g=>?_;obtain⟨p,n,o,c,d,f⟩:=a.count (PySem.Within.cons name v hw);refine hY (wpAny_lookBehind c (d▸pastItsLine_dict (kq f W8)) ?_);exact kn (h _ ⟨(g.2 _ (mf I.ne)).trans I.obj,a,I.ne⟩ g)
abbrev _root_.D1:=List (Str×Value)
noncomputable def aeF{R:Result->Shared->Prop}{vs:B2}{kw:D1}(X:K.In s.heap)(hm:makesIn K C=true)
  (hi:findIn K Qbb "__init__" = some Qe0) (hf:PySem.W.typeIn K Qad=some (.type "function"))
  (h:codeAny Qak (A.under (.builtin "type.__call__" ⟨.ref C::vs,kw⟩)) (.call Qad ⟨.ref Qbh::vs,kw⟩) (PySem.W.InitBack Qbh R)
   {s with heap:=(s.heap.push emptyDict).push (instObj C s.heap.objs.size)}) :
  codeAny Qak A (.call Qbb ⟨vs,kw⟩) R s:=PySem.W.make_core (PySem.W.makes_of X hm) (PySem.W.looks_findIn X hi) (λself=>PySem.W.bind_fn X self hf) Q4 h
noncomputable def su(f:Str)(v:V):CI->CI
 | []=>[(f,v)]
 | (g,x)::r=>if g=f then(g,v)::r else(g,x)::su f v r
theorem E4(f g:Str)(v:V):∀fs:CI,(su f v fs).lookup g=if g=f then some v else fs.lookup g
 | []=>by
  show List.lookup g [(f,v)]=_;by_cases h:g=f
  .have a:=tI.2 h;simp[List.lookup,a,hO h]
  .have a:=F1.2 h;simp[List.lookup,a,cq h]
 | (k,x)::r=>by
  have c:=E4 f g v r;rw[show su f v _=(if k=f then(k,v)::r else(k,x)::su f v r) from rfl];by_cases b:k=f
  .rw[hO b];by_cases h:g=k
   .have a:=tI.2 h;simp[List.lookup,a,hO (h.trans b)]
   .have a:=F1.2 h;simp[List.lookup,a,cq (λe:g=f=>h (e.trans b.symm))]
  .rw[cq b];by_cases h:g=k
   .simp_all
   .have a:=F1.2 h;simp[List.lookup,a];exact c
theorem DB(f:Str)(v:V):∀fs:CI,f∈(su f v fs).map (·.1)/\∀g,g∈fs.map (·.1)->g∈(su f v fs).map (·.1)
 | []=>⟨by simp[su],λg h=>by simp at h⟩
 | (k,x)::r=>by
  obtain⟨i1,i2⟩:=DB f v r;rw[show su f v _=(if k=f then(k,v)::r else(k,x)::su f v r) from rfl];grind
theorem E5(f:Str)(v:V):∀fs:CI,(su f v fs).length<=fs.length+1
 | []=>by simp[su]
 | (k,x)::r=>by
  have a:=E5 f v r;rw[show su f v _=(if k=f then(k,v)::r else(k,x)::su f v r) from rfl];grind
theorem Aw.some_of{v:V}{o:Option Value}(r:Aw Qax o):∃u,o=some u/\RelV v u:=by
 cases o with
 | none=>exact(r).elim
 | some u=>exact⟨u,rfl,r⟩
theorem Aw.none_of{o:Option Value}(r:Aw none o):o=none:=by
 cases o with
 | none=>rfl
 | some u=>exact(r).elim
theorem ab0{v:V}(r:QdA):handedIn u=true:=by
 cases v with
 | non=>cases (r);rfl
 | bl b=>cases (r);rfl
 | int i=>obtain⟨t,e⟩:=(r);cases e;rfl
 | str x=>obtain⟨t,e⟩:=(r);cases e;rfl
 | ZO b=>obtain⟨t,e⟩:=(r);cases e;rfl
 | flt b=>obtain⟨t,e⟩:=(r);cases e;rfl
 | ref a=>cases (r);rfl
 | ty n=>cases (r);rfl
variable{a:Addr}{fs:CI}
def OW(gD:Qbs)(e:H a=some Qdd):∃mA,Wu h a dx C mA/\(∀f,Aw (fs.lookup f) (mA f))/\PySem.Within mA (fs.map (·.1))/\fs.length<=1000/\H dx=some (.own a):=by
 obtain⟨d,z,ne,b,mA,n,r,q⟩:=(gD a _ e);exact⟨mA,⟨b,n,ne⟩,r,q,z,d⟩
structure jP(K:Frag)(C:Addr):Prop where
 pg:plainGet K C Str.empty=true
 hd:hasDictIn K C=true
 po:plainOver K C=true
 sa:findIn K Qbb "__setattr__" = some Qen
theorem jP.get(c:jP K C)(f:Str):plainGet K C f=true:=c.pg
def aF(K:Frag)(C:Addr)(f:Str):Prop:=findIn K Qbb f=some none
theorem aF.atL{f:Str}(n:aF K C f):takerIn K C f=some none:=by
 unfold takerIn;rw[n];rfl
structure Meth(K:Frag)(C:Addr)(m:Str)(f:Addr):Prop where
 at_:findIn K Qbb m=some Qe0
 fn:isFn K Qad=true
 kp:keepIn K Qad=true
variable{f:Str}{v:V}
def Wv{b:Bool}{Q:Bi}(I:QE)(e:H a=some Qdd)(c:jP X.K C)(n:aF X.K C f)(l:fs.lookup f=some v)
  (h:∀u s',Inv X pins σ H s'->RelV v u->Q u s'):wpAny QA A (getAttr Qao f b) Q E s:=by
 obtain⟨mA,O,r,_,_,_⟩:=OW I.gD e;obtain⟨u,g,d⟩:=Aw.some_of (l▸r f);exact get_map I.Gy O (c.get f) c.hd n g (ab0 d) (h u _ (I.tok _) d)
def Ax{m:Str}{g:Addr}{Q:Value×B2->Shared->Prop}(I:QE)(e:H a=some Qdd)(c:jP X.K C)(k:Meth X.K C m g)(l:QeJ)
  (h:Q (.ref g,[.ref a]) s):wpAny QA A (getMethod Qao m pl) Q E s:=by
 obtain⟨mA,O,r,_,_,_⟩:=OW I.gD e;have b:=Aw.none_of (l▸r m);exact aeE I.Gy O (c.get m) k.at_ k.fn b h
theorem Ww{y:V}(I:QE)(e:H a=some Qdd)(c:jP X.K C)(n:aF X.K C f)(v:fs.length<1000)(l:QcS)
  (h:∀s',Inv X pins σ (upd H a (.ins C dx (su f y fs))) s'->Q () s'):wpAny QA A (setAttr Qao f u) Q E s:=by
 obtain⟨mA,O,r,i,_,j⟩:=OW I.gD e;have hz:(fs.map (·.1)).length<=sizeLine:=by rw[hP,lh];lia
 refine ajw I.Gy O c.sa c.po n.atL c.hd i hz λh' d k=>h _ ?_;have hd:∃o,h'.get? dx=some o:=let ⟨o,_,_,t,_⟩:=d.ns;⟨o,t⟩;refine I.write (e▸True.intro) (.inr j) (λb q p z=>(k.2 b p).trans z) hd ?_;refine⟨ aq O.ne▸j,?_,O.ne,d.obj,_,d.ns,λg=>?_,λg m=>?_⟩
 .have:=E5 f y fs;lia
 .rw[E4];by_cases q:g=f
  .rw[hO q,hO q];exact l
  simp_all
 .by_cases q:g=f
  .rw[q];exact(DB f y fs).1
  .refine(DB f y fs).2 g (i g λz=>m ?_);grind
theorem Inv.made(I:QE):Inv X pins σ (upd (upd H s.heap.objs.size (.own Qbh)) Qbh (.ins C s.heap.objs.size []))
  {s with heap:=(s.heap.push emptyDict).push (instObj C s.heap.objs.size)}:=by
 have e1:(s.heap.push _).get? _=some emptyDict:=lG _ rfl;have e2:=by
  have:=lG (s.heap.push emptyDict) (o:=instObj C s.heap.objs.size) rfl
  rwa [Heap.size_push]at this
 have c:(s.heap.push _).Ns _ _:=⟨ _,#[],_,e1,rfl,(λe he=>absurd he Wp),λ_=>rfl⟩;have d:=I.laid (o:=.own Qbh) (t':=s.toks) (λb u q=>ka _ q) (hW _) ⟨_,e1⟩;refine d.laid (λb u q=>ka _ q) (Nat.le_of_eq (Heap.size_push _ _)) ?_;have ne:s.heap.objs.size≠s.heap.objs.size+1:=kr (y5 _);refine⟨by rw[aq ne,aR],i8 _,ne,e2,_,(Heap.Ns1.of_empty c).at λo q=>ka _ q,λ_=>True.intro,λy a=>absurd rfl a⟩
noncomputable def ajx{env:Env}{e:Expr}{Q:Bi}(b:attributeBase e f env (eval e env)=eval e env)
  (h:wpAny Qak A (eval e env) (λo a=>wpAny Qak A (getAttr o f true) Q E a) E s):wpAny Qak A (eval QfA env) Q E s:=
 Attribute_any_ h (by rw[arm_eval_Attribute,b])
def axN(K:Frag)(ta:TE)(f:Str):TE:=λσ H Q=>ta σ H λx H1=>∃a C dx fs v,x=.ref a/\H1 a=some Qdd/\jP K C/\aF K C f/\fs.lookup f=some v/\Q v H1
def axO(K:Frag)(ta tv:TE)(f:Str):TS:=λD σ H=>tv σ H λy H1=>ta σ H1 λx H2=>∃a C dx fs,x=.ref a/\H2 a=some Qdd/\jP K C/\aF K C f/\fs.length<1000 ∧
 D.nx σ (upd H2 a (.ins C dx (su f y fs)))
variable{o e value:Expr}{pos':Pos}{tv:TE}
def Wx(he:PE X e ta)(g:AS X e f):PE X QfA (axN X.K ta f):=by
 intro pins s σ H Q I h;refine ajx g (gE QbI λu s1 zz=>?_);obtain⟨x,H1,k,b,a,C,dx,fs,v,ex,i,c,n,l,q⟩:=zz;subst ex;obtain rfl:u=Value.ref a:=b;exact Wv k i c n l λm s2 j d=>⟨v,H1,j,d,q⟩
def aeG(i:PE X o ta)(hv:PE X value tv)(hs:swapsWith value (some (.Attribute o f pos')) pos.line X.env=pure false):PS X (.Assign [.Attribute o f pos'] value pos) (axO X.K ta tv f):=by
 intro pins s σ H D I h;refine plainObj_wpAny_Assign_Attribute (gE (hv pins s σ H _ I h) λu s1 ⟨y,H1,p,b,q⟩=>gE (i pins s1 σ H1 _ p q) λg s2 zz=>?_) hs;obtain⟨x,H2,m,d,a,C,dx,fs,ex,j,c,n,l,e⟩:=zz;subst ex;obtain rfl:g=Value.ref a:=d;exact Ww m j c n l b λs3 k=>⟨σ,_,k,e⟩
def anm{m:Str}{apos:Pos}{args:Cf}{Q:Bi}(he:QbY)(I:QE)
  (h:te σ H λx H1=>∃a C dx fs g,x=.ref a/\H1 a=some Qdd/\jP X.K C/\Meth X.K C m g/\fs.lookup m=none ∧
   ∀s1,Inv X pins σ H1 s1->wpAny QA X.A (callWith pos (.ref g) [.ref a] (backTo pos (starEach args X.env)) Qbw) Q X.xe s1)
  (i:eval Qlk X.env=(do
   let U ← eval e X.env
   standAt apos.atName
   let (f,first) ← holding [U] QhH
   callWith pos f first (backTo pos (starEach args X.env)) Qbw)) :
  wpAny QA X.A (eval Qlk X.env) Q X.xe s:=by
 refine Lm (gE QbI λu s1 zz=>?_) i;obtain⟨x,H1,b,d,a,C,dx,fs,g,ex,j,c,k,l,q⟩:=zz;subst ex;obtain rfl:u=Value.ref a:=d;exact Ax b j c k l (q s1 b)
structure fO(k:Nat)(A:QaF):Prop where
 hd:A.handled=none
 dp:A.depth+3*k+5<recursionLimit
 un:A.units+16*k+200<cLine
theorem fO.mono{j:Nat}(r:fO k A)(h:j<=k):fO j A:=⟨r.hd,by have:=r.dp;lia,by have:=r.un;lia⟩
theorem fO.deeper(r:fO QaZ A)(env:Env):fO k (A.deeper env):=
 ⟨r.hd,by have:=r.dp;show A.depth+1+3*k+5<_;lia,by have:=r.un;show A.units+3+16*k+200<_;lia⟩
def Wy{kw:D1}:(A.under Qgn).depth=A.depth+1:=rfl
def Wz{kw:D1}:(A.under Qgn).units=A.units+1:=rfl
theorem fO.make(r:fO QaZ A)(C:Addr)(us:B2)(kw:D1):fO k (A.under Qgn):=
 ⟨r.hd,by have:=r.dp;rw[Wy];lia,by have:=r.un;rw[Wz];lia⟩
theorem fO.depth(r:fO k A):A.depth<recursionLimit:=by have:=r.dp;lia
theorem fO.units(r:fO k A):A.units+64<cLine:=by have:=r.un;lia
noncomputable def x4:TA:=λ_ H Q=>Q [] H
noncomputable def ZW(ta:TE)(tr:TA):TA:=λσ H Q=>ta σ H λx H1=>tr σ H1 λxs H2=>Q (x::xs) H2
variable{t:TA}
noncomputable def cV:PA X [] x4:=λ_ _ _ _ H Q I h=>Calls.spliced_nil ⟨[],H,I,.nil,h⟩
def bE(g:QbY)(f:PA X es t)(hs:Qah:=by rfl):PA X Qae (ZW te t):=by
 intro pos pins s σ H Q I h;rw[hs];show wpAny _ _ (spliced ((false,eval e _)::backTo pos _)) _ _ s;refine Calls.spliced_cons (gE Qhi λu s1 zz=>?_);obtain⟨x,H1,j,b,d⟩:=zz;exact gE (f pos pins s1 σ H1 _ j d) λus s2 ⟨xs,H2,i,a,c⟩=>⟨ _,H2,i,.cons b a,c⟩
def axP(t:TA):TE:=λσ H Q=>t σ H λxs H1=>xs.length<=sizeLine/\∀p,H1 p=none->Q Qdx (upd H1 p Qbk)
def axQ(t:TA):TE:=λσ H Q=>t σ H λxs H1=>xs.length<=sizeLine/\∀p,H1 p=none->Q Qdx (upd H1 p QaY)
def aeH{U}(h:PA X es t):PE X (.Tuple es U pos) (axP t):=by
 intro pins s σ H Q I c;refine wpAny_Tuple_spliced (gE (h pos pins s σ H _ I c) λus s1 ⟨xs,H1,a,r,z,q⟩=>⟨ r.length▸z,?_⟩);have hf:=a.gD.fresh (hW _);refine⟨.ref _,_,a.laid Qj1 (hW _) ?_,rfl,q _ hf⟩;exact⟨z,us,r,⟨_,lG _ rfl,rfl,_,rfl⟩⟩
def aoT(h:PA X es t):PE X (.List es pos) (axQ t):=by
 intro pins s σ H Q I c;refine wpAny_List_spliced (gE (h pos pins s σ H _ I c) λus s1 ⟨xs,H1,a,r,z,q⟩=>⟨ r.length▸z,?_⟩);have hf:=a.gD.fresh (hW _);refine⟨.ref _,_,a.laid Qj1 (hW _) ?_,rfl,q _ hf⟩;exact⟨z,us,0,r,lG _ rfl⟩
abbrev Sp:=BY->Hp->VK->XK->Prop
abbrev ue:=EM->Hp->Shared->XK->Value->Shared->Prop
structure WB(P:QaE)(w:World)(K:Frag)(mg:Bz)(base:Heap)(A:QaF)(outer:EM)(s:Qr)(H:Hp):Prop where
 frames:A.frames=some outer
 mod:Mod K mg base
 bs:∀b o,base.get? b=some o->s.heap.get? b=some o/\H b=none
 p5:base.objs.size<=s.heap.objs.size
 FZ:s.heap.FunFrames base outer
 u7:∀b∈n7 outer,H b=none
 gD:BL P w H s.heap
 bare:AllBare s.gens
def CE(outer:EM)(P:QaE)(w:World)(H:Hp)(s:Qr)(Q:VK)(u:Value)(s':Qr):Prop:=
 ∃v H',s'.os=s.os/\AllBare s'.gens/\Un (n7 outer) [] H H' s.heap s'.heap/\BL P w H' s'.heap/\RelV v u/\Q v H'
def CR(CX:ue)(outer:EM)(P:QaE)(w:World)(H:Hp)(s:Qr)(Q:VK)(E:XK)(r:Result)(s':Qr):Prop:=
 match r with
 | .ok (.ret u)=>CE outer P w H s Q u s'
 | .ok _=>False
 | .error e=>CX outer H s E e s'
structure d7(P:QaE)(w:World)(K:Frag)(mg:Bz)(base:Heap)(CX:ue)(k:Nat)(f:Addr)(fd:Qa0)(ps:At)(sp:Sp):Prop where
 len:∀vs H Q E,sp vs H Q E->vs.length=ps.length
 run:∀(A:QaF) (outer:EM) (s:Qr) (H:Hp) (args:Args) (us:B2) (vs:BY) (Q:VK) (E:XK),fO k A->WB P w K mg base A outer s H->BindsTo s fd args Qe6->Vals vs us->sp vs H Q E →
  codeAny Qdn A (.call Qad args) (CR CX outer P w H s Q E) s
variable{mg:Bz}{base:Heap}{CX:ue}{ps:At}
theorem d7.imp{f:Addr}{fd:Qa0}{sp a:Sp}(F:d7 P w K mg base CX k f fd ps sp)
  (h:∀vs H Q E,a vs H Q E->sp vs H Q E):d7 P w K mg base CX k f fd ps a:=
 ⟨λvs H Q E q=>F.len vs H Q E (h _ _ _ _ q),λA outer s H args us vs Q E b he c hv hs=>F.run A _ s H args us vs Q E b he c hv (h _ _ _ _ hs)⟩
theorem WB.make{outer:EM}(e:WB P w K mg base A outer s H)(C:Addr)(us:B2)(kw:D1) :
  WB P w K mg base (A.under Qgn) outer s H:=⟨by first|exact e.frames|(simpa using e.frames),e.mod,e.bs,e.p5,e.FZ,e.u7,e.gD,e.bare⟩
variable{s':Qr}
theorem Inv.Su(I:QE):WB X.prog X.w X.K X.mg X.base X.A X.stack s H:=
 ⟨I.ok.frames,I.ok.mod,I.bs,kq I.ok.p5 I.sz,I.stack,I.OU,I.gD,I.bare⟩
theorem Inv.after{Q:VK}(I:QE)(h:CE X.stack X.prog X.w H s Q u s'):EP X pins σ Q u s':=by
 obtain⟨v,H',os,bare,un,gD,r,q⟩:=h;obtain⟨c,g,d,t,a⟩:=s';obtain rfl:a=s.os:=os;exact⟨v,H',I.call un gD bare (λb z=>absurd z Wp),r,q⟩
noncomputable def OC(sp:Sp)(GA:BY)(E:XK)(t:TA):TE:=λσ H Q=>t σ H λvs H1=>sp (vs++GA) H1 Q E
def TB(C:Addr)(m:Str)(sp:Sp)(GA:BY)(E:XK)(ta:TE)(t:TA):TE:=λσ H Q=>ta σ H λx H1=>∃a dx fs,x=.ref a/\H1 a=some Qdd/\fs.lookup m=none ∧
 t σ H1 λvs H2=>sp (x::(vs++GA)) H2 Q E
def atN(C:Addr)(sp:Sp)(GA:BY)(E:XK)(t:TA):TE:=λσ H Q=>t σ H λvs H1=>∀x dx,H1 x=none->H1 dx=none->dx≠x →
 sp (.ref x::(vs++GA)) (upd (upd H1 dx Qed) x (.ins C dx [])) (λv H2=>v=.non/\Q QbU H2) E
def Binds(K:Frag)(fd:Qa0)(ps:At)(ds:B2):Prop:=
 ∀(s:Qr) (us:B2),K.In s.heap->(us++ds).length=ps.length->BindsTo s fd ⟨us,[]⟩ (ps.zip (us++ds))
theorem Binds.all{fd:Qa0}(h:∀us:B2,us.length=ps.length->bindArgs fd ⟨us,[]⟩=pure Qe6):Binds K fd ps []:=λs us _ a=>by
 rw[iz]at a ⊢;exact .of_eq (h us a)
def Passes(CX:ue)(X:Cx)(E:XK):Prop:=∀(pins:BM) (σ:St) (H:Hp) (s:Qr) (e:Value) (s':Qr),Inv X pins σ H s->CX X.stack H s E e s'->X.xe e s'
section
variable{f:Addr}{fd:Qa0}{sp:Sp}{GA:BY}{ds:B2}{E:XK}{x m:Str}{apos:Pos}
def Hx{Q:VK}{vs:BY}(F:QcV)(d:QbG)(i:Qc5)(hd:Qds)(c:Qdg)
  (I:QE) (r:Vals vs us) (h:sp (vs++GA) H Q E):wpAny QA X.A (call Qad us) Qa5 X.xe s:=by
 have b:=r.append hd;have g:=b.length▸F.len _ _ _ _ h;refine wpAny_call (codeAny_mono (F.run X.A _ s H _ _ _ Q E d I.Su (i s us I.Gy g) b h) λr s' a=>?_);cases r with
 | error e=>exact c pins σ H s e s' I a
 | ok j=>
  cases j with
  | ret u=>exact I.after a
  | next=>exact False.elim a
  | brk=>exact False.elim a
  | cont=>exact False.elim a
def OX(F:QcV)(d:QbG)(i:Qam)(hm:QfR)(g:QfB)(j:Qc5)(hd:Qds)(c:Qdg)
  (l:Qd1) (b:AD x:=by decide) (he:Qah:=by rfl) (hpl:Qaw:=by rfl) :
  PE X QgI (OC sp GA E t):=by
 intro pins s σ H Q I h;refine tc (Gz I i hm ?_ b);refine KO I.ok.mod.xc g (gE (l pos pins s σ H _ I h) λus s1 ⟨vs,H1,a,r,q⟩=>⟨a.Gy,?_⟩) he hpl;exact Hx F d j hd c a r q
def aeK(F:QcV)(c:QbG)(e:Qam)(hm:QfR)(d:QfB)(g:Qc5)(hd:Qds)(b:Qdg)
  (a:AD x:=by decide):PE X (.Call (.Name x p) [] [] pos) (OC sp GA E x4):=by
 intro pins s σ H Q I h;refine tc (Gz I e hm ?_ a);exact callWith_K0 I.Gy d (Hx F c g hd b I .nil h)
def ZX(he:PE X o ta)(c:jP X.K C)(hm:Meth X.K C m f)(F:QcV)(v:QbG)(y:Qc5)(hd:Qds)(n:Qdg)(z:Qd1)
  (j:Qah:=by rfl) (hpl:Qaw:=by rfl)
  (p:eval Qet X.env=(do
   let U ← eval o X.env
   standAt apos.atName
   let (f,first) ← holding [U] QhH
   callWith pos f first (backTo pos QcY) Qbw):=by rfl) :
  PE X Qet (TB C m sp GA E ta t):=by
 intro pins s σ H Q I h;refine Lm (gE QbI λu s1 zz=>?_) p;obtain⟨x,H1,d,g,a,dx,fs,ex,B,l,q⟩:=zz;subst ex;obtain rfl:u=Value.ref a:=g;refine Ax d B c hm l ?_;refine KO I.ok.mod.xc hm.kp (gE (z pos pins s1 σ H1 _ d q) λus s2 ⟨vs,H2,b,r,i⟩=>⟨b.Gy,?_⟩) j hpl;exact Hx (vs:=.ref a::vs) F v y hd n b (.cons rfl r) i
def aeL(he:PE X o ta)(c:jP X.K C)(hm:Meth X.K C m f)(F:QcV)(i:QbG)(j:Qc5)(hd:Qds)(e:Qdg)
  (g:eval Qey X.env=(do
   let U ← eval o X.env
   standAt apos.atName
   let (f,first) ← holding [U] QhH
   callWith pos f first (backTo pos QfD) Qbw):=by rfl) :
  PE X Qey (TB C m sp GA E ta x4):=by
 intro pins s σ H Q I h;refine Lm (gE QbI λu s1 zz=>?_) g;obtain⟨x,H1,b,d,a,dx,fs,ex,n,l,q⟩:=zz;subst ex;obtain rfl:u=Value.ref a:=d;refine Ax b n c hm l ?_;exact callWith_K0 b.Gy hm.kp (Hx (vs:=[.ref a]) F i j hd e b (.cons rfl .nil) q)
structure Mk(K:Frag)(C f:Addr):Prop where
 makes:makesIn K C=true
 init:findIn K Qbb "__init__" = some Qe0
 fn:isFn K Qad=true
 kp:keepIn K Qbb=true
def aeM{Q:VK}{vs:BY}(M:Mk X.K C f)(F:QcV)(l:Qf4)(n:Qc5)(hd:Qds)
  (j:Qdg) (I:QE) (r:Vals vs us)
  (h:∀x dx,H x=none->H dx=none->dx≠x->sp (.ref x::(vs++GA)) (upd (upd H dx Qed) x (.ins C dx [])) (λv H2=>v=.non/\Q QbU H2) E) :
  wpAny QA X.A (call Qbb us) Qa5 X.xe s:=by
 have d:=h _ _ Qj6 QfC (kr (y5 _));have b:=Inv.made (C:=C) I;have c:Vals (V.ref Qbh::(vs++GA)) _:=.cons rfl (r.append hd);have m:=by
  have e:=c.length;rw[F.len _ _ _ _ d]at e;exact e.symm
 refine wpAny_call (aeF I.Gy M.makes M.init (tI.1 M.fn) (codeAny_mono (F.run _ _ _ _ _ _ _ _ E (l.make C us [])
  (b.Su.make C us []) (n _ _ b.Gy m) c d) λr s' a=>?_))
 cases r with
 | error e=>exact j pins σ _ _ e s' b a
 | ok o=>
  cases o with
  | ret u=>
   obtain⟨v,H',p,g,ev,i⟩:=b.after a;subst ev;exact⟨g,⟨V.ref _,H',p,rfl,i⟩⟩
  | next=>exact False.elim a
  | brk=>exact False.elim a
  | cont=>exact False.elim a
def OY(M:Mk X.K C f)(F:QcV)(d:Qf4)(g:Qam)(hm:X.mg x=some Qbb)(i:Qc5)(hd:Qds)(c:Qdg)
  (j:Qd1) (b:AD x:=by decide) (he:Qah:=by rfl) (hpl:Qaw:=by rfl) :
  PE X QgI (atN C sp GA E t):=by
 intro pins s σ H Q I h;refine tc (Gz I g hm ?_ b);refine KO I.ok.mod.xc M.kp (gE (j pos pins s σ H _ I h) λus s1 ⟨vs,H1,a,r,q⟩=>⟨a.Gy,?_⟩) he hpl;exact aeM M F d i hd c a r q
end
def PK(X:Cx)(kws:EU)(t:TA):Prop:=
 ∀(pos:Pos) (pins:BM) (s:Qr) (σ:St) (H:Hp) (Q:EO),Inv X pins σ H s->t σ H Q->wpAny QA X.A (evalAll ((backToKw pos (keywordEach kws X.env)).map (·.2))) (AP X pins σ Q) X.xe s
variable{x:Str}{axR:Pos}{kws:EU}{nm:Option Str}
noncomputable def aeN:PK X [] x4:=λ_ _ _ _ H Q I h=>wpAny_evalAll_nil ⟨[],H,I,.nil,h⟩
def ZY(g:QbY)(f:PK X kws t):PK X (⟨nm,e,axR⟩::kws) (ZW te t):=by
 intro pos pins s σ H Q I h;refine wpAny_evalAll_cons (hY (gE Qhi λu s1 ⟨x,H1,j,b,d⟩=>hY (FR (kn ?_))));exact gE (f pos pins s1 σ H1 _ j d) λus s2 ⟨xs,H2,i,a,c⟩=>⟨ _,H2,i,.cons b a,c⟩
structure dz(N P:At)(sc:Scope):Prop where
 kind:sc.kind=.function
 co:sc.isCoroutine=false
 gen:sc.isGenerator=false
 nd:N.Nodup
 pre:N.take P.length=P
 par:∀x∈P,sc.names.lookup x=some .local\/sc.names.lookup x=some .cell
 aoU:∀y∈sc.names,y.2 ≠ .free
theorem Nj{kindOf:Qhn}{x:Str}:∀{binds:D1} {m:Bz},(∀v,(x,v)∉binds)->bindL kindOf binds m x=m x
 | [],_,_=>rfl
 | (n,v)::r,m,h=>by
  unfold bindL;rw[Nj λw hw=>h w (hX _ hw)];split
  .have:x≠n:=by rintro rfl;exact h v hU
   simp[this]
  .rfl
theorem Nk{kindOf:Qhn}{x:Str}:∀{binds:D1} {m:Bz},(∀v,(x,v)∉binds)->bindC kindOf binds m x=m x
 | [],_,_=>rfl
 | (n,v)::r,m,h=>by
  unfold bindC;rw[Nk λw hw=>h w (hX _ hw)];split
  .rfl
  .have:x≠n:=by rintro rfl;exact h v hU
   simp[this]
theorem Nm{kindOf:Qhn}{x:Str}{v:Value}:∀{P:At} {vs:B2} {i:Nat} {m:Bz},P.Nodup->P[i]? = some x->vs[i]? = some v->kindOf x=some .local →
  bindL kindOf (P.zip vs) m x=some v
 | [],_,_,_,_,h,_,_=>by simp at h
 | _::_,[],_,_,_,_,h,_=>by simp at h
 | p::P,w::vs,0,m,nd,h1,h2,a=>by
  simp at h1 h2;subst h1;subst h2;show bindL _ ((p,w)::P.zip vs) m p=_;unfold bindL;rw[Nj λv hv=>(ma.1 nd).1 (List.of_mem_zip hv).1,hO a];simp
 | p::P,w::vs,i+1,m,nd,h1,h2,a=>by
  unfold bindL;exact Nm (ma.1 nd).2 (‹_›) (‹_›) a
theorem Nn{kindOf:Qhn}{x:Str}{v:Value}:∀{P:At} {vs:B2} {i:Nat} {m:Bz},P.Nodup->P[i]? = some x->vs[i]? = some v->kindOf x≠some .local →
  bindC kindOf (P.zip vs) m x=some v
 | [],_,_,_,_,h,_,_=>by simp at h
 | _::_,[],_,_,_,_,h,_=>by simp at h
 | p::P,w::vs,0,m,nd,h1,h2,a=>by
  simp at h1 h2;subst h1;subst h2;show bindC _ ((p,w)::P.zip vs) m p=_;unfold bindC;rw[Nk λv hv=>(ma.1 nd).1 (List.of_mem_zip hv).1,cq a];simp
 | p::P,w::vs,i+1,m,nd,h1,h2,a=>by
  unfold bindC;exact Nn (ma.1 nd).2 (‹_›) (‹_›) a
noncomputable def start(N:At)(vs:BY):St:=vs.map some++List.replicate (N.length-vs.length) none
noncomputable def BR(CX:ue)(P:QaE)(w:World)(K:Frag)(mg:Bz)(base:Heap)(N:At)(qual:Str)(scope:Scope)(f:Addr)(cd:Value)(A:QaF)(outer:EM)(s:Qr)(H:Hp)(E:XK):Cx where
 prog:=P
 w:=w
 K:=K
 mg:=mg
 base:=base
 A:=A.deeper QiA
 N:=N
 h9:=s
 nN:=H
 env:=envOfC qual scope s.heap.objs.size f cd
 outer:=outer
 stack:=envOfC qual scope s.heap.objs.size f cd::outer
 ex:=[]
 calm:=true
 fn:=λ_=>true
 pn:=[]
 xe:=λe s'=>wpAny Qdn (A.deeper QiA) (leaving QiA e) (λ_ a=>CX outer H s E e a) (λb a=>CX outer H s E b a) s'
def TN{sc:Scope}{n:Nat}(h:sc.names.lookup x=some .cell):∃c,(cellsFrom n sc.names []).lookup x=some c:=by
 have q:=cellsFrom_some _ n [] (.inl h);exact Option.isSome_iff_exists.1 q
theorem ab2{N:At}{qual:Str}{scope:Scope}{f:Addr}{cd:Value}{outer:EM}{s1:Qr}{E:XK}{vs:BY}
  (S:dz N ps scope) (hd:QeQ) (e0:WB P w K mg base A outer s H) (B:vs.length=ps.length) (r:Vals vs us)
  (x:InCallC s s.heap.objs.size (bindL (envOfC qual scope s.heap.objs.size f cd).kindOf Qe6 λ_=>none) (cellsFrom Qbh scope.names []) (bindC (envOfC qual scope s.heap.objs.size f cd).kindOf Qe6 λ_=>none) s1) :
  Inv (BR CX P w K mg base N qual scope f cd A outer s H E) [] (start N vs) H s1:=by
 have hpl:ps.length<=N.length:=by have:=congrArg List.length S.pre;rw[ot]at this;lia
 obtain⟨h1,tk,rfl,m⟩:=x.done;have a:∀b:Addr,b∉(BR CX P w K mg base N qual scope f cd A outer s H E).ex:=λb z=>absurd (show b∈([]:BS) from z) Wp;refine⟨⟨e0.mod,S.kind,rfl,rfl,hW _,λy z c h1 h2=>?_,λy g=>?_,λy c _ h=>?_,λ_=>hd,Around.frames_deeper e0.frames,.inr ⟨rfl,rfl⟩,λb z=>absurd z (a b),e0.bs,e0.p5,λb _ _=>a b,λb z=>absurd z (a b),e0.FZ,e0.u7⟩,
  rfl,e0.bare,Un.kept m,⟨_,x.toInCall.ns,λi y v h1 h2 C=>?_⟩,λy c h=>⟨_,x.cell y c h⟩,e0.gD.fresh (hW _),λy c h=>?_,λp j=>absurd (show p∈([]:BM) from j) Wp,e0.gD.kept m,?_⟩
 .exact name_of_addr x.apart (r0 h1) (r0 h2)
 .obtain g|g:=g
  .exact TN g
  .exact absurd rfl (S.aoU _ (r0 g))
 .exact kv (x.above y c (r0 h))
 .have hi:i<vs.length:=by
   unfold start at h2;by_cases hi:i<vs.length
   .exact hi
   .rw[List.getElem?_append_right (by simpa using hi)]at h2;rw[OE]at h2;split at h2<;>cases h2
  have t:vs[i]? = some v:=by
   unfold start at h2;rw[List.getElem?_append_left (by simpa using hi),List.getElem?_map]at h2;simp_all
  obtain⟨u,l,o⟩:=r.get t;have j:ps[i]? = some y:=by
   rw[← S.pre,List.getElem?_take_of_lt We];exact h1
  have d:ps.Nodup:=by rw[← S.pre];exact S.nd.sublist (List.take_sublist _ _)
  refine⟨u,o,?_⟩;obtain k|k:=S.par y (l7 j)
  .exact .inl ⟨k,Nm d j l k⟩
  .obtain⟨c,e⟩:=TN (n:=s.heap.objs.size+1) k;refine .inr ⟨.inl k,c,e,?_⟩;have q:=x.cell y c e;rw[Nn d j l (by show scope.names.lookup y≠_;rw[k];decide)]at q;exact q
 .exact e0.gD.fresh (kv (x.above y c (r0 h)))
 .unfold start;show _=N.length;grind
abbrev _root_.Cn:=Array (Option Value)
theorem Tx{f:Addr}{qual:Str}{params:Arguments}{body:Cs}{scope:Scope}{d kV doc pm iR ct oc:Value}{an od:Dx}
  {osl:Cn} {N:At} {sp:Sp} (lk:K.lookup f=some ⟨oc,od,.func QkG,osl⟩) (k9:codeIn K iR qual=true) (S:dz N ps scope)
  (len:∀vs H Q E,sp vs H Q E->vs.length=ps.length)
  (B:∀(A:QaF) (outer:EM) (s:Qr) (H:Hp) (vs:BY) (Q:VK) (E:XK),fO k (A.deeper (envOfC qual scope s.heap.objs.size f iR))->sp vs H Q E →
   ∃t,Wo (BR CX P w K mg base N qual scope f iR A outer s H E) body t/\t {nx:=λ_ H'=>Q .non H',rt:=Q} (start N vs) H) :
  d7 P w K mg base CX QaZ f QkG ps sp:=by
 refine⟨len,λA outer s H args us vs Q E c e0 p r g=>?_⟩;have m:=len _ _ _ _ g;have h:=e0.mod.xc.keeps λb o e=>(e0.bs b o e).1;have lim:=e0.mod.nolimit.keeps λb o e=>(e0.bs b o e).1;have C:∀y∈ps.zip us,scope.names.lookup y.1=some _\/(scope.names.lookup y.1=some _/\((cellsFrom Qbh _ []).lookup y.1).isSome=true):=λ⟨n,v⟩ i=>by
  obtain q|q:=S.par n (List.of_mem_zip i).1
  .exact .inl q
  .exact .inr ⟨q,cellsFrom_some _ _ _ (.inl q)⟩
 refine codeAny_call_function c.depth (h _ _ lk) rfl S.co S.gen rfl (PySem.W.codeRec_of h k9) (p _ _ _ _ ?_);refine wpAny_newFunctionEnv_cells S.kind C λenv he s1 x=>?_;subst he;refine⟨lim.keeps x.toInCall.keep,codeAny_func ?_⟩;obtain⟨t,j,l⟩:=B A _ s H vs Q E (c.deeper _) g;have I:Inv (BR CX P w K mg base N qual _ f iR A _ s H E) [] _ H s1:=ab2 S c.hd e0 m r x;refine m3 (j [] s1 _ H _ I l) (λz s' hs=>?_) λe s' hs=>hs;have fin:∀{σ':St} {H':Hp} {v:V} {u:Value},Inv (BR CX P w K mg base N qual scope f iR A _ s H E) [] σ' H' s'->RelV v u->Q v H'->CE outer P w H s Q u s':=
  λ{σ' H' v u} J a q=>⟨v,H',J.os,J.bare,J.base,J.gD,a,q⟩
 cases z with
 | ret u=>
  obtain⟨v,σ',H',J,a,q⟩:=hs;exact fin J a q
 | next=>
  obtain⟨σ',H',J,q⟩:=hs;exact fin (v:=V.non) J rfl q
 | brk=>
  obtain⟨_,_,_,q⟩:=hs;simp_all
 | cont=>
  obtain⟨_,_,_,q⟩:=hs;exact False.elim q
section
variable{id T:Qbn}{r:Qj4}
noncomputable def Pd(r:Qj4)(t:TA):TE:=λσ H Q=>t σ H λvs H1=>r vs H1 Q
def j6(g:om X QeS r)(f:Qam)(hm:X.mg x=none)(hv:bootBuiltins x=some QeS)(i:Qd1)(d:QhT:=by decide)(a:AD x:=by decide)
  (he:Qah:=by rfl) (hpl:Qaw:=by rfl):PE X QgI (Pd r t):=by
 intro pins s σ H Q I h;refine tc (qL I f hm hv ?_ d a);exact PyProof.Rows.callWith_builtin1 (gE Qjp λus s1 ⟨vs,H1,j,b,c⟩=>g pins s1 σ H1 vs us Q j b c) he hpl
def jQ(g:om X (.type T) r)(f:Qam)(hm:X.mg x=none)(hv:bootBuiltins x=some (.type T))(i:Qd1)(d:QhT:=by decide)(a:AD x:=by decide)
  (he:Qah:=by rfl) (hpl:Qaw:=by rfl):PE X QgI (Pd r t):=by
 intro pins s σ H Q I h;refine tc (qL I f hm hv ?_ d a);exact we (gE Qjp λus s1 ⟨vs,H1,j,b,c⟩=>g pins s1 σ H1 vs us Q j b c) he hpl
end
end L2
namespace HT
open PySem PyProof.Rows
abbrev _root_.CU:=Option Int
noncomputable def Lp(n d:Nat):CU->Nat
 | none=>d
 | some v=>if v<0 then(v+(n:Int)).toNat else min v.toNat n
end HT
namespace L2
open PySem PySem.Spec PyProof.Rows
abbrev TO:=St->Hp->(CU->Hp->Prop)->Prop
def PO(X:Cx)(e:Qd5)(t:TO):Prop:=
 ∀(pins:BM) (s:Qr) (σ:St) (H:Hp) (Q:CU->Hp->Prop),Inv X pins σ H s->t σ H Q →
  wpAny QA X.A (evalPart e X.env) (λu s'=>∃o H',Inv X pins σ H' s'/\IsPart u o/\Q o H') X.xe s
noncomputable def ajz:TO:=λ_ H Q=>Q none H
noncomputable def atO(t:TE):TO:=λσ H Q=>t σ H λx H1=>∃i,x=.int i/\Q (some i) H1
abbrev _root_.AT:=List Int
theorem intsAre_of{ns:AT}:∀{us:B2},Vals Qbz us->IntsAre us ns:=by
 induction ns with
 | nil=>intro us r;cases r;exact .nil
 | cons n ns c=>
  intro us r;cases r with
  | cons b a=>
   obtain⟨t,e⟩:=b;subst e;exact .cons n t (c a)
variable{X:Cx}{e:Expr}{te:TE}{lo hi:Qd5}{tl th:TO}{pos p2:Pos}
noncomputable def Z6:PO X none ajz:=λpins s σ H Q I h=>kn ⟨none,H,I,.none,h⟩
def Z7(h:QbY):PO X (some e) (atO te):=by
 intro pins s σ H Q I hw;refine gE (h pins s σ H _ I hw) λu s1 zz=>?_;obtain⟨x,H1,c,a,b⟩:=zz;obtain⟨i,rfl,q⟩:=b;obtain⟨t,rfl⟩:=a;exact⟨ _,H1,c,.int i t,q⟩
def SlR(X:Cx)(r:Qi1):Prop:=
 ∀(pins:BM) (s:Qr) (σ:St) (H:Hp) (x:V) (v b a:Value) (lo hi:CU) (sl:Addr) (Q:VK),Inv X pins σ H s->RelV x v->s.heap.IsSliceOf sl b a .none->IsPart b lo->IsPart a hi->r x lo hi H Q →
  ∃T id,typeLookup (.type T) "__getitem__" = pure (some QeS)/\s.TypeIs v T/\wpAny QA X.A (getItem v (.ref sl)) Qa5 X.xe s
noncomputable def tSl(r:Qi1)(te:TE)(tl th:TO):TE:=λσ H Q=>te σ H λx H1=>tl σ H1 λl H2=>th σ H2 λu a=>r x l u a Q
def TR{r:Qi1}(n:SlR X r)(he:QbY)(o:PO X lo tl)(k:PO X hi th):PE X Qll (tSl r te tl th):=by
 intro pins s σ H Q I h;refine Subscript_ (gE QbI λv s1 zz=>?_);obtain⟨x,H1,A,f,j⟩:=zz;refine wpAny_Slice (gE (o pins s1 σ H1 _ A j) λc s2 ⟨l,H2,z,pl,i⟩=>gE (k pins s2 σ H2 _ z i) λa s3 zz=>?_);obtain⟨u,d,y,pu,g⟩:=zz;refine kn ?_;have w:Inv X pins σ d {s3 with heap:=s3.heap.push {cls:=.type "slice",data:=.fields #[c,a,.none]}}:=y.kept λb B q=>ka _ q;obtain⟨T,id,t,m,p⟩:=n pins _ σ d x v c a l u _ Q w f (Heap.IsSliceOf.new ..) pl pu g;exact tail_any m t p (rfl)
def FO(xs:BY)(lo hi:CU):BY:=(xs.drop (HT.Lp xs.length 0 lo)).take QkP
theorem TV(xs:BY)(lo hi:CU):(FO xs lo hi).length<=xs.length:=by
 unfold FO;rw[ot,List.length_drop];lia
noncomputable def Np(n:Nat)(i:Int):Option Nat:=if 0<=i then(if i<n then some i.toNat else none) else if -(n:Int)<=i then some (i+n).toNat else none
variable{α:Type}
def uW(xs:Q1)(i:Int):Option α:=(Np xs.length i).bind λj=>xs[j]?
variable{n:Nat}
theorem BU{i:Int}{j:Nat}(h:Np n i=some j):seqIndex? i n=some j/\j<n /\ -(n:Int)<=i/\i<n:=by
 unfold Np at h;by_cases h0:0<=i
 .rw[hO h0]at h;by_cases h1:i<n
  .rw[hO h1]at h;have e:=k4 h;exact⟨by rw[seqIndex_of h0 h1,e],We,We,h1⟩
  simp_all
 .rw[cq h0]at h;by_cases h1:-n<=i
  .rw[hO h1]at h;have e:=k4 h;exact⟨by rw[seqIndex_neg We h1,e],We,h1,We⟩
  simp_all
theorem Z8{xs:Q1}{i:Int}{v:α}(h:uW xs i=some v):∃j,seqIndex? i xs.length=some j/\xs[j]? = some v/\j<xs.length /\ -(xs.length:Int)<=i/\i<xs.length:=by
 unfold uW at h;cases e:Np _ i with
 | none=>rw[e]at h;cases h
 | some j=>
  rw[e]at h;obtain⟨h1,h2,b,a⟩:=BU e;exact⟨j,h1,h,h2,b,a⟩
theorem d8{xs:Q1}{j:Nat}{v:α}(h:xs[j]? = some v):uW xs (j:Int)=some v:=by
 have a:=(l4.1 h).1;have e:Np xs.length j=some j:=by
  unfold Np;simp_all
 unfold uW;rw[e];exact h
theorem aeP(xs:Q1)(v:α):uW (xs++[v]) (-1)=some v:=by
 have a:(xs++[v]).length=xs.length+1:=by simp
 have e:Np (xs++[v]).length (-1)=some xs.length:=by
  unfold Np;grind
 unfold uW;simp_all
def u5(b:Expr):Prop:=∀o i,subscripted b false o i=operate [o,i] (getItem o i)
def OR(X:Cx)(r:R2):Prop:=
 ∀(value slice:Expr) (pins:BM) (s:Qr) (σ:St) (H:Hp) (x y:V) (v u:Value) (Q:VK),Inv X pins σ H s->RelV x v->RelV y u->r x y H Q →
  subscripted slice false v u=operate [v,u] (getItem v u)->wpAny QA X.A (subscriptTail value slice v u) Qa5 X.xe s
def MtR(X:Cx)(id:Qbn)(r:Qhc):Prop:=
 ∀(pins:BM) (s:Qr) (σ:St) (H:Hp) (x:V) (xs:BY) (v:Value) (us:B2) (Q:VK),Inv X pins σ H s->RelV x v->Vals xs us->r x xs H Q →
  wpAny QA X.A (call QeS (v::us)) Qa5 X.xe s
section
variable{a b:Expr}{ta tb:TE}
noncomputable def Hz{r:R2}(e:OR X r)(g:Qcm)(f:PE X b tb)(hs:u5 b):PE X (.Subscript a b pos) (w7 r ta tb):=λpins s σ H Q I h=>Subscript_ (Nl g f I h λv u s2 x y H2 i d c q=>e a b pins s2 σ H2 x y v u Q i d c q (hs _ _))
def axT(K:Frag):R2:=λx y H Q=>∃p xs i v,x=.ref p/\y=.int i/\oj K H p xs/\uW xs i=some v/\Q v H
def axU(K:Frag):R2:=λx y H Q=>∃p xs i v,x=.ref p/\y=.int i/\Dz K H p xs/\uW xs i=some v/\Q v H
theorem GB:OR X (axT X.K):=by
 intro value slice pins s σ H x y v u Q I c b h hs;obtain⟨p,xs,i,z,rfl,rfl,d,he,q⟩:=h;cases c;obtain⟨t,rfl⟩:=b;obtain⟨its,r,pl,hz⟩:=I.list d;obtain⟨j,h1,h2,m,g,f⟩:=Z8 he;obtain⟨w,n,a⟩:=r.get h2;have l:=r.length;have k:=Hv;have fin:EP X pins σ Q w s:=⟨z,H,I,a,q⟩;by_cases h0:0<=i
 .have e:i.toNat=j:=by
   rw[seqIndex_of h0 f]at h1;grind
  exact item_listR pl.isList h0 We W7 fin hs
 .have e:(i+its.toArray.size).toNat=j:=by
   rw[seqIndex_neg We g]at h1;simp_all
  exact subscriptTail_builtinR pl.isList.typeIs slot_list_getitem.lookup
   (wpAny_getItem_list_neg pl.isList We W7 We W7 ⟨rfl,fin⟩) hs
theorem WC:OR X (axU X.K):=by
 intro value slice pins s σ H x y v u Q I c b h hs;obtain⟨p,xs,i,z,rfl,rfl,d,he,q⟩:=h;cases c;obtain⟨t,rfl⟩:=b;obtain⟨its,r,pl,hz⟩:=I.tuple d;obtain⟨j,h1,h2,l,k,g⟩:=Z8 he;obtain⟨w,m,a⟩:=r.get h2;have f:=r.length;have e:=Hv;have fin:EP X pins σ Q w s:=⟨z,H,I,a,q⟩;exact subscriptTail_builtinR pl.typeIs slot_tuple_getitem.lookup
  (getItem_tuple (j:=j) pl We We W7 W7 ⟨rfl,fin⟩) hs
noncomputable def WD(its:B2)(n j:Nat)(u:Value):Obj.mapSeq (·.setIfInBounds j u) {cls:=.type "list",data:=.seq its.toArray n}={cls:=.type "list",data:=.seq (its.set j u).toArray n}:=by
 simp[Obj.mapSeq]
theorem Inv.lst{pins:BM}{σ:St}{H:Hp}{s:Qr}{p:Addr}{xs:BY}(I:QE)(h:H p=some QaY) :
  ∃(its:B2) (n:Nat),Vals xs its/\s.heap.get? p=some {cls:=.type "list",data:=.seq its.toArray n}/\xs.length<=sizeLine:=by
 obtain⟨z,its,n,r,e⟩:=I.gD p _ h;exact⟨its,n,r,e,z⟩
theorem Inv.aoV{pins:BM}{σ:St}{H:Hp}{s:Qr}{p:Addr}{xs ys:BY}{its a:B2}{c:Nat}{f:Obj->Obj}(I:QE)(h:H p=some QaY)
  (d:s.heap.get? p=some {cls:=.type "list",data:=.seq its.toArray n}) (hf:f {cls:=.type "list",data:=.seq its.toArray n}={cls:=.type "list",data:=.seq a.toArray c}) (r:Vals ys a) (hz:ys.length<=sizeLine) (t:Nat) :
  Inv X pins σ (upd H p (.lst ys)) {s with heap:=s.heap.update p f,toks:=t}:=by
 have e:(s.heap.update p f).get? p=some {cls:=.type "list",data:=.seq a.toArray c}:=by
  rw[LH f d (by rw[hf]<;>rfl),hf]
 refine I.write (by rw[h];trivial) Q4 (λb u g q=>(GS _ _ (mf g)).trans q) ⟨_,e⟩ ?_;exact⟨hz,a,c,r,e⟩
def atP:V->V->V->Hp->(Hp->Prop)->Prop:=λo i v H Q=>∃p xs k j,o=.ref p/\i=.int k/\H p=some QaY/\Np xs.length k=some j/\Q (upd H p (.lst (xs.set j v)))
theorem set_list:Sk X atP:=by
 intro pins s σ H o i v x y u Q I f g e h;obtain⟨p,xs,k,j,rfl,rfl,c,l,q⟩:=h;cases f;obtain⟨t,rfl⟩:=g;obtain⟨its,n,r,a,hz⟩:=I.lst c;obtain⟨h1,h2,w,m⟩:=BU l;have A:=r.length;have z:=Hv;have d:=
  I.aoV c a (WD its n j u) (r.set e j) W7 s.toks
 by_cases h0:0<=k
 .have b:k.toNat=j:=by
   rw[seqIndex_of h0 m]at h1;grind
  exact PySem.W.ki_setAt a h0 We W7 (b▸⟨_,d,q⟩)
 .have b:(k+its.toArray.size).toNat=j:=by
   rw[seqIndex_neg We w]at h1;simp_all
  exact PySem.W.ki_setBack a We W7 We (b▸⟨_,d,q⟩)
theorem OZ(lo hi:CU)(n:Nat):(sliceBounds lo hi none n).1=((HT.Lp n 0 lo:Nat):Int)/\(sliceBounds lo hi none n).2.1=((HT.Lp n n hi:Nat):Int)/\(sliceBounds lo hi none n).2.2=1:=by
 refine⟨?_,?_,rfl⟩
 .cases lo with
  | none=>simp[sliceBounds,HT.Lp]
  | some i=>
   simp[sliceBounds,HT.Lp,o3];by_cases h:i<0
   .simp only[h,o3]<;>lia
   .simp[h]<;>lia
 .cases hi with
  | none=>simp[sliceBounds,HT.Lp]
  | some i=>
   simp[sliceBounds,HT.Lp,o3];by_cases h:i<0
   .simp only[h,o3]<;>lia
   .simp[h]<;>lia
def Ly(its:B2)(lo hi:CU):slicePick its.toArray lo hi none=((its.drop (HT.Lp its.length 0 lo)).take (HT.Lp its.length its.length hi-HT.Lp its.length 0 lo)).toArray:=by
 obtain⟨h1,h2,a⟩:=OZ lo hi _;unfold slicePick;rw[h1,h2,a];simp only[sliceRange_one,pick_run]<;>rfl
def axV(K:Frag):V->CU->CU->Hp->VK->Prop:=λx lo hi H Q=>∃a xs,x=.ref a/\oj K H a xs/\∀p,H p=none->Q Qdx (upd H p (.lst (FO xs lo hi)))
theorem Z9:SlR X (axV X.K):=by
 intro pins s σ H x v g f lo hi sl Q I d hs pl pu h;obtain⟨a,xs,rfl,e,q⟩:=h;cases d;obtain⟨its,r,c,hz⟩:=I.list e;have hlen:=r.length;refine⟨ _,_,slot_list_getitem.lookup,c.isList.typeIs,?_⟩;refine wpAny_getItem_list_slice c.isList hs pl pu .none Wp ?_ W8;rw[Ly,← hlen];refine⟨.ref _,_,I.laid (λb i q=>ka _ q) (hW _) ?_,rfl,q _ QfC⟩;exact⟨kq (TV xs lo hi) hz,_,0,(r.drop _).take _,lG _ rfl⟩
noncomputable def zZ:V->Bool
 | .non=>true
 | .bl _=>true
 | .int _=>true
 | .str _ => true
 | _=>false
noncomputable def oI:V->V->Bool
 | .non,.non=>true
 | .bl a,.bl b=>a==b
 | .bl a,.int b=>(if a then 1 else 0)==b
 | .int a,.bl b=>a==Qg6
 | .int a,.int b=>a==b
 | .str a, .str b => a == b
 | _,_=>false
theorem aoW{A:QaF}{s:Qr}{y x:V}{u v:Value}(d:QcS)(c:RelV x v)(e:zZ y=true)(fx:zZ x=true):SeqAt.EqAt A s u v (oI y x):=by
 cases y with
 | non=>
  cases d;cases x with
  | non=>cases c;exact SeqAt.EqAt.same _
  | bl b=>cases c;exact SeqAt.EqAt.none_bool b
  | int b=>obtain⟨t,rfl⟩:=c;exact SeqAt.EqAt.none_int b t
  | str b=>obtain⟨t,rfl⟩:=c;exact SeqAt.EqAt.none_str b t
  | _=>exact absurd (show false=true from fx) me
 | bl a=>
  cases d;cases x with
  | non=>cases c;exact SeqAt.EqAt.bool_none a
  | bl b=>cases c;exact SeqAt.EqAt.bool_bool a b
  | int b=>obtain⟨t,rfl⟩:=c;exact SeqAt.EqAt.bool_int a b t
  | str b=>obtain⟨t,rfl⟩:=c;exact SeqAt.EqAt.bool_str a b t
  | _=>exact absurd (show false=true from fx) me
 | int a=>
  obtain⟨t',rfl⟩:=d;cases x with
  | non=>cases c;exact SeqAt.EqAt.int_none a t'
  | bl b=>cases c;exact SeqAt.EqAt.int_bool a t' b
  | int b=>obtain⟨t,rfl⟩:=c;exact SeqAt.EqAt.int_int a t' b t
  | str b=>obtain⟨t,rfl⟩:=c;exact SeqAt.EqAt.int_str a t' b t
  | _=>exact absurd (show false=true from fx) me
 | str a=>
  obtain⟨t',rfl⟩:=d;cases x with
  | non=>cases c;exact SeqAt.EqAt.str_none a t'
  | bl b=>cases c;exact SeqAt.EqAt.str_bool a t' b
  | int b=>obtain⟨t,rfl⟩:=c;exact SeqAt.EqAt.str_int a t' b t
  | str b=>obtain⟨t,rfl⟩:=c;exact SeqAt.EqAt.str_str a t' b t
  | _=>exact absurd (show false=true from fx) me
 | _=>exact absurd (show false=true from e) me
def va(x:V)(u:Value):Bool:=match u with
 | .none=>oI .non x
 | .bool b=>oI (.bl b) x
 | .int i _=>oI QaQ x
 | .str z _ => oI (.str z) x
 | _=>false
theorem aeR{x y:V}{u:Value}(r:QcS)(f:zZ y=true):va x u=oI y x:=by
 cases y with
 | non=>cases r;rfl
 | bl b=>cases r;rfl
 | int i=>obtain⟨t,rfl⟩:=r;rfl
 | str z=>obtain⟨t,rfl⟩:=r;rfl
 | _=>exact absurd (f) me
theorem BV{x:V}:∀{xs:BY} {us:B2},Vals xs us->xs.all zZ=true->us.any (va x)=xs.any λy=>oI y x
 | _,_,.nil,_=>rfl
 | y::xs,u::us,.cons r t,f=>by
  rw[vw,km]at f;rw[p7,p7,aeR r f.1,BV t f.2]
theorem xB{A:QaF}{s:Qr}{x:V}{v:Value}(b:RelV x v)(fx:zZ x=true):∀{xs:BY} {us:B2},Vals xs us->xs.all zZ=true->∀u∈us,SeqAt.EqAt A s u v (va x u)
 | _,_,.nil,_=>λu a=>by cases a
 | y::xs,u::us,.cons r t,f=>λc a=>by
  rw[vw,km]at f;obtain rfl|a:=hR.1 a
  .rw[aeR r f.1];exact aoW r b f.1 fx
  .exact xB b fx t f.2 c a
def u3(x:V)(xs:BY):Bool:=xs.any λy=>oI y x
def Pe(K:Frag)(neg:Bool):R2:=λx y H Q=>∃p xs,y=.ref p/\(oj K H p xs\/Dz K H p xs)/\zZ x=true/\xs.all zZ=true/\Q (.bl (if neg then !u3 x xs else u3 x xs)) H
def yV:BP X (compareOp .In) (Pe X.K false):=by
 intro pins s σ H x y v u Q I b c h;obtain⟨p,xs,rfl,a,fx,fs,q⟩:=h;cases c;obtain a|a:=a
 .obtain⟨its,r,pl,hz⟩:=I.list a;refine SeqAt.in_listAt _ pl.isList QgR ⟨.bl _,H,I,rfl,?_⟩;rw[show its.toArray.any _=its.any (va x) by simp,BV r fs];exact q
 .obtain⟨its,r,pl,hz⟩:=I.tuple a;refine SeqAt.in_tupleAt _ pl QgR ⟨.bl _,H,I,rfl,?_⟩;rw[show its.toArray.any _=its.any (va x) by simp,BV r fs];exact q
def qg:BP X (compareOp .NotIn) (Pe X.K true):=by
 intro pins s σ H x y v u Q I b c h;obtain⟨p,xs,rfl,a,fx,fs,q⟩:=h;cases c;obtain a|a:=a
 .obtain⟨its,r,pl,hz⟩:=I.list a;refine SeqAt.notIn_listAt _ pl.isList QgR ⟨.bl _,H,I,rfl,?_⟩;rw[show its.toArray.any _=its.any (va x) by simp,BV r fs];exact q
 .obtain⟨its,r,pl,hz⟩:=I.tuple a;refine SeqAt.notIn_tupleAt _ pl QgR ⟨.bl _,H,I,rfl,?_⟩;rw[show its.toArray.any _=its.any (va x) by simp,BV r fs];exact q
theorem BW:om X (.builtin "len") (λxs H Q=>∃p ys,xs=[.ref p]/\(oj X.K H p ys\/Dz X.K H p ys)/\Q (.int ys.length) H):=by
 intro pins s σ H xs us Q I r h;obtain⟨p,ys,rfl,a,q⟩:=h;obtain⟨u,rfl,c⟩:=vals1 r;cases c;have d:=Hv;obtain a|a:=a
 .obtain⟨its,b,pl,hz⟩:=I.list a;have hlen:=b.length;exact Calls.call_len_list pl.isList (by simp only[nt]<;>lia) ⟨.int _,H,I.tok _,⟨s.toks+1,by simp_all ⟩,q⟩
 .obtain⟨its,b,pl,hz⟩:=I.tuple a;have hlen:=b.length;exact len_tuple pl (by simp only[nt]<;>lia) ⟨.int _,H,I.tok _,⟨s.toks+1,by simp_all ⟩,q⟩
theorem BX:om X QeM (λxs H Q=>∃p ys,xs=[.ref p]/\(oj X.K H p ys\/Dz X.K H p ys)/\∀l,H l=none->Q Qee (upd H l (.lst ys))):=by
 intro pins s σ H xs us Q I r h;obtain⟨p,ys,rfl,c,q⟩:=h;obtain⟨u,rfl,i⟩:=vals1 r;cases i;have fin:∀(its:List _),Vals ys its->ys.length<=sizeLine->∀(h':Heap) (g:Nat),(∀b o',s.heap.get? b=some o'->h'.get? b=some o') →
   h'.get? _=some _->EP X pins σ Q _ _:=λits a hz h' g kp e=>
  ⟨.ref _,_,I.laid (t':=s.toks) kp (hW _) (show iC _ X.w _ h' _ (.lst ys) from⟨hz,its,g,a,e⟩),rfl,q _ QfC⟩
 obtain c|c:=c
 .obtain⟨its,a,pl,hz⟩:=I.list c;have hlen:=a.length;obtain⟨o,d,f,n,hd⟩:=pl.isList;exact call_list_seq p Q4 d f hd (fin its a hz) W8
 .obtain⟨its,a,pl,hz⟩:=I.tuple c;have hlen:=a.length;obtain⟨o,d,f,n,hd⟩:=pl;exact call_list_seq p Qar d f hd (fin its a hz) W8
theorem z7:om X (.type "tuple") (λxs H Q=>∃p ys,xs=[.ref p]/\((oj X.K H p ys/\∀l,H l=none->Q Qee (upd H l (.tup ys)))\/(Dz X.K H p ys/\Q Qdx H))):=by
 intro pins s σ H xs us Q I r h;obtain⟨p,ys,rfl,h⟩:=h;obtain⟨u,rfl,f⟩:=vals1 r;cases f;obtain⟨c,q⟩|⟨c,q⟩:=h
 .obtain⟨its,a,pl,hz⟩:=I.list c;have hlen:=a.length;refine call_tuple_list pl.isList (λh' kp=>?_) W8;have d:=I.kept (t':=s.toks) kp;have g:=
   d.laid (t':=s.toks) (λb o e=>ka _ e) (hW _) (show iC _ X.w _ _ _ (.tup ys) from⟨hz,its,a,IsTup.new _ _⟩)
  exact⟨.ref _,_,g,rfl,q _ (d.gD.fresh (hW _))⟩
 .obtain⟨its,a,pl,hz⟩:=I.tuple c;exact call_tuple_same pl ⟨.ref p,H,I,rfl,q⟩
def O3(K:Frag)(T:Qbn)(x:V)(H:Hp):Prop:=match x with
 | .str _ => T = "str"
 | .int _=>T="int"
 | .ref p=>(T="list" /\ ∃xs,oj K H p xs)\/(T="tuple" /\ ∃o,K.lookup p=some o/\o.cls=.type "tuple" /\ o.dict=none) ∨
   (T="dict" /\ ((∃kvs,H p=some Qck)\/∃kvs,H p=some (.dT kvs)))\/(T="set" /\ ∃S n,H p=some (.set S n))
 | _=>False
theorem aoZ{pins:BM}{σ:St}{H:Hp}{s:Qr}{T:Qbn}{x:V}{v:Value}(I:QE)(r:RelV x v)(ty:O3 X.K T x H) :
  s.TypeIs v T/\∀a,v=.ref a->∃d,s.heap.get? a=some d/\d.dict=none:=by
 cases x with
 | str z=>
  obtain⟨t,rfl⟩:=r;cases (ty);exact⟨typeIs_str s z t,λ_ e=>nomatch e⟩
 | int i=>
  obtain⟨t,rfl⟩:=r;cases (ty);exact⟨typeIs_int s i t,λ_ e=>nomatch e⟩
 | ref p=>
  cases r;obtain⟨rfl,xs,f⟩|⟨rfl,o,b,g,hd⟩|⟨rfl,b⟩|⟨rfl,S,n,b⟩:=ty
  .obtain⟨its,_,pl,_⟩:=I.list f;refine⟨pl.isList.typeIs,λa e=>?_⟩;obtain⟨o,n,e,c,hd,_⟩:=pl;simp_all
  .refine⟨⟨o,I.Gy p o b,g⟩,λa e=>?_⟩;cases e;exact⟨o,I.Gy _ o b,hd⟩
  .have z:∃o,s.heap.get? p=some o/\o.ExactDict:=by
    obtain⟨kvs,b⟩|⟨kvs,b⟩:=b
    .obtain⟨_,_,_,_,o,_,_,e,ex,_⟩:=I.gD p _ b;simp_all
    .obtain⟨_,_,_,_,o,_,_,e,ex,_⟩:=I.gD p _ b;simp_all
   obtain⟨o,e,ex⟩:=z;refine⟨⟨o,e,ex.1⟩,λa e2=>?_⟩;cases e2;exact⟨o,e,ex.2.1⟩
  .obtain⟨o,_,_,_,e,ex,_⟩:=I.gD p _ b;refine⟨⟨o,e,ex.1⟩,λa e2=>?_⟩;cases e2;exact⟨o,e,ex.2.1⟩
 | _=>exact False.elim ty
noncomputable def tBM(K:Frag)(T:Qbn)(r:Qhc)(to:TE)(t:TA):TE:=λσ H Q=>to σ H λx H1=>O3 K T x H1/\t σ H1 λxs H2=>r x xs H2 Q
variable{o:Expr}{es:Cf}{to:TE}{t:TA}{name:Str}{apos ab3:Pos}{T id:Qbn}{r:Qhc}
def HB(pa:PlainAttrs T)(slot:Slot T name id)(b:typeOf QeS=pure (.type "method_descriptor"))(hm:MtR X id r)(m:PE X o to)(n:Qd1)
  (l:AS X o name:=by rfl)
  (g:((backTo ab3 QcY).all Qh8&&(backToKw ab3 Qgf).all Qhm
   && decide ((e::es).length+([]:EU).length+Qgz<30))=true:=by rfl)
  (a:(apos.endLine==ab3.line)=true:=by rfl) (hs:Qah:=by rfl) (p:AL X ab3 es:=by rfl) :
  PE X (.Call (.Attribute o name apos) Qae [] ab3) (tBM X.K T r to t):=by
 intro pins s σ H Q I h;refine wpAny_Call_method_late l g a rfl (gE (m pins s σ H _ I h) λv s1 zz=>?_);obtain⟨x,H1,f,c,ty,k⟩:=zz;obtain⟨h1,h2⟩:=aoZ f c ty;refine⟨T,id,pa,slot,b,h1,h2,?_⟩;have d:=n ab3 pins s1 σ H1 _ f k;rw[hs]at d ⊢;refine Calls.callWith_builtin (‹_›) (Calls.evalArgs_plain ?_);exact gE d λus s2 ⟨vs,H2,q,i,j⟩=>hm pins s2 σ H2 x vs v us Q q c i j
end
def He(X:Cx)(id:Qbn)(r:Qhc):Prop:=
 ∀(pins:BM) (s:Qr) (σ:St) (H:Hp) (x:V) (xs:BY) (v:Value) (us:B2) (Q:VK),Inv X pins σ H s->RelV x v->Vals xs us->r x xs H Q →
  wpAny QA X.A (call QeS (v::us)) Qa5 X.xe s
variable{x:V}
theorem Vals.one{us:B2}(h:Vals [x] us):∃u,us=[u]/\RelV x u:=by
 cases h with
 | cons r h=>cases h;exact⟨_,rfl,r⟩
theorem Vals.two{y:V}{us:B2}(h:Vals [x,y] us):∃u v,us=[u,v]/\RelV x u/\RelV y v:=by
 cases h with
 | cons r h=>cases h with
  | cons q h=>cases h;exact⟨_,_,rfl,r,q⟩
theorem Vals.eraseIdx:∀{xs:BY} {us:B2} (i:Nat),Vals xs us->Vals (xs.eraseIdx i) (us.eraseIdx i)
 | _,_,_,.nil=>.nil
 | _,_,0,.cons _ t=>t
 | _,_,i+1,.cons r t=>.cons r (Vals.eraseIdx i t)
theorem Vals.rep{xs:BY}{us:B2}(h:Qdr):∀k:Nat,Vals (List.replicate k xs).flatten (List.replicate k us).flatten
 | 0=>.nil
 | k+1=>Vals.append h (Vals.rep h k)
theorem Nq{α:Type}:∀(l:Q1) (i:Nat),(l.eraseIdx i).length<=l.length
 | [],_=>hW _
 | _::_,0=>oa _
 | _::r,i+1=>Nat.succ_le_succ (Nq r i)
theorem foldl_rep(its:B2):∀(k:Nat) (acc:B2),
  List.foldl (λb a=>b++a) acc.toArray (List.replicate k its.toArray)=(acc++(List.replicate k its).flatten).toArray
 | 0,acc=>by simp
 | k+1,acc=>by
  have e:acc.toArray++its.toArray=(acc++its).toArray:=by simp
  have e2:(acc++its)++(List.replicate k its).flatten=acc++(List.replicate QaZ its).flatten:=by
   rw[List.replicate_succ,List.flatten_cons,hZ]
  rw[← e2,← foldl_rep its k _,← e,List.replicate_succ,rj]
variable{pins:BM}{σ:St}{H:Hp}{s:Qr}{l:Addr}{xs ys:BY}
theorem Inv.FK{its a:B2}{f:CS->CS}{t':Nat}(I:QE)(d:H l=some QaY)
  (e:s.heap.get? l=some {cls:=.type "list",data:=.seq its.toArray n}) (hf:f its.toArray=a.toArray) (hv:Vals ys a) (hz:ys.length<=sizeLine) :
  Inv X pins σ (upd H l (.lst ys)) {s with heap:=s.heap.update l (Obj.mapSeq f),toks:=t'}:=by
 have q:=PySem.IsL.update e f;rw[hf]at q;refine I.write (d▸trivial) Q4 (λg u c b=>(GS _ _ (mf c)).trans b) ⟨_,q⟩ ?_;exact⟨hz,a,_,hv,q⟩
theorem Inv.Sr{its:B2}{t':Nat}(I:QE)(hv:Vals ys its)(hz:ys.length<=sizeLine) :
  Inv X pins σ (upd H s.heap.objs.size (.lst ys)) {s with heap:=s.heap.push {cls:=.type "list",data:=.seq its.toArray},toks:=t'}:=
 I.laid (λ_ _ q=>ka _ q) (hW _) ⟨hz,its,0,hv,lG _ rfl⟩
theorem Inv.fresh(I:QE):H s.heap.objs.size=none:=I.gD.fresh (hW _)
theorem Inv.x3(I:QE)(a:H l=some QaY):xs.length<=sizeLine/\∃(its:B2) (n:Nat),Vals xs its/\xs.length=its.length/\s.heap.get? l=some {cls:=.type "list",data:=.seq its.toArray n}:=by
 obtain⟨z,its,n,r,e⟩:=I.gD l _ a;exact⟨z,its,n,r,r.length,e⟩
theorem BZ(h:n<=sizeLine):Builtin.List.listTooLong n=false:=lr We
def ajB:V->BY->Hp->VK->Prop:=λx vs H Q=>∃l xs y,x=.ref l/\vs=[y]/\H l=some QaY/\xs.length<sizeLine/\Q .non (upd H l (.lst (xs++[y])))
theorem DC:He X "list.append" ajB:=by
 intro pins s σ H x vs v us Q I b c h;obtain⟨l,xs,y,rfl,rfl,a,hz,q⟩:=h;cases b;obtain⟨u,rfl,d⟩:=c.one;obtain⟨z,its,n,r,f,e⟩:=I.x3 a;refine tw F.slot_list_append ⟨_,e,rfl⟩ F.entry_list_append (F.args_list_append_2 _ _) (PySem.list_append l _ n u W8) ⟨e,?_⟩;refine⟨.non,_,I.FK a e Wp (r.append (.cons d .nil)) ?_,rfl,q⟩;grind
def ajC:V->BY->Hp->VK->Prop:=λx vs H Q=>∃l b xs zs,x=.ref l/\vs=[.ref b]/\H l=some QaY/\H b=some (.lst zs)/\xs.length+zs.length<=sizeLine/\Q .non Qjx
theorem ab5:He X "list.extend" ajC:=by
 intro pins s σ H x vs v us Q I d f h;obtain⟨l,b,xs,zs,rfl,rfl,a,m,hz,q⟩:=h;cases d;obtain⟨u,rfl,g⟩:=f.one;cases g;obtain⟨z,its,n,r,t,e⟩:=I.x3 a;obtain⟨p,c,j,i,k,e2⟩:=I.x3 m;have hsz:its.toArray.size+c.toArray.size<=sizeLine:=by grind
 have o:¬ (!its.toArray.isEmpty&&Builtin.List.listTooLong (its.toArray.size+c.toArray.size))=true:=by
  rw[BZ hsz];grind
 refine tw F.slot_list_extend ⟨_,e,rfl⟩ F.entry_list_extend Qjm
  (AutoSeq1.list_extend_list_list_0 l _ n b _ j o W8 We) ⟨e,e2,?_⟩
 refine⟨.non,_,I.FK a e Wp (r.append i) ?_,rfl,q⟩;simp_all
def ao0:V->BY->Hp->VK->Prop:=λx vs H Q=>∃l xs i k y,x=.ref l/\vs=[.int i]/\H l=some QaY /\ -(2 ^ 63)<=i/\i<2 ^ 63/\seqIndex? i xs.length=some k/\xs[k]? = some y/\Q y (upd H l (.lst (xs.eraseIdx k)))
theorem aeU:He X "list.pop" ao0:=by
 intro pins s σ H x vs v us Q I c d h;obtain⟨l,xs,i,k,y,rfl,rfl,b,h1,h2,m,g,q⟩:=h;cases c;obtain⟨u,rfl,f⟩:=d.one;obtain⟨t,rfl⟩:=f;obtain⟨z,its,n,r,j,e⟩:=I.x3 b;obtain⟨w,hw,a⟩:=r.get g;refine tw F.slot_list_pop ⟨_,e,rfl⟩ F.entry_list_pop (F.args_list_pop_2 _ _)
  (MeetsSeq.list_pop_at l _ n i t k w (fitsIndex_both h1 h2) W7 W7 W7) ⟨e,?_⟩
 refine⟨y,_,I.FK b e ?_ (r.eraseIdx k) ?_,a,q⟩
 .simp_all
 .have:=Nq xs k;lia
def len_rep(xs:Q1)(k:Nat):(List.replicate k xs).flatten.length=k*xs.length:=by simp
end L2
namespace Att
open PySem PySem.W PySem.Calls PyProof.Rows
def F2{P:Params}{h:Heap}:∀(ns:AT) (vs:B2),WellAll P h vs (ns.map WData.int)->IntsAre vs ns:=by
 intro ns
 induction ns with
 | nil=>
  intro vs w;cases w;exact .nil
 | cons n ns c=>
  intro vs w;cases w with
  | cons a b=>
   cases a;exact .cons _ _ (c _ b)
theorem ab6{l:OpenLaw}{n:Nat}(i:l.most=some n){P:Params}{h:Heap}{args:List WData}{vals:B2}
  (e:l.row.toRowW.claim.pre args=true) (c:WellAll P h vals args) :
  ∃a vs ns,vals=[Value.ref a]/\args=[WData.list (ns.map WData.int)]/\h.get? a=some {cls:=.type "list",data:=.seq vs.toArray}/\IntsAre vs ns/\ns.length<=n:=by
 have HC:=(pre_splitW e).1;have j:=(pre_splitW e).2;obtain⟨d,r,rfl,h1,h2⟩:=hasAllW_cons HC;obtain rfl:=hasAllW_nil h2;obtain⟨xs,rfl,k⟩:=hasW_list h1;obtain⟨ns,rfl⟩:=items_int k;have hlen:ns.length<=n:=by
  have b:=by
   have b:=(holds_andW j).1;rw[i]at b;exact b
  have o:=condW_of b (w_not (w_lt w_lit (w_len_list (w_arg rfl))));simp_all
 cases c with
 | cons f w2=>
  cases w2;cases f with
  | list g m=>exact⟨_,_,ns,rfl,rfl,g,F2 ns _ m,hlen⟩
def ab7(l:OpenLaw)(args:List WData):l.row.toRowW.claim.post args QfL args=true:=
 postW_of
  (rfl)
  (w_eq_bool (w_res rfl) w_lit) rfl
def TY{l:OpenLaw}{n:Nat}{q:QaE}{loose:At}{m:Bz->Heap->Prop}{k:Qj7}{d:DefRec}
  (u:l.most=some n) (h:Qkf)
  (call:∀(w:World) (h9 b:Qr) (mg mb:Bz) (c:Addr) (o:Obj) (pm cd doc:Value) (a:Addr) (vs:B2) (ns:AT),
   Ground q loose [] m w h9 mg mb b.heap->k w b.heap →
   b.heap.get? c=some o->o.data=.func (docDef d.name d.params d.body d.scope pm cd doc)->b.heap.CodeRec cd d.name->mg d.name=some (.ref c) →
   b.heap.get? a=some {cls:=.type "list",data:=.seq vs.toArray}->IntsAre vs ns->ns.length<=n->b.gens=#[] →
   codeAny (model l.prog w) callerA (.call (.ref c) ⟨[.ref a],[]⟩) (λr s'=>r=.ok (.ret QfL)/\OldK b.heap s'.heap/\s'.os=b.os/\AllBare s'.gens) b) :
  WalkO q loose m k l.row.toRowW d [] Qi2:=by
 intro w h9 b mg mb G Y c o pm cd doc A kV t hd k9 hD g x args vals as B j p e v;obtain rfl:A=.none:=Dflts.none hD h;obtain rfl:kV=.none:=Dflts.noKw hD;obtain⟨a,vs,ns,rfl,rfl,i,hints,hlen⟩:=ab6 u B e;refine enter_call (codeAny_mono (call w h9 b mg mb c o pm cd doc a vs ns G Y t (fd_plain hd) k9 g i hints hlen x) λr s' s=>?_);obtain⟨rfl,h2,z,y⟩:=s;exact⟨.inl ⟨ _,_,[],rfl,λ_=>rfl,.bool true,ab7 l _,λ_=>⟨List.Pairwise.nil,λ_ hm=>(nomatch hm)⟩⟩,h2,z,y⟩
noncomputable def ledger(h:Heap)(L d:Addr):BM:=(List.range h.objs.size).filterMap λa=>if a=L\/a=d then none else(h.get? a).map λo=>(a,o)
end Att
namespace L2
open PySem PySem.Spec PyProof.Rows
theorem Nr:∀{vs:B2} {ns:AT},IntsAre vs ns->Vals Qbz vs
 | _,_,.nil=>.nil
 | _,_,.cons n t h=>.cons ⟨t,rfl⟩ (Nr h)
noncomputable def inClass(s:Stmt)(j:Nat):Stmt:=match s with
 | .ClassDef _ _ _ body _ _ _ _ _ _ _=>body.getD j (.Pass ⟨0,0,0,0⟩)
 | _=>.Pass ⟨0,0,0,0⟩
noncomputable def B3(s:Stmt):Arguments:=match s with
 | .FunctionDef _ a _ _ _ _ _ _ _ _=>a
 | _=>{posonlyargs:=[],args:=[],vararg:=none,kwonlyargs:=[],kw_defaults:=[],kwarg:=none,defaults:=[]}
noncomputable def d9(s:Stmt):Cs:=match s with
 | .FunctionDef _ _ b _ _ _ _ _ _ _=>b
 | _=>[]
noncomputable def aj(s:Stmt):Scope:=match s with
 | .FunctionDef _ _ _ _ _ _ sc _ _ _=>sc
 | _=>{kind:=.function,names:=[],isGenerator:=false,isCoroutine:=false}
noncomputable abbrev mX:ue:=λ_ _ _ _ _ _=>False
noncomputable abbrev E0:XK:=λ_ _ _=>False
variable{X:Cx}
noncomputable def xD:Passes mX X E0:=λ_ _ _ _ _ _ _ h=>h.elim
structure jq(K:Frag)(x qual:Str)(st:Stmt)(f:Addr)(fd:Qa0):Prop where
 ex:∃(oc:Value) (od:Dx) (kV doc pm:Value) (an:Dx) (iR ct:Value) (osl:Cn),
  fd=fnOf x qual (B3 st) Qcp Qcj .none kV doc pm an iR ct/\K.lookup f=some ⟨oc,od,.func fd,osl⟩/\codeIn K iR qual=true
 kp:keepIn K Qad=true
variable{P:QaE}{w:World}{K:Frag}{mg:Bz}{base:Heap}
theorem jq.ok{x qual:Str}{st:Stmt}{f:Addr}{fd:Qa0}{N ps:At}{k:Nat}{sp:Sp}(F:Qc3)(S:QdR)(len:∀vs H Q E,sp vs H Q E->vs.length=ps.length)
  (c:∀(iR:Value) (A:QaF) (outer:EM) (s:Qr) (H:Hp) (vs:BY) (Q:VK) (E:XK),fO k (A.deeper QdC)->sp vs H Q E →
   ∃t,Wo (BR mX P w K mg base N qual Qcj f iR A outer s H E).nc Qcp t/\t {nx:=λ_ H'=>Q .non H',rt:=Q} (start N vs) H):d7 P w K mg base mX QaZ f fd ps sp:=by
 obtain⟨oc,od,kV,doc,pm,an,iR,ct,osl,rfl,lk,k9⟩:=F.ex;refine Tx lk k9 S len λA outer s H vs Q E a b=>?_;obtain⟨t,h,q⟩:=c iR A _ s H vs Q E a b;exact⟨t,h.nc,q⟩
theorem jq.binds{x qual:Str}{st:Stmt}{f:Addr}{fd:Qa0}{ps:At}(F:Qc3)
  (h:∀(kV doc pm:Value) (an:Dx) (iR ct:Value) (us:B2),us.length=ps.length->bindArgs Qir ⟨us,[]⟩=pure Qe6):Binds K fd ps []:=by
 obtain⟨oc,od,kV,doc,pm,an,iR,ct,osl,rfl,lk,k9⟩:=F.ex;exact .all (h kV doc pm an iR ct)
def aX{x qual:Str}{st:Stmt}{f:Addr}{oc:Value}{od an:Dx}{osl:Cn}{kV doc pm iR ct:Value}(l:K.lookup f=some ⟨oc,od,.func Qir,osl⟩)
  (c:codeIn K iR qual=true) (k:keepIn K Qad=true):jq K x qual st f Qir:=⟨⟨oc,od,kV,doc,pm,an,iR,ct,osl,rfl,l,c⟩,k⟩
noncomputable def cA{n:Nat}(h:n<=1000):n<sizeLine:=p8 h Wl
def T3{A B:Prop}(h:B):if false=true then A else B:=‹_›
def O1{A B:Prop}(h:A):if true=true then A else B:=‹_›
def aB(H H':Hp):Prop:=∀b o,H b=some o->H' b=some o
theorem aB.refl(H:Hp):aB H H:=λ_ _ h=>h
variable{H:Hp}
theorem aB.trans{H1 H2:Hp}(a:aB H H1)(b:aB H1 H2):aB H H2:=λc o h=>b c o (a c o h)
variable{H':Hp}
theorem aB.free(e:aB H H'){l:Addr}(h:H' l=Option.none):H l=Option.none:=by
 cases q:H l with
 | none=>rfl
 | some o=>
  rw[e l o q]at h;cases h
variable{a:Addr}
theorem aB.seq{xs:BY}(e:aB H H')(h:oj K H a xs):oj K H' a xs:=by
 rcases h with(h|⟨o,h⟩)|h
 .exact .inl (.inl QdF)
 .exact .inl (.inr ⟨o,e _ _ h⟩)
 .exact .inr h
section
variable{κ:Type}[DecidableEq κ]
noncomputable def xE(kvs:QbF)(k:κ):Option V:=(kvs.find? λa=>decide (a.1=k)).map (·.2)
noncomputable def putK(kvs:QbF)(k:κ)(v:V):List (κ×V):=
 if Qfl=true then kvs.map QkQ else kvs++[(k,v)]
def uh{p:κ×V}{r:QbF}{k:κ}(e:p.1=k):xE (p::r) k=some p.2:=by simp[xE,sA,e]
def qN{p:κ×V}{r:QbF}{k:κ}(e:¬ p.1=k):xE (p::r) k=xE r k:=by simp[xE,sA,e]
theorem T4(k:κ):∀kvs:List (κ×V),Qfl=(xE kvs k).isSome
 | []=>rfl
 | p::r=>by
  rw[p7];by_cases e:p.1=k
  .simp only[uh e,kx e,Bool.true_or,Option.isSome_some]
  .rw[qN e,lr e,Bool.false_or];exact T4 k r
theorem E6(kvs:QbF)(k:κ)(v:V):(putK kvs k v).length<=kvs.length+1:=by
 unfold putK;split
 .rw[hP];lia
 .rw[j2,k8,List.length_nil];lia
theorem Aw.ab8{o:QdV}{u:Option Value}(r:Aw o u):o.isSome=u.isSome:=by
 cases o with
 | none=>cases u with
  | none=>rfl
  | some _=>exact(show False from r).elim
 | some _=>cases u with
  | none=>exact(show False from r).elim
  | some _=>rfl
theorem Aw.getD{o:QdV}{u:Option Value}{d:V}{d':Value}(r:Aw o u)(rd:RelV d d'):RelV (o.getD d) (u.getD d'):=by
 cases o with
 | none=>cases u with
  | none=>exact rd
  | some _=>exact(show False from r).elim
 | some _=>cases u with
  | none=>exact(show False from r).elim
  | some _=>exact r
theorem KV.val{kvs:QbF}{vs:QdM}(r:Qdw)(k:κ):Aw (xE kvs k) (valueAt vs k):=by
 unfold KV at r
 induction r with
 | nil=>exact True.intro
 | @cons p q ps a h t d=>
  obtain⟨h1,h2⟩:=h;by_cases e:p.1=k
  .have c:q.1=k:=h1.symm.trans e;have b:valueAt (q::a) k=some q.2:=by simp[valueAt,sA,c]
   rw[uh e,b];exact h2
  .have c:¬ q.1=k:=λz=>e (h1.trans z);have b:valueAt (q::a) k=valueAt a k:=by simp[valueAt,sA,c]
   rw[qN e,b];exact d
theorem KV.any{kvs:QbF}{vs:QdM}(r:Qdw)(k:κ):Qfl=vs.any λa=>decide (a.1=k):=by
 unfold KV at r
 induction r with
 | nil=>rfl
 | cons h t b=>rw[p7,p7,b,h.1]
theorem KV.mx{kvs:QbF}{vs:QdM}(r:Qdw)(k:κ){y:V}{u:Value}(b:QcS) :
  KV QkE (vs.map λa=>if a.1=k then(a.1,u) else a):=by
 unfold KV at r ⊢
 induction r with
 | nil=>exact .nil
 | @cons p q ps d h t c=>
  rw[kc,kc];refine .cons ?_ c;obtain⟨h1,h2⟩:=h;by_cases e:p.1=k
  .rw[hO e,hO (h1.symm.trans e)];exact⟨h1,b⟩
  .rw[cq e,cq (λz=>e (h1.trans z))];exact⟨h1,h2⟩
theorem KV.put{kvs:QbF}{vs:QdM}(r:Qdw)(k:κ){y:V}{u:Value}(a:QcS):KV (putK kvs k y) (stored vs k u):=by
 unfold putK stored;rw[r.any k];by_cases e:(vs.any λb=>decide (b.1=k))=true
 .rw[hO e,hO e];exact r.mx k a
 .rw[cq e,cq e];exact Paired.snoc r ⟨rfl,a⟩
theorem KV.keys{kvs:QbF}{vs:QdM}(r:Qdw):kvs.map (·.1)=vs.map (·.1):=by
 unfold KV at r
 induction r with
 | nil=>rfl
 | cons h t a=>rw[kc,kc,a,h.1]
theorem KV.length{kvs:QbF}{vs:QdM}(r:Qdw):kvs.length=vs.length:=Paired.length r
end
variable{u:Value}
theorem Tu{k:Key}(r:RelV (kV k) u):(iy P w).is k u=true:=by
 cases k with
 | inl i=>obtain⟨t,e⟩:=(show ∃t,u=Value.int i t from r);subst e;exact Tr P w i t
 | inr x=>obtain⟨t,e⟩:=(show ∃t,u=Value.str x t from r);subst e;exact Tt P w x t
theorem Nt{P:QaE}{w:World}:∀{ks:Do} {us:B2},Vals (ks.map kV) us->ItemsAre Qdt ks us
 | [],_,r=>by rw[List.map_nil]at r;cases r;exact .nil
 | k::ks,_,r=>by
  rw[kc]at r;cases r with
  | cons h t=>exact .cons (Tu h) (Nt t)
abbrev KT(H:Hp):CA->List Qfz->Prop:=Paired λp q=>p.1=q.1/\H q.2.1=some (.tup (p.1.map kV))/\RelV p.2 q.2.2
variable{kvs:CA}{xs:List Qfz}
theorem KT.val(r:KT H kvs xs)(k:Do):Aw (xE kvs k) ((atKey xs k).map (·.2)):=by
 induction r with
 | nil=>exact True.intro
 | @cons p q ps a h t d=>
  obtain⟨h1,_,h2⟩:=h;by_cases e:p.1=k
  .have c:q.1=k:=h1.symm.trans e;have b:atKey (q::a) k=some q.2:=by simp[atKey,sA,c]
   rw[uh e,b];exact h2
  .have c:¬ q.1=k:=λz=>e (h1.trans z);have b:atKey (q::a) k=atKey a k:=by simp[atKey,sA,c]
   rw[qN e,b];exact d
variable{y:V}
theorem KT.mx(r:KT H kvs xs)(k:Do)(b:QcS) :
  KT H QkE (xs.map (putAt k u)):=by
 induction r with
 | nil=>exact .nil
 | @cons p q ps f h t c=>
  rw[kc,kc];refine .cons ?_ c;obtain⟨h1,h2,d⟩:=h;unfold putAt;by_cases e:p.1=k
  .rw[hO e,hO (h1.symm.trans e)];exact⟨h1,h2,b⟩
  .rw[cq e,cq (λz=>e (h1.trans z))];exact⟨h1,h2,d⟩
theorem KT.put(r:KT H kvs xs)(k:Do){b:Addr}(d:H b=some (.tup (k.map kV)))(a:QcS) :
  KT H (putK kvs k y) (storedH xs k b u):=by
 have e:(kvs.any λc=>decide (c.1=k))=(atKey xs k).isSome:=by
  rw[T4,(r.val k).ab8,Option.isSome_map]
 unfold putK storedH;rw[e];by_cases q:(atKey xs k).isSome=true
 .rw[hO q,hO q];exact r.mx k a
 .rw[cq q,cq q];exact Paired.snoc r ⟨rfl,d,a⟩
theorem KT.keeps(r:KT H kvs xs)(a:∀b ys,H b=some (.tup ys)->H' b=some (.tup ys)):KT H' kvs xs:=
 Paired.Na r λ_ _ z=>⟨z.1,a _ _ z.2.1,z.2.2⟩
variable{h:Heap}
noncomputable def Ts{u:HO}(ok:Qbs)(e:Rd H a u):iC P w H h a u:=e.ok ok
def atV{kvs:Cl}(ok:Qbs)(e:Rd H a Qck):kvs.length<=sizeLine/\Qdc=false/\∃vs,KV kvs vs/\h.DictOf Qdt a vs:=
 show iC P w H h a Qck from Ts ok e
def To{kvs:Cl}(ok:Qbs)(e:H a=some Qck):kvs.length<=sizeLine/\Qdc=false/\∃vs,KV kvs vs/\h.DictOf Qdt a vs:=atV ok (.inl e)
def aeV{ks:Do}(ok:Qbs)(e:H a=some (.tup (ks.map kV))):(tupleKind Qdt).is h ks a:=by
 obtain⟨_,its,r,o,h1,h2,n,b⟩:=(show iC P w H h a (.tup (ks.map kV)) from ok a _ e);exact⟨o,its.toArray,n,h1,h2,b,by simpa using Nt r⟩
def atW(ok:Qbs)(e:Rd H a (.dT kvs)):kvs.length<=sizeLine/\Qdc=false ∧
  ∃xs,KT H kvs xs/\h.DictOfH Qkj a xs:=by
 obtain⟨z,y,xs,r,o,es,ep,h1,h2,i,g,f⟩:=(show iC P w H h a (.dT kvs) from Ts ok e);refine⟨z,y,xs,r,o,es,ep,h1,h2,i,g,λx b=>?_,f⟩;have all:∀{l:CA} {m:List Qfz},KT H l m->∀x∈m,(tupleKind Qdt).is h x.1 x.2.1:=by
  intro l m q
  induction q with
  | nil=>intro x b;exact nomatch b
  | @cons p q ps j c t d=>
   intro x b;obtain e|b:=hR.1 b
   .subst e;exact aeV ok (by rw[← c.1];exact c.2.1)
   .exact d x b
 exact all r x b
def atX(ok:Qbs)(e:H a=some (.dT kvs)):kvs.length<=sizeLine/\Qdc=false ∧
  ∃xs,KT H kvs xs/\h.DictOfH Qkj a xs:=atW ok (.inl e)
def FF(H:Hp)(a:Addr)(y v:V)(H':Hp):Prop:=
 (∃kvs k,H a=some Qck/\y=kV k/\kvs.length<sizeLine/\H'=upd H a (.dK (putK kvs k v))) ∨
 ∃kvs k b,H a=some (.dT kvs)/\y=.ref b/\H b=some (.tup (k.map kV))/\kvs.length<sizeLine/\H'=upd H a (.dT (putK kvs k v))
theorem FF.k{kvs:Cl}{k:Key}{v:V}(e:H a=some Qck)(b:kvs.length<sizeLine):FF H a (kV k) v (upd H a (.dK (putK kvs k v))):=.inl ⟨kvs,k,e,rfl,b,rfl⟩
variable{pins:BM}{σ:St}{s:Qr}{v:V}{r:Value}{A:QaF}{E:Bi}
theorem Inv.big(I:QE):sysModules<s.heap.objs.size:=by
 have h:mainGlobals<s.heap.objs.size:=(I.mod.glob.keeps I.bk).lt;exact Nat.lt_trans Wl h
noncomputable def aac{h':Heap}{t':Nat}{c:HO}(I:QE)(d:Hd (H a))(hs:Heap.SameBut a s.heap h')(he:∃q,h'.get? a=some q)(new:iC X.prog X.w (upd H a c) h' a c) :
  Inv X pins σ (upd H a c) {s with heap:=h',toks:=t'}:=
 I.write (x:=a) (e:=a) d Q4 (λb q f z=>(hs.2 b f).trans z) he new
noncomputable def ao3{h':Heap}{kvs:Cl}{vs:List (Key×Value)}(z:kvs.length<=sizeLine)(hd:Qdc=false)(rel:Qdw)(dd:h'.DictOf Qdt a vs) :
  iC P w H' h' a Qck:=⟨z,hd,vs,rel,dd⟩
theorem ab9{Q:Unit->Shared->Prop}(x:A.units+1<cLine)(I:QE)(g:FF H a y v H')(n:QcS)(o:RelV v r)(h:∀s',Inv X pins σ H' s'->Q () s') :
  wpAny QA A (setItem Qao u r) Q E s:=by
 obtain⟨kvs,k,e,j,l,m⟩|⟨kvs,k,b,e,j,t,l,m⟩:=g
 .subst j m;obtain⟨z,hd,vs,rel,dd⟩:=To I.gD e;have hz:vs.length<=sizeLine:=by rw[← rel.length];exact z
  have i:(putK kvs k v).length<=sizeLine:=by have:=E6 kvs k v;lia
  refine wpAny_setItem_pairs (hsz:=hz) (Tu n) dd λh' d hs=>h _ ?_;have he:∃q,h'.get? a=some q:=let ⟨q,_,_,f,_⟩:=d;⟨q,f⟩;exact aac I (by rw[e];exact True.intro) hs he (ao3 i hd (rel.put k o) d)
 .subst j m;cases (show u=Value.ref b from n);obtain⟨z,hd,xs,rel,dd⟩:=atX I.gD e;have hz:xs.length<=sizeLine:=by rw[← Paired.length rel];exact z
  have i:(putK kvs k v).length<=sizeLine:=by have:=E6 kvs k v;lia
  refine wpAny_setItem_heap (hsz:=hz) (tupleKind_room_in1 x) (aeV I.gD t) dd λh' d hs=>h _ ?_;obtain⟨q,es,ep,f,h2,D,C,_,B⟩:=d;refine aac I (by rw[e];exact True.intro) hs ⟨q,f⟩ ⟨i,hd,_,(rel.put k t o).keeps λc ys p=>?_,q,es,ep,f,h2,D,C,B⟩;rw[aq (ate p e (λz=>nomatch z))];exact p
noncomputable def atY(td ty tv:TE):TS:=λD σ H=>tv σ H λv H1=>td σ H1 λx H2=>ty σ H2 λy c=>∃a b,x=.ref a/\FF c a y v b/\D.nx σ b
variable{o i value:Expr}{pos pos':Pos}{td ty tv:TE}
def ajD(k:X.A.units+1<cLine)(l:PE X o td)(hi:PE X i ty)(hv:PE X value tv)(hs:swapsWith value (some (.Subscript o i pos')) pos.line X.env=pure false) :
  PS X (.Assign [.Subscript o i pos'] value pos) (atY td ty tv):=by
 intro pins s σ H D I h;refine wpAny_Assign_Subscript (gE (hv pins s σ H _ I h) λr s1 ⟨v,H1,q,d,j⟩=>gE (l pins s1 σ H1 _ q j) λu s2 ⟨x,H2,p,c,f⟩=>gE (hi pins s2 σ H2 _ p f) λw s3 zz=>?_) hs;obtain⟨y,z,n,b,a,t,ex,g,e⟩:=zz;subst ex;obtain rfl:u=Value.ref a:=c;exact ab9 k n g b d λs4 m=>⟨σ,t,m,e⟩
noncomputable def aeX(h:Heap)(a:sysModules<h.objs.size):iC P w H (h.push {cls:=.type "dict",data:=.dict #[]}) h.objs.size (.dK []):=
 ⟨i8 _,F1.2 (mf (kr a)),[],.nil,Heap.DictOf.new h⟩
def ao4:TE:=λ_ H Q=>∀p,H p=none->Q Qdx QhI
def aeY:PE X (.Dict [] [] pos) ao4:=λpins s σ H Q I h=>
 wpAny_Dict_empty ⟨.ref s.heap.objs.size,_,I.laid (a:=s.heap.objs.size) (o:=.dK []) (t':=s.toks) (λ_ _ q=>ka _ q) (hW _) (aeX s.heap I.big),rfl,h _ QfC⟩
end L2
namespace L3
open PySem PySem.Spec PyProof.Rows L2
inductive D where
 | non|bl (b:Bool)|int (i:Int)|str (x:Str)
 | tup (ds:List D)|lst (ds:List D)|ins (c:Str) (fs:List (Str×D))|um (kvs:List (Key×D))
 | dct (kvs:List (Do×D))
 | any
 | val (v:V)
 | E8 (w:World) (ds es:List D)
abbrev _root_.BA:=List D
abbrev _root_.CO:=List (Key×D)
inductive T where
 | sh (d:D)|tup (ts:List T)|lst (ts:List T)|ins (c:Str) (fs:List (Str×T))|um (kvs:CO)|dct (kvs:List (Do×T))
 | pin (x:Addr) (t:T)
 | E8 (w:World) (ds es:BA)
abbrev _root_.BN:=List (Str×T)
abbrev _root_.Bn:=List T
abbrev _root_.Ch:=List (Do×T)
abbrev _root_.DA:=List (Do×D)
abbrev _root_.Da:=List (Str×D)
mutual
def T.gW:T->D
 | .sh d=>d
 | .tup ts=>.tup (iD ts)
 | .lst ts=>.lst (iD ts)
 | .ins c fs=>.ins c (xj fs)
 | .um kvs=>.um kvs
 | .dct kvs=>.dct (NG kvs)
 | .pin _ t=>t.gW
 | .E8 w ds es=>.E8 w ds es
def T.iD:Bn->BA
 | []=>[]
 | t::ts=>t.gW::T.iD ts
def T.xj:BN->Da
 | []=>[]
 | (x,t)::fs=>(x,t.gW)::T.xj fs
def T.NG:Ch->DA
 | []=>[]
 | (x,t)::fs=>(x,t.gW)::T.NG fs
end
mutual
def D.HC(w:World):D->Int
 | .int i=>hashInt i
 | .str x => hashStr w x
 | .tup ds=>reduceHash (Builtin.Tuple.tupleHashOf (D.So w ds))
 | _=>0
def D.So(w:World):BA->AT
 | []=>[]
 | d::ds=>d.HC w::D.So w ds
end
def IxP(w:World)(a:Addr)(ds:BA)(vs us:BY)(h:Heap):Prop:=
 Qdc=false/\∃(xs:List (D×Addr×Value)) (o:Obj) (es:Array DictEntry) (ep:Nat),h.get? a=some o/\o.ExactDict/\o.data=.dict es ep/\es.toList=xs.map (λx=>⟨x.1.HC w,.ref x.2.1,x.2.2⟩)/\xs.map (·.1)=ds/\xs.map (λx=>V.ref x.2.1)=vs/\Vals us (xs.map λx=>x.2.2)
abbrev _root_.BC:=Str->Addr
variable(K:Frag)(CL:BC)
mutual
inductive cB(Z:Hp):D->V->Prop where
 | non:cB Z .non .non
 | bl (b:Bool):cB Z (.bl b) (.bl b)
 | int (i:Int):cB Z QaQ QaQ
 | str (x:Str):cB Z Qbm Qbm
 | any (v:V):cB Z .any v
 | val (v:V):cB Z (.val v) v
 | tup {a:Addr} {vs:BY} {ds:BA}:Dz K Z a vs->au Z ds vs->cB Z QcJ Qao
 | lst {a:Addr} {vs:BY} {ds:BA}:oj K Z a vs->au Z ds vs->cB Z QcK Qao
 | ins {a dx:Addr} {c:Str} {gs:CI} {fs:Da}:Z a=some Qhy->pW Z fs gs->cB Z Qci Qao
 | um {a:Addr} {gs:Cl} {fs:CO}:Z a=some (.dK gs)->cT Z fs gs->cB Z (.um fs) Qao
 | dct {a:Addr} {gs:CA} {fs:DA}:Rd Z a Qef->qO Z fs gs->cB Z (.dct fs) Qao
 | E8 {a:Addr} {w:World} {vs us:BY} {ds es:BA}:Z a=some (.ext (IxP w a ds vs us))->au Z ds vs->au Z es us->cB Z (.E8 w ds es) Qao
inductive au(Z:Hp):BA->BY->Prop where
 | nil:au Z [] []
 | cons {d:D} {v:V} {ds:BA} {vs:BY}:cB Z d v->au Z ds vs->au Z (d::ds) QaO
inductive pW(Z:Hp):Da->CI->Prop where
 | nil:pW Z [] []
 | cons {x:Str} {d:D} {v:V} {ds:Da} {vs:CI}:cB Z d v->pW Z ds vs->pW Z ((x,d)::ds) ((x,v)::vs)
inductive cT(Z:Hp):CO->Cl->Prop where
 | nil:cT Z [] []
 | cons {x:Key} {d:D} {v:V} {ds:CO} {vs:Cl}:cB Z d v->cT Z ds vs->cT Z ((x,d)::ds) ((x,v)::vs)
inductive qO(Z:Hp):DA->CA->Prop where
 | nil:qO Z [] []
 | cons {x:Do} {d:D} {v:V} {ds:DA} {vs:CA}:cB Z d v->qO Z ds vs->qO Z ((x,d)::ds) ((x,v)::vs)
end
mutual
inductive b9(H Z:Hp):T->V->BS->Prop where
 | sh {d:D} {v:V}:cB K CL Z d v->b9 H Z (.sh d) v []
 | tup {a:Addr} {vs:BY} {ts:Bn} {fp:BS}:Z a=some (.tup vs)->aW H Z ts vs fp->b9 H Z (.tup ts) Qao fp
 | lst {a:Addr} {vs:BY} {ts:Bn} {fp:BS}:H a=some (.lst vs)->aW H Z ts vs fp->b9 H Z (.lst ts) Qao (a::fp)
 | ins {a dx:Addr} {c:Str} {gs:CI} {fs:BN} {fp:BS}:H a=some Qhy->dS H Z fs gs fp->b9 H Z Qci Qao (a::fp)
 | um {a:Addr} {gs:Cl} {kvs:CO}:H a=some (.dK gs)->cT K CL Z kvs gs->b9 H Z (.um kvs) Qao [a]
 | dct {a:Addr} {gs:CA} {kvs:Ch} {fp:BS}:H a=some Qef->fY H Z kvs gs fp->b9 H Z (.dct kvs) Qao (a::fp)
 | pin {x:Addr} {t:T} {fp:BS}:b9 H Z t QbU fp->b9 H Z (.pin x t) QbU fp
 | E8 {a:Addr} {w:World} {vs us:BY} {ds es:BA}:H a=some (.ext (IxP w a ds vs us))->au K CL Z ds vs->au K CL Z es us->b9 H Z (.E8 w ds es) Qao [a]
inductive aW(H Z:Hp):Bn->BY->BS->Prop where
 | nil:aW H Z [] [] []
 | cons {t:T} {v:V} {ts:Bn} {vs:BY} {fp gp:BS}:b9 H Z t v fp->aW H Z ts vs gp->aW H Z (t::ts) QaO (fp++gp)
inductive dS(H Z:Hp):BN->CI->BS->Prop where
 | nil:dS H Z [] [] []
 | cons {x:Str} {t:T} {v:V} {ts:BN} {vs:CI} {fp gp:BS}:b9 H Z t v fp->dS H Z ts vs gp->dS H Z ((x,t)::ts) ((x,v)::vs) (fp++gp)
inductive fY(H Z:Hp):Ch->CA->BS->Prop where
 | nil:fY H Z [] [] []
 | cons {x:Do} {t:T} {v:V} {ts:Ch} {vs:CA} {fp gp:BS}:b9 H Z t v fp->fY H Z ts vs gp->fY H Z ((x,t)::ts) ((x,v)::vs) (fp++gp)
end
abbrev _root_.BB:=List (Option T)
inductive f6(H Z:Hp):BB->L2.St->BS->Prop where
 | nil:f6 H Z [] [] []
 | skip {o:QdV} {δ:BB} {σ:L2.St} {fp:BS}:f6 H Z δ σ fp->f6 H Z (none::δ) (o::σ) fp
 | cons {t:T} {v:V} {δ:BB} {σ:L2.St} {fp gp:BS}:b9 K CL H Z t v fp->f6 H Z δ σ gp->f6 H Z (some t::δ) (some v::σ) (fp++gp)
variable{K:Frag}{CL:BC}{H H':Hp}{a:Addr}
theorem Rd.mono{u:HO}(e:aB H H')(h:Rd H a u):Rd H' a u:=h.imp (e _ _) λ⟨o,q⟩=>⟨o,e _ _ q⟩
variable{xs:BY}
theorem aB.pw(e:aB H H')(h:Dz K H a xs):Dz K H' a xs:=by
 rcases h with(h|⟨o,h⟩)|h
 .exact .inl (.inl QdF)
 .exact .inl (.inr ⟨o,e _ _ h⟩)
 .exact .inr h
variable{Z Z':Hp}{v:V}
theorem cB.mono(e:Qbt){d:D}(h:Qdh):cB K CL Z' d v:=
 cB.rec
  .non .bl .int .str .any .val QgJ QgN QgW Qg1 QgE QgK .nil Qa2 .nil Qa2 .nil Qa2 .nil Qa2 h
theorem au.mono(e:Qbt){d:BA}{v:BY}(h:au K CL Z d v):au K CL Z' d v:=
 au.rec
  .non .bl .int .str .any .val QgJ QgN QgW Qg1 QgE QgK .nil Qa2 .nil Qa2 .nil Qa2 .nil Qa2 h
theorem pW.mono(e:Qbt){d:Da}{v:CI}(h:pW K CL Z d v):pW K CL Z' d v:=
 pW.rec
  .non .bl .int .str .any .val QgJ QgN QgW Qg1 QgE QgK .nil Qa2 .nil Qa2 .nil Qa2 .nil Qa2 h
theorem cT.mono(e:Qbt){d:CO}{v:Cl}(h:cT K CL Z d v):cT K CL Z' d v:=
 cT.rec
  .non .bl .int .str .any .val QgJ QgN QgW Qg1 QgE QgK .nil Qa2 .nil Qa2 .nil Qa2 .nil Qa2 h
variable{t:T}{fp:BS}
theorem b9.mono(e:Qbt)(k:∀a∈fp,H' a=H a)(h:QfJ):b9 K CL H' Z' t v fp:=
 b9.rec (motive_2:=λt v fp _=>(∀a∈fp,H' a=H a)->aW K CL H' Z' t v fp) (motive_3:=λt v fp _=>(∀a∈fp,H' a=H a)->dS K CL H' Z' t v fp) (motive_4:=λt v fp _=>(∀a∈fp,H' a=H a)->fY K CL H' Z' t v fp)
  (λh _=>.sh (h.mono e)) QgG Qgp Qgq Qgm Qgr Qg9 Qgh QaP Qbu QaP Qbu QaP Qbu h k
theorem aW.mono(e:Qbt){t:Bn}{v:BY}(k:∀a∈fp,H' a=H a)(h:aW K CL H Z t v fp):aW K CL H' Z' t v fp:=
 aW.rec (motive_1:=λt v fp _=>(∀a∈fp,H' a=H a)->b9 K CL H' Z' t v fp) (motive_3:=λt v fp _=>(∀a∈fp,H' a=H a)->dS K CL H' Z' t v fp) (motive_4:=λt v fp _=>(∀a∈fp,H' a=H a)->fY K CL H' Z' t v fp)
  (λh _=>.sh (h.mono e)) QgG Qgp Qgq Qgm Qgr Qg9 Qgh QaP Qbu QaP Qbu QaP Qbu h k
theorem dS.mono(e:Qbt){t:BN}{v:CI}(k:∀a∈fp,H' a=H a)(h:dS K CL H Z t v fp):dS K CL H' Z' t v fp:=
 dS.rec (motive_1:=λt v fp _=>(∀a∈fp,H' a=H a)->b9 K CL H' Z' t v fp) (motive_2:=λt v fp _=>(∀a∈fp,H' a=H a)->aW K CL H' Z' t v fp) (motive_4:=λt v fp _=>(∀a∈fp,H' a=H a)->fY K CL H' Z' t v fp)
  (λh _=>.sh (h.mono e)) QgG Qgp Qgq Qgm Qgr Qg9 Qgh QaP Qbu QaP Qbu QaP Qbu h k
theorem fY.mono(e:Qbt){t:Ch}{v:CA}(k:∀a∈fp,H' a=H a)(h:fY K CL H Z t v fp):fY K CL H' Z' t v fp:=
 fY.rec (motive_1:=λt v fp _=>(∀a∈fp,H' a=H a)->b9 K CL H' Z' t v fp) (motive_2:=λt v fp _=>(∀a∈fp,H' a=H a)->aW K CL H' Z' t v fp) (motive_3:=λt v fp _=>(∀a∈fp,H' a=H a)->dS K CL H' Z' t v fp)
  (λh _=>.sh (h.mono e)) QgG Qgp Qgq Qgm Qgr Qg9 Qgh QaP Qbu QaP Qbu QaP Qbu h k
theorem b9.there(h:QfJ):∀a∈fp,∃o,H a=some o:=
 b9.rec (motive_3:=λt v fp _=>∀a∈fp,∃o,H a=some o) (motive_4:=λt v fp _=>∀a∈fp,∃o,H a=some o)
  (λ_ a b=>absurd b ke) Qh1 (λh _ r a b=>(hR.1 b).elim (λq=>⟨_,q▸h⟩) (r a)) (λh _ r a b=>(hR.1 b).elim (λq=>⟨_,q▸h⟩) (r a)) (λh _ a b=>(hR.1 b).elim (λq=>⟨_,q▸h⟩) QcZ) (λh _ r a b=>(hR.1 b).elim (λq=>⟨_,q▸h⟩) (r a)) Qic (λh _ _ a b=>(hR.1 b).elim (λq=>⟨_,q▸h⟩) QcZ) Qbx Qbv Qbx Qbv Qbx Qbv h
theorem aW.there{t:Bn}{v:BY}(h:aW K CL H Z t v fp):∀a∈fp,∃o,H a=some o:=
 aW.rec (motive_1:=λt v fp _=>∀a∈fp,∃o,H a=some o) (motive_3:=λt v fp _=>∀a∈fp,∃o,H a=some o) (motive_4:=λt v fp _=>∀a∈fp,∃o,H a=some o)
  (λ_ a b=>absurd b ke) Qh1 (λh _ r a b=>(hR.1 b).elim (λq=>⟨_,q▸h⟩) (r a)) (λh _ r a b=>(hR.1 b).elim (λq=>⟨_,q▸h⟩) (r a)) (λh _ a b=>(hR.1 b).elim (λq=>⟨_,q▸h⟩) QcZ) (λh _ r a b=>(hR.1 b).elim (λq=>⟨_,q▸h⟩) (r a)) Qic (λh _ _ a b=>(hR.1 b).elim (λq=>⟨_,q▸h⟩) QcZ) Qbx Qbv Qbx Qbv Qbx Qbv h
theorem dS.there{t:BN}{v:CI}(h:dS K CL H Z t v fp):∀a∈fp,∃o,H a=some o:=
 dS.rec (motive_1:=λt v fp _=>∀a∈fp,∃o,H a=some o) (motive_2:=λt v fp _=>∀a∈fp,∃o,H a=some o) (motive_3:=λt v fp _=>∀a∈fp,∃o,H a=some o) (motive_4:=λt v fp _=>∀a∈fp,∃o,H a=some o)
  (λ_ a b=>absurd b ke) Qh1 (λh _ r a b=>(hR.1 b).elim (λq=>⟨_,q▸h⟩) (r a)) (λh _ r a b=>(hR.1 b).elim (λq=>⟨_,q▸h⟩) (r a)) (λh _ a b=>(hR.1 b).elim (λq=>⟨_,q▸h⟩) QcZ) (λh _ r a b=>(hR.1 b).elim (λq=>⟨_,q▸h⟩) (r a)) Qic (λh _ _ a b=>(hR.1 b).elim (λq=>⟨_,q▸h⟩) QcZ) Qbx Qbv Qbx Qbv Qbx Qbv h
theorem fY.there{t:Ch}{v:CA}(h:fY K CL H Z t v fp):∀a∈fp,∃o,H a=some o:=
 fY.rec (motive_1:=λt v fp _=>∀a∈fp,∃o,H a=some o) (motive_2:=λt v fp _=>∀a∈fp,∃o,H a=some o) (motive_3:=λt v fp _=>∀a∈fp,∃o,H a=some o) (motive_4:=λt v fp _=>∀a∈fp,∃o,H a=some o)
  (λ_ a b=>absurd b ke) Qh1 (λh _ r a b=>(hR.1 b).elim (λq=>⟨_,q▸h⟩) (r a)) (λh _ r a b=>(hR.1 b).elim (λq=>⟨_,q▸h⟩) (r a)) (λh _ a b=>(hR.1 b).elim (λq=>⟨_,q▸h⟩) QcZ) (λh _ r a b=>(hR.1 b).elim (λq=>⟨_,q▸h⟩) (r a)) Qic (λh _ _ a b=>(hR.1 b).elim (λq=>⟨_,q▸h⟩) QcZ) Qbx Qbv Qbx Qbv Qbx Qbv h
theorem b9.gW(e:Qbt)(k:∀a∈fp,Z' a=H a)(h:QfJ):cB K CL Z' t.gW v:=
 b9.rec (motive_2:=λt v fp _=>(∀a∈fp,Z' a=H a)->au K CL Z' _ v) (motive_3:=λt v fp _=>(∀a∈fp,Z' a=H a)->pW K CL Z' _ v) (motive_4:=λt v fp _=>(∀a∈fp,Z' a=H a)->qO K CL Z' _ v)
  (λh _=>by exact h.mono e) (λh _ r k=>by exact .tup (Dz.of QdF) (r k)) (λh _ r k=>by exact .lst (oj.of ((k _ hU).trans h)) Qel) (λh _ r k=>by exact .ins ((k _ hU).trans h) Qel) (λh f k=>by exact .um ((k _ hU).trans h) (cT.mono e f)) (λh _ r k=>by exact .dct (.inl ((k _ hU).trans h)) Qel) (λ_ r k=>by rw[T.gW];exact r k) (λh f g k=>by exact .E8 ((k _ hU).trans h) (au.mono e f) (au.mono e g)) (λ_=>by exact .nil) (λ_ _ h r k=>by rw[T.iD];exact .cons Qjq Qjr) (λ_=>by rw[T.xj];exact .nil) (λ_ _ h r k=>by exact .cons Qjq Qjr) (λ_=>by exact .nil) (λ_ _ h r k=>by rw[T.NG];exact .cons Qjq Qjr) h k
variable{vs:BY}
theorem au.ind{P:BA->BY->Prop}(n:P [] [])(c:∀{d:D} {v:V} {ds:BA} {vs:BY},cB K CL Z d v->au K CL Z ds vs->P ds vs->P (d::ds) QaO){ds:BA}(h:QeK):P ds vs:=
 au.rec (motive_1:=λ_ _ _=>True) (motive_3:=λ_ _ _=>True) (motive_4:=λ_ _ _=>True) (motive_5:=λ_ _ _=>True)
  trivial Qa4 Qa4 Qa4 Qa4 Qa4 Qaf Qaf Qaf Qaf Qaf Qg4 n QeA trivial Qat trivial Qat trivial Qat h
theorem cT.ind{P:CO->Cl->Prop}(n:P [] [])(c:∀{x:Key} {d:D} {v:V} {ds:CO} {vs:Cl},cB K CL Z d v->cT K CL Z ds vs->P ds vs->P ((x,d)::ds) ((x,v)::vs)){ds:CO}{vs:Cl}(h:cT K CL Z ds vs):P ds vs:=
 cT.rec (motive_1:=λ_ _ _=>True) (motive_2:=λ_ _ _=>True) (motive_3:=λ_ _ _=>True) (motive_5:=λ_ _ _=>True)
  trivial Qa4 Qa4 Qa4 Qa4 Qa4 Qaf Qaf Qaf Qaf Qaf Qg4 trivial Qat trivial Qat n QeA trivial Qat h
theorem qO.ind{P:DA->CA->Prop}(n:P [] [])(c:∀{x:Do} {d:D} {v:V} {ds:DA} {vs:CA},cB K CL Z d v->qO K CL Z ds vs->P ds vs->P ((x,d)::ds) ((x,v)::vs)){ds:DA}{vs:CA}(h:qO K CL Z ds vs):P ds vs:=
 qO.rec (motive_1:=λ_ _ _=>True) (motive_2:=λ_ _ _=>True) (motive_3:=λ_ _ _=>True) (motive_4:=λ_ _ _=>True) (motive_5:=λd v _=>P d v)
  trivial Qa4 Qa4 Qa4 Qa4 Qa4 Qaf Qaf Qaf Qaf Qaf Qg4 trivial Qat trivial Qat trivial Qat n QeA h
variable{ts:Bn}
theorem aW.ind{P:Bn->BY->BS->Prop}(n:P [] [] [])(c:∀{t:T} {v:V} {ts:Bn} {vs:BY} {fp gp:BS},b9 K CL H Z t v fp->aW K CL H Z ts vs gp->P ts vs gp->P (t::ts) QaO (fp++gp))(h:aW K CL H Z ts vs fp):P ts vs fp:=
 aW.rec (motive_1:=λ_ _ _ _=>True) (motive_3:=λ_ _ _ _=>True) (motive_4:=λ_ _ _ _=>True)
  (λ_=>trivial) Qaf Qaf Qaf Qc2 Qaf Qc2 Qaf n QeA trivial Qat trivial Qat h
theorem dS.ind{P:BN->CI->BS->Prop}(n:P [] [] [])(c:∀{x:Str} {t:T} {v:V} {ts:BN} {vs:CI} {fp gp:BS},b9 K CL H Z t v fp->dS K CL H Z ts vs gp->P ts vs gp->P ((x,t)::ts) ((x,v)::vs) (fp++gp)){ts:BN}{vs:CI}(h:dS K CL H Z ts vs fp):P ts vs fp:=
 dS.rec (motive_1:=λ_ _ _ _=>True) (motive_2:=λ_ _ _ _=>True) (motive_4:=λ_ _ _ _=>True)
  (λ_=>trivial) Qaf Qaf Qaf Qc2 Qaf Qc2 Qaf trivial Qat n QeA trivial Qat h
theorem fY.ind{P:Ch->CA->BS->Prop}(n:P [] [] [])(c:∀{x:Do} {t:T} {v:V} {ts:Ch} {vs:CA} {fp gp:BS},b9 K CL H Z t v fp->fY K CL H Z ts vs gp->P ts vs gp->P ((x,t)::ts) ((x,v)::vs) (fp++gp)){ts:Ch}{vs:CA}(h:fY K CL H Z ts vs fp):P ts vs fp:=
 fY.rec (motive_1:=λ_ _ _ _=>True) (motive_2:=λ_ _ _ _=>True) (motive_3:=λ_ _ _ _=>True)
  (λ_=>trivial) Qaf Qaf Qaf Qc2 Qaf Qc2 Qaf trivial Qat trivial Qat n QeA h
theorem au.length{d:BA}{v:BY}(h:au K CL Z d v):d.length=v.length:=
 au.ind (P:=λd v=>d.length=v.length) rfl Qg2 h
theorem aW.length{d:Bn}{v:BY}(h:aW K CL H Z d v fp):d.length=v.length:=
 aW.ind (P:=λd v _=>d.length=v.length) rfl Qg2 h
theorem f6.length{d:BB}{v:L2.St}(h:f6 K CL H Z d v fp):d.length=v.length:=by
 induction h with
 | nil=>rfl
 | skip _ i=>exact congrArg (· + 1) i
 | cons _ _ i=>exact congrArg (· + 1) i
theorem au.get{Z:Hp}:∀{ds:BA} {vs:BY} {i:Nat} {d:D},au K CL Z ds vs->ds[i]? = some d->∃v,vs[i]? = some v/\cB K CL Z d v
 | _,_,_,_,.nil,e=>by simp at e
 | _,_,0,_,.cons r _,e=>by simp_all
 | _,_,i+1,d,.cons _ t,e=>by
  obtain⟨u,h1,h2⟩:=au.get t (‹_›);exact⟨u,‹_›,h2⟩
theorem au.xw{Z:Hp}:∀{ds:BA} {vs:BY} {i:Nat} {v:V},au K CL Z ds vs->vs[i]? = some v->∃d,ds[i]? = some d/\cB K CL Z d v
 | _,_,_,_,.nil,e=>by simp at e
 | _,_,0,_,.cons r _,e=>by simp_all
 | _,_,i+1,d,.cons _ t,e=>by
  obtain⟨u,h1,h2⟩:=au.xw t (‹_›);simp_all
theorem f6.get:∀{δ:BB} {σ:L2.St} {fp:BS} {i:Nat} {t:T},f6 K CL H Z δ σ fp->δ[i]? = some Qas →
  ∃v f1 f2 c,σ[i]? = some Qax/\fp=f1++(f2++c)/\b9 K CL H Z t v f2 ∧
   (∀{H' Z':Hp} {t':T} {v':V} {g:BS},aB Z Z'->(∀a∈f1++c,H' a=H a)->b9 K CL H' Z' t' v' g->f6 K CL H' Z' (δ.set i (some t')) (σ.set i (some v')) (f1++(g++c))) ∧
   (∀{o:QdV},f6 K CL H Z (δ.set i none) (σ.set i o) (f1++c)):=by
 intro δ σ fp i t h;have mono:∀{H H' Z Z':Hp} {δ:BB} {σ:L2.St} {fp:BS},aB Z Z'->(∀a∈fp,H' a=H a)->f6 K CL H Z δ σ fp->f6 K CL H' Z' δ σ fp:=by
  intro H H' Z Z' δ σ fp e k r
  induction r with
  | nil=>exact .nil
  | skip _ d=>exact .skip (d k)
  | cons r _ d=>exact .cons (r.mono e λa b=>k a (ik _ b)) (d λa b=>k a (h5 _ b))
 induction h generalizing i with
 | nil=>intro e;simp at e
 | @skip o δ σ fp r d=>
  cases i with
  | zero=>intro e;simp at e
  | succ i=>
   intro e;obtain⟨v,f1,f2,c,h1,h2,m,l,j⟩:=d (i:=i) (by simpa using e);exact⟨v,f1,f2,c,by simpa using h1,h2,m,λe k q=>.skip (l e k q),.skip j⟩
 | @cons t0 v0 δ σ fp gp f r d=>
  cases i with
  | zero=>
   intro e;simp at e;subst e;refine⟨v0,[],fp,gp,rfl,rfl,f,λ{H' Z' t' v' g} e k q=>f6.cons (fp:=g) (gp:=gp) q (mono (fp:=gp) e (λa b=>k a (by simpa using b)) r),.skip (by simpa using r)⟩
  | succ i=>
   intro e;obtain⟨v,f1,f2,c,h1,h2,m,l,j⟩:=d (i:=i) (by simpa using e);refine⟨v,fp++f1,f2,c,by simpa using h1,by rw[h2,List.append_assoc],m,λ{H' Z' t' v' g} e k q=>?_,λ{o}=>?_⟩
   .rw[hZ];exact .cons (f.mono e λa b=>k a (by simp[b])) (l e (λa b=>k a (by rw[hZ];exact h5 _ b)) q)
   .rw[hZ];exact .cons f j
variable{δ:BB}{σ:L2.St}
theorem f6.mono(e:Qbt)(k:∀a∈fp,H' a=H a)(r:Qkg):f6 K CL H' Z' δ σ fp:=by
 induction r with
 | nil=>exact .nil
 | skip _ b=>exact .skip (b k)
 | cons r _ b=>exact .cons (r.mono e λa c=>k a (ik _ c)) (b λa c=>k a (h5 _ c))
theorem f6.there(r:Qkg):∀a∈fp,∃o,H a=some o:=by
 induction r with
 | nil=>intro a c;cases c
 | skip _ b=>exact b
 | cons r _ b=>exactλa c=>(hV.1 c).elim (r.there a) (b a)
theorem f6.put(r:Qkg){g:BS}(q:b9 K CL H Z t v g) :
  ∀{i:Nat},i<δ.length->∃f,f6 K CL H Z (δ.set i Qas) (σ.set i Qax) f/\∃a,a.Sublist fp/\f.Perm (g++a):=by
 induction r with
 | nil=>intro i hi;simp at hi
 | @skip o δ σ fp r b=>
  intro i hi;cases i with
  | zero=>exact⟨ _,.cons q r,fp,my _,List.Perm.refl _⟩
  | succ i=>
   obtain⟨f,h1,a,h2,c⟩:=b (by simpa using hi);exact⟨f,.skip h1,a,h2,c⟩
 | @cons t0 v0 δ σ fp gp d r b=>
  intro i hi;cases i with
  | zero=>exact⟨ _,.cons q r,gp,wd _ _,List.Perm.refl _⟩
  | succ i=>
   obtain⟨f,h1,a,h2,c⟩:=b (by simpa using hi);refine⟨ _,.cons d h1,_,nz (my _) h2,?_⟩;refine(mD fp c).trans ?_;rw[← hZ,← hZ];exact List.Perm.append_right a l9
noncomputable def Lz(X:Cx)(e:Expr):TE:=λσ H Q=>∀(pins:BM) (s:Qr),Inv X pins σ H s->wpAny QA X.A QeO Qa5 X.xe s
noncomputable def FC(X:Cx)(e:Expr):TT:=λσ H Q=>∀(pins:BM) (s:Qr),Inv X pins σ H s->wpAny QA X.A (isTrue e X.env QeO) QeH X.xe s
noncomputable def WG(X:Cx)(es:Cf):TA:=λσ H Q=>∀(pos:Pos) (pins:BM) (s:Qr),Inv X pins σ H s->wpAny QA X.A Qlf (AP X pins σ Q) X.xe s
noncomputable def ND(X:Cx)(st:Stmt):TS:=λD σ H=>∀(pins:BM) (s:Qr),Inv X pins σ H s->wpAny QA X.A (exec st X.env) (SP X pins D) X.xe s
noncomputable def NA(X:Cx)(st:Cs):TS:=λD σ H=>∀(pins:BM) (s:Qr),Inv X pins σ H s->wpAny QA X.A (execs st X.env) (SP X pins D) X.xe s
variable{X:Cx}{e:Expr}
noncomputable def dD:PE X e (Lz X e):=λpins s _ _ _ I h=>h pins s I
noncomputable def oy:PT X e (FC X e):=λpins s _ _ _ I h=>h pins s I
noncomputable def LC{e:Cf}:PA X e (WG X e):=λpos pins s _ _ _ I h=>h pos pins s I
noncomputable def psS{e:Stmt}:PS X e (ND X e):=λpins s _ _ _ I h=>h pins s I
noncomputable def n4{e:Cs}:Wo X e (NA X e):=λpins s _ _ _ I h=>h pins s I
noncomputable def cK{t:TE}(h:PE X e t){Q:VK}(q:t σ H Q):Lz X e σ H Q:=λpins s I=>h pins s σ H Q I q
variable{Q:Db}
noncomputable def LD{t:TT}(h:PT X e t)(q:t σ H Q):FC X e σ H Q:=λpins s I=>h pins s σ H Q I q
noncomputable def LJ{e:Cf}{t:TA}(h:PA X e t){Q:EO}(q:t σ H Q):WG X e σ H Q:=λpos pins s I=>h pos pins s σ H Q I q
noncomputable def qP{e:Stmt}{t:TS}(h:PS X e t){D:Ends}(q:t D σ H):ND X e D σ H:=λpins s I=>h pins s σ H D I q
noncomputable def SO{e:Cs}{t:TS}(h:Wo X e t){D:Ends}(q:t D σ H):NA X e D σ H:=λpins s I=>h pins s σ H D I q
noncomputable def notStar:Expr->Bool
 | .Starred _ _=>false
 | _=>true
variable{es:Cf}{env:Env}
def aS(h:notStar e=true):starEach Qae env=(false,eval e env)::starEach es env:=by
 cases e<;>first|rfl|(cases h)
structure Bx where
 B:Hp
 Z:Hp
def m5:HO->Bool
 | .tup _=>true
 | .gW _ _=>true
 | _=>false
noncomputable def Nu(x:Str):Bool:=x.cps[0]? == some 35
noncomputable def O2(x:Str):Str:=⟨x.cps.extract 1 x.cps.size⟩
def u6(CL:BC)(Z:Hp):Prop:=∀x,Nu x=true->CL x≠0->Z (CL x)=some (.tabs (O2 x))
structure bC(K:Frag)(CL:BC)(b:Bx)(H Z:Hp)(δ:BB)(σ:L2.St)(ts:Bn)(vs:BY):Prop where
 rep:∃fp gp,f6 K CL H Z δ σ fp/\aW K CL H Z ts vs gp/\(fp++gp).Nodup/\∀a∈fp++gp,Z a=none/\b.B a=none
 bh:aB b.B H
 zz:aB b.Z Z
 zh:aB Z H
 new:∀a o,Z a=some o->b.Z a=none->b.B a=none
 tp:∀a o,H a=some o->m5 o=true->Z a=some o
 tab:u6 CL b.Z
variable{b:Bx}
theorem u6.mono{A B:Hp}(h:u6 CL A)(e:aB A B):u6 CL B:=λx a h0=>e _ _ (h x a h0)
theorem bC.WH(S:Qan):u6 CL Z:=S.tab.mono S.zz
theorem bC.T5(S:Qan):u6 CL H:=S.WH.mono S.zh
def WK{A B:Hp}(e:aB A B)(h:B a=none):A a=none:=e.free h
variable{p:Addr}{o:HO}
theorem aB.upd(h:H p=none):aB H (upd H p o):=λb u e=>aq (aP e h)▸e
theorem bC.view(S:Qb3):cB K CL H t.gW v:=by
 obtain⟨fp,gp,_,r,_,_⟩:=S.rep;cases r with
 | cons r _=>exact r.gW S.zh λ_ _=>rfl
theorem bC.pop(S:Qb3):bC K CL b H Z δ σ ts vs:=by
 obtain⟨fp,gp,e,r,nd,k⟩:=S.rep;cases r with
 | @cons _ _ _ _ f1 f2 f c=>
  refine⟨⟨fp,f2,e,c,nd.sublist Qj8,λa d=>k a ?_⟩,S.bh,S.zz,S.zh,S.new,S.tp,S.tab⟩;obtain h|h:=hV.1 d
  .exact ik _ h
  simp_all
theorem bC.push{d:D}(S:Qan)(r:Qdh):bC K CL b H Z δ σ (.sh d::ts) QaO:=by
 obtain⟨fp,gp,e,a,nd,k⟩:=S.rep;exact⟨⟨fp,_,e,.cons (.sh r) a,nd,k⟩,S.bh,S.zz,S.zh,S.new,S.tp,S.tab⟩
theorem bC.O4(S:Qb3):∃Z',aB Z Z'/\bC K CL b H Z' δ σ (.sh t.gW::ts) QaO:=by
 classical
 obtain⟨fp,gp,e,r,nd,k⟩:=S.rep;cases r with
 | @cons _ _ _ _ f1 f2 m l=>
  have j:=λa c=>k a (h5 _ (ik _ c));have sz:aB Z _:=λa o q=>by
   by_cases c:a∈f1
   .rw[(j a c).1]at q;cases q
   .show(if a∈f1 then H a else Z a)=some o;rw[cq c];exact q
  have f:=ko.1 nd;have n:∀a∈fp++f2,a∉f1:=λa c h1=>by
   obtain h|h:=hV.1 c
   .exact f.2.2 a h a (ik _ h1) rfl
   .exact(ko.1 f.2.1).2.2 a h1 a h rfl
  refine⟨ _,sz,⟨⟨fp,[]++f2,e.mono sz QcB,.cons (.sh (m.gW sz λa c=>hO c)) (l.mono sz λ_ _=>rfl),?_,λa c=>?_⟩,S.bh,S.zz.trans sz,λa o q=>?_,λa o q z=>?_,λa o q i=>?_,S.tab⟩⟩
  .exact nd.sublist Qj8
  .have g:a∈fp++f2:=c;refine⟨?_,(k a ?_).2⟩
   .rw[cq (n a g)];refine(k a ?_).1;obtain h|h:=hV.1 g
    .exact ik _ h
    .exact h5 _ (h5 _ h)
   simp_all
  .have d:=q;by_cases c:a∈f1
   .rw[hO c]at d;exact d
   .rw[cq c]at d;exact S.zh a o d
  .have d:=q;by_cases c:a∈f1
   .exact(j a c).2
   .rw[cq c]at d;exact S.new a o d z
  .exact sz a o (S.tp a o q i)
variable{i:Nat}
theorem bC.aad(S:Qan)(hi:δ[i]? = some Qas):∃v Z',σ[i]? = some Qax/\aB Z Z'/\bC K CL b H Z' (δ.set i QhL) σ (.sh t.gW::ts) QaO:=by
 classical
 obtain⟨fp,gp,e,r,nd,k⟩:=S.rep;obtain⟨v,f1,f2,d,hv,s,rt,put,_⟩:=e.get hi;subst s;have p:∀a∈f2,Z a=none/\b.B a=none:=λa c=>k a (by simp[c]);have sz:aB Z Qiv:=λa o q=>by
  by_cases c:a∈f2
  .rw[(p a c).1]at q;cases q
  .show QgD=some o;rw[cq c];exact q
 have w:∀a∈(f1++d)++gp,a∉f2:=λa c h2=>by
  have u:((f1++(f2++d))++gp).Perm (f2++((f1++d)++gp)):=by
   rw[← hZ,← hZ];refine(List.perm_append_right_iff gp).2 ?_;rw[← hZ];exact(List.perm_append_right_iff d).2 l9
  exact(ko.1 (u.nodup_iff.1 nd)).2.2 a h2 a c rfl
 have n:cB K CL Qiv t.gW v:=rt.gW sz λa c=>hO c;have m:σ.set i Qax=σ:=by
  apply v3;intro j;rw[List.getElem?_set];split
  .rename_i h;subst h;split
   .exact hv.symm
   .rename_i h2;rw[tj We]
  .rfl
 have e2:f6 K CL H Qiv (δ.set i QhL) σ (f1++([]++d)):=by
  have:=put (H':=H) (t':=.sh t.gW) (v':=v) (g:=[]) sz QcB (.sh n)
  rwa [m]at this
 refine⟨v,λa=>if a∈f2 then H a else Z a,hv,sz,⟨⟨f1++([]++d),[]++gp,e2,.cons (.sh n) (r.mono sz λ_ _=>rfl),?_,λa c=>?_⟩,S.bh,S.zz.trans sz,λa o q=>?_,λa o q z=>?_,λa o q i=>sz a o (S.tp a o q i),S.tab⟩⟩
 .exact nd.sublist (nz Qj8 (my _))
 .have l:a∈(f1++d)++gp:=c;have hm:a∈(f1++(f2++d))++gp:=by
   simp only[hV]at l ⊢;rcases l with(h|h)|h
   .exact .inl (.inl h)
   .exact .inl (.inr (.inr h))
   .exact .inr h
  refine⟨?_,(k a hm).2⟩;show QgD=none;rw[cq (w a l)];exact(k a hm).1
 .have f:QgD=some o:=q;by_cases c:a∈f2
  .rw[hO c]at f;exact f
  .rw[cq c]at f;exact S.zh a o f
 .have f:QgD=some o:=q;by_cases c:a∈f2
  .exact(p a c).2
  .rw[cq c]at f;exact S.new a o f z
theorem bC.move(S:Qan)(hi:δ[i]? = some Qas):∃v,σ[i]? = some Qax/\bC K CL b H Z (δ.set i none) σ (t::ts) QaO:=by
 obtain⟨fp,gp,e,r,nd,k⟩:=S.rep;obtain⟨v,f1,f2,c,hv,g,rt,_,del⟩:=e.get hi;subst g;have d:σ.set i Qax=σ:=by
  apply v3;intro j;rw[List.getElem?_set];split
  .rename_i h;subst h;split
   .exact hv.symm
   simp_all
  .rfl
 have f:((f1++(f2++c))++gp).Perm ((f1++c)++(f2++gp)):=by
  have h1:(f2++c).Perm _:=l9;have h2:=(mD f1 h1).append_right gp;simp_all
 refine⟨v,hv,⟨⟨ _,_,?_,.cons rt r,f.nodup_iff.1 nd,λa l=>k a (f.mem_iff.2 l)⟩,S.bh,S.zz,S.zh,S.new,S.tp,S.tab⟩⟩;have:=del (o:=some v)
 rwa [d]at this
theorem bC.look(S:Qan)(hi:δ[i]? = some Qas):∃v,σ[i]? = some Qax/\cB K CL H t.gW v:=by
 obtain⟨fp,gp,e,r,nd,k⟩:=S.rep;obtain⟨v,f1,f2,c,hv,a,rt,_,_⟩:=e.get hi;exact⟨v,hv,rt.gW S.zh λ_ _=>rfl⟩
theorem bC.JE{d:D}(S:Qan)(hi:δ[i]? = some Qcb):∃v,σ[i]? = some Qax/\cB K CL Z d v:=by
 obtain⟨fp,gp,e,r,nd,k⟩:=S.rep;obtain⟨v,f1,f2,c,hv,a,rt,_,_⟩:=e.get hi;cases rt with
 | sh h=>exact⟨v,hv,h⟩
theorem bC.set(S:Qb3)(hi:i<δ.length):bC K CL b H Z (δ.set i Qas) (σ.set i Qax) ts vs:=by
 obtain⟨fp,gp,e,r,nd,k⟩:=S.rep;cases r with
 | @cons _ _ _ _ f1 f2 j h=>
  obtain⟨f,h1,g,h2,m⟩:=e.put j hi;have d:(f++f2).Perm (g++(f1++f2)):=by
   refine(m.append_right f2).trans ?_;rw[← hZ];exact l9.append_right f2
  have c:(g++(f1++f2)).Sublist _:=nz h2 (my _);exact⟨⟨f,f2,h1,h,d.nodup_iff.2 (nd.sublist c),λa l=>k a (c.subset (d.mem_iff.1 l))⟩,S.bh,S.zz,S.zh,S.new,S.tp,S.tab⟩
mutual
def D.u9:D->Bool
 | .tup ds=>D.bS ds
 | .lst _=>false
 | .ins _ _=>false
 | .um _=>false
 | .dct _=>false
 | .any=>false
 | .E8 _ _ _=>false
 | _=>true
def D.bS:BA->Bool
 | []=>true
 | d::ds=>d.u9&&D.bS ds
end
mutual
def T.clean:T->Bool
 | .sh d=>d.u9
 | .tup ts=>T.dP ts
 | .lst ts=>T.dP ts
 | .ins _ fs=>T.f7 fs
 | .um kvs=>D.bS (kvs.map (·.2))
 | .dct kvs=>T.O5 kvs
 | .pin _ t=>t.clean
 | .E8 _ _ _=>false
def T.dP:Bn->Bool
 | []=>true
 | t::ts=>t.clean&&T.dP ts
def T.f7:BN->Bool
 | []=>true
 | (_,t)::ts=>t.clean&&T.f7 ts
def T.O5:Ch->Bool
 | []=>true
 | (_,t)::ts=>t.clean&&T.O5 ts
end
def cL(X:Cx)(CL:BC)(b:Bx)(e:Expr)(δ:BB)(t:T)(δ':BB):Prop:=
 ∀(H Z:Hp) (σ:L2.St) (ts:Bn) (vs:BY) (Q:VK),bC X.K CL b H Z δ σ ts vs->(∀v H' Z',aB Z Z'->aB H H'->bC X.K CL b H' Z' δ' σ (t::ts) QaO->Q v H')->Lz X e σ H Q
def dI(X:Cx)(CL:BC)(b:Bx)(e:Expr)(δ:BB)(d:D)(δ':BB):Prop:=
 ∀(H Z:Hp) (σ:L2.St) (ts:Bn) (vs:BY) (Q:VK),bC X.K CL b H Z δ σ ts vs->(∀v H' Z',aB Z Z'->aB H H'->bC X.K CL b H' Z' δ' σ ts vs->cB X.K CL H' d v->Q v H')->Lz X e σ H Q
def yW(X:Cx)(CL:BC)(b:Bx)(e:Expr)(δ:BB)(p:Bool)(δ':BB):Prop:=
 ∀(H Z:Hp) (σ:L2.St) (ts:Bn) (vs:BY) (Q:Db),bC X.K CL b H Z δ σ ts vs->(∀H' Z',aB Z Z'->aB H H'->bC X.K CL b H' Z' δ' σ ts vs->Q p H')->FC X e σ H Q
def Nv(X:Cx)(CL:BC)(b:Bx)(es:Cf)(δ:BB)(tl:Bn)(δ':BB):Prop:=
 ∀(H Z:Hp) (σ:L2.St) (ts:Bn) (vs:BY) (Q:EO),bC X.K CL b H Z δ σ ts vs →
  (∀us H' Z',us.length=tl.length->aB Z Z'->aB H H'->bC X.K CL b H' Z' δ' σ (tl.reverse++ts) QdL->Q us H')->WG X es σ H Q
def nZ(X:Cx)(CL:BC)(b:Bx)(es:Cf)(δ:BB)(ds:BA)(δ':BB):Prop:=
 ∀(H Z:Hp) (σ:L2.St) (ts:Bn) (vs:BY) (Q:EO),bC X.K CL b H Z δ σ ts vs →
  (∀us H' Z',aB Z Z'->aB H H'->bC X.K CL b H' Z' δ' σ ts vs->au X.K CL H' ds us->Q us H')->WG X es σ H Q
structure gU where
 nx:BB->Prop
 rt:T->BB->Prop
 bk:BB->Prop:=λ_=>False
 ct:BB->Prop:=λ_=>False
structure Meets(K:Frag)(CL:BC)(b:Bx)(Z:Hp)(ts:Bn)(vs:BY)(D:gU)(E:Ends):Prop where
 nx:∀δ' σ' H' Z',aB Z Z'->bC K CL b H' Z' δ' σ' ts vs->D.nx δ'->E.nx σ' H'
 rt:∀t v H' Z' δ' σ',aB Z Z'->bC K CL b H' Z' δ' σ' (t::ts) QaO->D.rt t δ'->E.rt v H'
 bk:∀δ' σ' H' Z',aB Z Z'->bC K CL b H' Z' δ' σ' ts vs->D.bk δ'->E.bk σ' H'
 ct:∀δ' σ' H' Z',aB Z Z'->bC K CL b H' Z' δ' σ' ts vs->D.ct δ'->E.ct σ' H'
def WL(X:Cx)(CL:BC)(b:Bx)(st:Stmt)(δ:BB)(D:gU):Prop:=
 ∀(H Z:Hp) (σ:L2.St) (ts:Bn) (vs:BY) (E:Ends),bC X.K CL b H Z δ σ ts vs->Meets X.K CL b Z ts vs D E->ND X st E σ H
def dh(X:Cx)(CL:BC)(b:Bx)(st:Cs)(δ:BB)(D:gU):Prop:=
 ∀(H Z:Hp) (σ:L2.St) (ts:Bn) (vs:BY) (E:Ends),bC X.K CL b H Z δ σ ts vs->Meets X.K CL b Z ts vs D E->NA X st E σ H
theorem Meets.mono{D:gU}{E:Ends}(M:Meets K CL b Z ts vs D E)(e:Qbt):Meets K CL b Z' ts vs D E:=
 ⟨λ_ _ _ _ s=>M.nx _ _ _ _ (e.trans s),λ_ _ _ _ _ _ s=>M.rt _ _ _ _ _ _ (e.trans s),λ_ _ _ _ s=>M.bk _ _ _ _ (e.trans s),λ_ _ _ _ s=>M.ct _ _ _ _ (e.trans s)⟩
def aaf(zh:∀a o,H a=some o->m5 o=true->Z a=some o)(h:Dz K H a xs):Dz K Z a xs:=by
 rcases h with(h|⟨o,h⟩)|h
 .exact .inl (.inl (zh _ _ h rfl))
 .exact .inl (.inr ⟨o,zh _ _ h rfl⟩)
 .exact .inr h
theorem cB.u9(zh:∀a o,H a=some o->m5 o=true->Z a=some o){d:D}(k:d.u9=true)(h:cB K CL H d v):cB K CL Z d v:=
 cB.rec (motive_2:=λd v _=>D.bS d=true->au K CL Z d v) (motive_3:=λd v _=>True) (motive_4:=λd v _=>True) (motive_5:=λd v _=>True)
  (λ_=>.non) (λb _=>.bl b) (λb _=>.int b) (λb _=>.str b) (λ_ k=>by cases k) (λb _=>.val b) (λh _ r k=>.tup (aaf zh h) (r (‹_›))) (λ_ _ _ k=>by cases k) (λ_ _ _ k=>by cases k) (λ_ _ _ k=>by cases k) (λ_ _ _ k=>by cases k) (λ_ _ _ _ _ k=>by rw[D.u9]at k;cases k) QaP (λ_ _ h r k=>by rw[D.bS,km]at k;exact .cons (h k.1) (r k.2)) trivial Qat trivial Qat trivial Qat h k
theorem au.u9(zh:∀a o,H a=some o->m5 o=true->Z a=some o){d:BA}{v:BY}(k:D.bS d=true)(h:au K CL H d v):au K CL Z d v:=
 au.rec (motive_1:=λd v _=>d.u9=true->cB K CL Z d v) (motive_3:=λd v _=>True) (motive_4:=λd v _=>True) (motive_5:=λd v _=>True)
  (λ_=>.non) (λb _=>.bl b) (λb _=>.int b) (λb _=>.str b) (λ_ k=>by cases k) (λb _=>.val b) (λh _ r k=>.tup (aaf zh h) (r (‹_›))) (λ_ _ _ k=>by cases k) (λ_ _ _ k=>by cases k) (λ_ _ _ k=>by cases k) (λ_ _ _ k=>by cases k) (λ_ _ _ _ _ k=>by cases k) QaP (λ_ _ h r k=>by rw[D.bS,km]at k;exact .cons (h k.1) (r k.2)) trivial Qat trivial Qat trivial Qat h k
variable{gs:Cl}
theorem cT.clean{Z1:Hp}(a:∀{d:D} {v:V},d.u9=true->cB K CL Z1 d v->cB K CL Z d v){kvs:CO}(k:D.bS (kvs.map (·.2))=true)(h:cT K CL Z1 kvs gs):cT K CL Z kvs gs:=
 cT.ind (P:=λkvs gs=>D.bS (kvs.map _)=true->cT K CL Z kvs gs) QaP (λh _ i k=>by rw[kc,D.bS,km]at k;exact .cons (a k.1 h) (i k.2)) h k
theorem b9.clean{Z1:Hp}(zh:∀a xs,Z1 a=some Qbk->Z a=some Qbk)(b:∀{d:D} {v:V},d.u9=true->cB K CL Z1 d v->cB K CL Z d v)(k:t.clean=true)(h:b9 K CL H Z1 t v fp):b9 K CL H Z t v fp:=
 b9.rec (motive_2:=λt v fp _=>T.dP t=true->aW K CL H Z t v fp) (motive_3:=λt v fp _=>T.f7 t=true->dS K CL H Z t v fp) (motive_4:=λt v fp _=>T.O5 t=true->fY K CL H Z t v fp)
  (λh k=>.sh (b (‹_›) h)) (λh _ r k=>.tup (zh _ _ h) (r (‹_›))) (λh _ r k=>.lst h (r (‹_›))) (λh _ r k=>.ins h (r (‹_›))) (λh f k=>.um h (cT.clean b (‹_›) f)) (λh _ r k=>.dct h (r (‹_›))) (λ_ r k=>.pin (r (‹_›))) (λ_ _ _ k=>by rw[T.clean]at k;cases k) QaP (λ_ _ h r k=>by rw[T.dP,km]at k;exact .cons (h k.1) (r k.2)) QaP (λ_ _ h r k=>by rw[T.f7,km]at k;exact .cons (h k.1) (r k.2)) QaP (λ_ _ h r k=>by rw[T.O5,km]at k;exact .cons (h k.1) (r k.2)) h k
theorem bC.back{W W':Hp}(S:Qan)(p:aB H H')(s:aB Z W)(ww:aB W W')(m:aB W' H')(new:∀a o,W' a=some o->W a=none->H a=none)
  (tp:∀a o,H' a=some o->m5 o=true->W' a=some o) (r:b9 K CL H' W' t v fp) (nd:fp.Nodup) (own:∀a∈fp,W' a=none/\H a=none) (c:W=Z\/t.clean=true) :
  ∃Z',aB Z Z'/\bC K CL b H' Z' δ σ (t::ts) QaO:=by
 classical
 let Z':Hp:=λa=>if (H a).isSome=true then Z a else W' a
 have zs:∀{a:Addr} {o:HO},H a=some o->Z' a=Z a:=λ{a o} e=>by
  show QkT=Z a;rw[hO (by rw[e];rfl)]
 have zn:∀{a:Addr},H a=none->Z' a=W' a:=λ{a} e=>by
  show QkT=W' a;rw[cq (by rw[e];simp)]
 have sz:aB Z Z':=λa o q=>by rw[zs (S.zh a o q)];exact q
 have l:∀a o,Z' a=some o->W' a=some o:=λa o q=>by
  cases e:H a with
  | none=>rw[zn e]at q;exact q
  | some u=>rw[zs e]at q;exact ww a o (s a o q)
 have g:∀a o,H' a=some o->m5 o=true->Z' a=some o:=λa o q i=>by
  cases e:H a with
  | none=>rw[zn e];exact tp a o q i
  | some u=>
   rw[zs e];have:=p a u e;rw[q]at this;cases this;exact S.tp a o e i
 have x:b9 K CL H' Z' t v fp:=by
  obtain c|c:=c
  .have:Z'=W':=by
    funext a;cases e:H a with
    | none=>exact zn e
    | some u=>
     rw[zs e];cases q:W' a with
     | none=>
      cases j:Z a with
      | none=>rfl
      | some o=>rw[ww a o (s a o j)]at q;cases q
     | some o=>
      cases j:W a with
      | none=>rw[new a o q j]at e;cases e
      | some y=>
       have:=ww a y j;rw[q]at this;cases this;rw[← c];exact j
   rw[this];exact r
  .refine b9.clean (λa xs h=>?_) (λ{d v} k h=>?_) c r
   .exact g a _ (m a _ h) rfl
   .exact cB.u9 (H:=H') g k (h.mono m)
 obtain⟨f0,g0,e0,w,n,k0⟩:=S.rep;have old:∀a∈f0++g0,∃o,H a=some o:=λa f=>(hV.1 f).elim (e0.there a) (w.there a);have keep:∀a∈f0++g0,H' a=H a:=λa f=>by
  obtain⟨o,e⟩:=old a f;rw[e];exact p a o e
 refine⟨Z',sz,⟨⟨f0,fp++g0,e0.mono sz (λa f=>keep a (ik _ f)),.cons x (w.mono sz λa f=>keep a (h5 _ f)),?_,λa f=>?_⟩,S.bh.trans p,S.zz.trans sz,λa o q=>m a o (l a o q),λa o q z=>?_,g,S.tab⟩⟩
 .have A:(f0++(fp++g0)).Perm (fp++(f0++g0)):=by
   rw[← hZ,← hZ];exact l9.append_right g0
  refine A.nodup_iff.2 (ko.2 ⟨nd,n,λa f c B e=>?_⟩);subst e;obtain⟨o,q⟩:=old a B;rw[(own a f).2]at q;cases q
 .have:a∈f0++g0\/a∈fp:=by
   simp only[hV]at f ⊢;obtain h|h|h:=f
   .exact .inl (.inl h)
   .exact .inr h
   .exact .inl (.inr h)
  obtain h|h:=this
  .obtain⟨o,q⟩:=old a h;exact⟨by rw[zs q];exact(k0 a h).1,(k0 a h).2⟩
  .exact⟨by rw[zn (own a h).2];exact(own a h).1,S.bh.free (own a h).2⟩
 .cases e:H a with
  | none=>exact S.bh.free e
  | some u=>rw[zs e]at q;exact S.new a o q z
section
variable{δ1 δ2:BB}{e1 e2:Expr}{pos:Pos}{d d1 d2:D}
noncomputable def Th(h:QaH):dI X CL b e δ t.gW δ1:=λH Z σ ts vs Q S k=>h H Z σ ts vs Q S λv H' Z' z s a=>k v H' Z' z s a.pop a.view
def ay(h:Qg3):dI X CL b e δ d δ1:=by have:=Th h;rwa [T.gW]at this
noncomputable def cS(h:QdH)(i:d.u9=true):cL X CL b e δ (.sh d) δ1:=λH Z σ ts vs Q S k=>h H Z σ ts vs Q S λv H' Z' z s a r=>k v H' Z' z s (a.push (cB.u9 a.tp i r))
def WM(h:QaH):cL X CL b e δ (.sh t.gW) δ1:=λH Z σ ts vs Q S k=>h H Z σ ts vs Q S λv H' Z' z s d=>by
 obtain⟨Z2,a,c⟩:=d.O4;exact k v H' Z2 (z.trans a) s c
def bB{i:Int}{j:Nat}:cL X CL b Qjy δ (.sh QaQ) δ:=λH Z σ ts vs Q S k=>cK Wq (k _ _ Z Qb Qb (S.push QaQ))
def oq{i:Bool}{j:Nat}:cL X CL b (.Constant (.bool i) j pos) δ (.sh (.bl i)) δ:=λH Z σ ts vs Q S k=>cK TU (k _ _ Z Qb Qb (S.push (.bl i)))
def f9{x:Str}{j:Nat}:cL X CL b QjL δ (.sh Qbm) δ:=λH Z σ ts vs Q S k=>cK aow (k _ _ Z Qb Qb (S.push Qbm))
section
variable{x:Str}(i:Nat)(hi:X.N[i]? = some x:=by rfl)(hv:tJ X.env.scope x:=by first|exact Or.inl rfl|exact Or.inr (Or.inl rfl)|exact Or.inr (Or.inr rfl))(hd:AD x:=by decide)(k9:AE x:=by decide)
include hi hv hd k9
def ao9(h:δ[i]? = some Qcb:=by rfl):cL X CL b Qal δ (.sh d) δ:=λH Z σ ts vs Q S k=>by
 obtain⟨v,e,r⟩:=S.JE h;exact cK QfP ⟨v,e,k v H Z Qb Qb (S.push r)⟩
def ajE(h:δ[i]? = some Qas:=by rfl):cL X CL b Qal δ (.sh t.gW) (δ.set i QhL):=λH Z σ ts vs Q S k=>by
 obtain⟨v,Z',e,z,a⟩:=S.aad h;exact cK QfP ⟨v,e,k v H Z' z Qb a⟩
def ajF(h:δ[i]? = some Qas:=by rfl):cL X CL b Qal δ t (δ.set i none):=λH Z σ ts vs Q S k=>by
 obtain⟨v,e,a⟩:=S.move h;exact cK QfP ⟨v,e,k v H Z Qb Qb a⟩
def apa(h:δ[i]? = some Qas:=by rfl):dI X CL b Qal δ t.gW δ:=λH Z σ ts vs Q S k=>by
 obtain⟨v,e,r⟩:=S.look h;exact cK QfP ⟨v,e,k v H Z Qb Qb S r⟩
end
noncomputable def pz:D->Option V
 | .non=>some .non
 | .bl b=>some (.bl b)
 | .int i=>some QaQ
 | .str x => some Qbm
 | _=>none
theorem cB.sc{d:D}{w:V}(r:Qdh)(h:pz d=some w):v=w:=by
 cases r<;>first|(exact k4 h)|(cases h)
def aag{d:D}{w:V}(h:pz d=some w):cB K CL Z d w:=by
 cases d<;>first|(cases h;constructor)|(cases h)
def xF{op:Operator}{r:R2}{a w2 w:V}(i:Qke)(h1:Qfy)(h2:Qfv)(s1:pz d1=some a)(s2:pz d2=some w2)(s3:pz d=some w)
  (h:∀(H:Hp) (Q:VK),Q w H->r a w2 H Q):cL X CL b (.BinOp e1 op e2 pos) δ (.sh d) δ2:=λH Z σ ts vs Q S k=>by
 refine cK (TL i dD dD) (h1 H Z σ ts vs _ S λv1 H1 Z1 e k1 l g=>h2 H1 Z1 σ ts vs _ l λv2 H2 Z2 c k2 j f=>?_);rw[g.sc s1,f.sc s2];exact h H2 Q (k w H2 Z2 Qe7 Qaq (j.push (aag s3)))
noncomputable def vd{i j:Int}(h1:Qbe)(h2:Qbp):cL X CL b Qez δ (.sh (.int (i+j))) δ2:=xF aeA h1 h2 rfl rfl rfl λ_ _ q=>⟨i,j,rfl,rfl,q⟩
noncomputable def Ay{i j:Int}(h1:Qbe)(h2:Qbp):cL X CL b (.BinOp e1 .Sub e2 pos) δ (.sh (.int (i-j))) δ2:=xF aeB h1 h2 rfl rfl rfl λ_ _ q=>⟨i,j,rfl,rfl,q⟩
noncomputable def ae2{i j:Int}(h1:Qbe)(h2:Qbp)(c:IF i j):cL X CL b (.BinOp e1 .Mult e2 pos) δ (.sh (.int (i*j))) δ2:=xF aoN h1 h2 rfl rfl rfl λ_ _ q=>⟨i,j,rfl,rfl,c,q⟩
noncomputable def kW{i j:Int}(h1:Qbe)(h2:Qbp)(c:0<j):cL X CL b (.BinOp e1 .Mod e2 pos) δ (.sh (.int (i % j))) δ2:=xF aoO h1 h2 rfl rfl rfl λ_ _ q=>⟨i,j,rfl,rfl,c,q⟩
noncomputable def GC{i j:Int}(h1:Qbe)(h2:Qbp)(c:SH i j):cL X CL b (.BinOp e1 .FloorDiv e2 pos) δ (.sh (.int (i / j))) δ2:=xF ajv h1 h2 rfl rfl rfl λ_ _ q=>⟨i,j,rfl,rfl,c,q⟩
noncomputable def Az{i j:Int}(h1:Qbe)(h2:Qbp)(c:SF i j):cL X CL b (.BinOp e1 .Pow e2 pos) δ (.sh (.int (i ^ j.toNat))) δ2:=xF aoP h1 h2 rfl rfl rfl λ_ _ q=>⟨i,j,rfl,rfl,c,q⟩
noncomputable def ae3{x y:Str}(h1:Qje)(h2:dI X CL b e2 δ1 (.str y) δ2)(c:x.length+y.length<=sizeLine):cL X CL b Qez δ (.sh (.str (x++y))) δ2:=xF Hw h1 h2 rfl rfl rfl λ_ _ q=>⟨x,y,rfl,rfl,c,q⟩
def HG{op:CmpOp}{r:R2}{p:Bool}{h w2:V}(j:BP X Qh9 r)(h1:Qfy)(h2:Qfv)(s1:pz d1=some h)(s2:pz d2=some w2)
  (i:∀(H:Hp) (Q:VK),Q (.bl p) H->r h w2 H Q) (hm:behindInMarks op e2=false):yW X CL b QgY δ p δ2/\cL X CL b QgY δ (.sh (.bl p)) δ2:=by
 constructor
 .intro H Z σ ts vs Q S k;refine LD (uY j dD dD hm) (h1 H Z σ ts vs _ S λv1 H1 Z1 c k1 g e=>h2 H1 Z1 σ ts vs _ g λv2 H2 Z2 a k2 f d=>?_);rw[e.sc s1,d.sc s2];exact i H2 _ ⟨p,rfl,k H2 Z2 Qcg Qaq f⟩
 .intro H Z σ ts vs Q S k;refine cK (yU j dD dD hm) (h1 H Z σ ts vs _ S λv1 H1 Z1 c k1 g e=>h2 H1 Z1 σ ts vs _ g λv2 H2 Z2 a k2 f d=>?_);rw[e.sc s1,d.sc s2];exact i H2 _ (k _ H2 Z2 Qcg Qaq (f.push (.bl p)))
theorem fW{i j:Int}(h1:Qbe)(h2:Qbp):yW X CL b Qes δ (decide (i=j)) δ2/\cL X CL b Qes δ (.sh (.bl (decide (i=j)))) δ2:=
 HG TK h1 h2 rfl rfl (λ_ _ q=>⟨rfl,by simp_all ⟩) (sS _)
theorem ve{i j:Int}(h1:Qbe)(h2:Qbp):yW X CL b Qeq δ (!decide (i=j)) δ2/\cL X CL b Qeq δ (.sh (.bl (!decide (i=j)))) δ2:=
 HG TJ h1 h2 rfl rfl (λ_ _ q=>⟨rfl,by simp_all ⟩) (sS _)
theorem dg{i j:Str}(h1:dI X CL b e1 δ (.str i) δ1)(h2:dI X CL b e2 δ1 (.str j) δ2):yW X CL b Qes δ (decide (i=j)) δ2/\cL X CL b Qes δ (.sh (.bl (decide (i=j)))) δ2:=
 HG TK h1 h2 rfl rfl (λ_ _ q=>⟨rfl,by simp_all ⟩) (sS _)
theorem WN{i j:Str}(h1:dI X CL b e1 δ (.str i) δ1)(h2:dI X CL b e2 δ1 (.str j) δ2):yW X CL b Qeq δ (!decide (i=j)) δ2/\cL X CL b Qeq δ (.sh (.bl (!decide (i=j)))) δ2:=
 HG TJ h1 h2 rfl rfl (λ_ _ q=>⟨rfl,by simp_all ⟩) (sS _)
def Nx{i j:Int}(h1:Qbe)(h2:Qbp):yW X CL b (.Compare e1 [.Lt] [e2] pos) δ (decide (i<j)) δ2/\cL X CL b (.Compare e1 [.Lt] [e2] pos) δ (.sh (.bl (decide (i<j)))) δ2:=HG atF h1 h2 rfl rfl QiJ (sS _)
def at7{i j:Int}(h1:Qbe)(h2:Qbp):yW X CL b (.Compare e1 [.LtE] [e2] pos) δ (decide (i<=j)) δ2/\cL X CL b (.Compare e1 [.LtE] [e2] pos) δ (.sh (.bl (decide (i<=j)))) δ2:=HG atG h1 h2 rfl rfl QiJ (sS _)
def Jn{i j:Int}(h1:Qbe)(h2:Qbp):yW X CL b Qjf δ (decide (j<i)) δ2/\cL X CL b Qjf δ (.sh (.bl (decide (j<i)))) δ2:=HG TC h1 h2 rfl rfl QiJ (sS _)
end
theorem aW.split:∀{as bs:Bn} {us ws:BY} {gp:BS},as.length=us.length->aW K CL H Z (as++bs) (us++ws) gp->∃g1 g2,gp=g1++g2/\aW K CL H Z as us g1/\aW K CL H Z bs ws g2
 | [],_,[],_,gp,_,r=>⟨[],gp,rfl,.nil,r⟩
 | [],_,_::_,_,_,h,_=>by simp at h
 | _::_,_,[],_,_,h,_=>by simp at h
 | a::as,bs,u::us,ws,gp,h,r=>by
  cases r with
  | @cons _ _ _ _ f1 f2 c b=>
   obtain⟨g1,g2,e,h1,h2⟩:=aW.split W7 b;exact⟨ _,g2,W7,.cons c h1,h2⟩
variable{us:BY}
theorem aW.app{as bs:Bn}{ws:BY}{g1 g2:BS}(h:aW K CL H Z as us g1)(q:aW K CL H Z bs ws g2):aW K CL H Z (as++bs) (us++ws) (g1++g2):=
 aW.ind (P:=λas us g1=>aW K CL H Z (as++bs) (us++ws) (g1++g2)) q (λr _ i=>by rw[hZ];exact .cons r i) h
theorem aW.rev:∀{as:Bn} {us:BY} {g:BS},aW K CL H Z as.reverse us.reverse g->∃g',aW K CL H Z as us g'/\g'.Perm g
 | [],[],g,r=>by grind
 | [],u::us,g,r=>by have:=r.length;simp at this
 | a::as,[],g,r=>by have:=r.length;simp at this
 | a::as,u::us,g,r=>by
  rw[mn,mn]at r;have i:=r.length;obtain⟨g1,g2,e,c,b⟩:=aW.split W7 r;subst e;obtain⟨g',d,p⟩:=aW.rev c;cases b with
  | @cons _ _ _ _ f1 f2 h f=>
   cases f;refine⟨ _,.cons h d,?_⟩;rw[iz];exact(mD f1 p).trans l9
theorem aW.Mc:∀{ds:BA} {us:BY},au K CL Z ds us->aW K CL H Z Qa7 us []
 | _,_,.nil=>.nil
 | _,_,.cons r t=>.cons (.sh r) (aW.Mc t)
theorem aW.toF:∀{ds:BA} {us:BY} {g:BS},aW K CL H Z Qa7 us g->au K CL Z ds us/\g=[]
 | [],_,_,r=>by
  have a:=r;cases a;exact⟨.nil,rfl⟩
 | d::ds,_,_,r=>by
  have a:=r;cases a with
  | cons c b=>
   cases c with
   | sh h=>
    obtain⟨q,e⟩:=aW.toF b;exact⟨.cons h q,‹_› ⟩
theorem kC:∀(ds:BA),T.iD Qa7=ds
 | []=>rfl
 | d::ds=>by rw[kc,T.iD,kC ds,T.gW]
variable{tl:Bn}
theorem bC.O6(S:Qlm)(s:us.length=tl.length)(f:H p=none) :
  aB Z (upd Z p Qd8)/\aB H (upd H p Qd8)/\bC K CL b (upd H p Qd8) (upd Z p Qd8) δ σ (.tup tl::ts) (.ref p::vs):=by
 obtain⟨fp,gp,e,r,nd,k⟩:=S.rep;obtain⟨g1,g2,n,l,j⟩:=aW.split W8 r;subst n;obtain⟨g',m,pm⟩:=l.rev;have g:=S.zh.free f;have sz:aB Z (upd Z p Qd8):=aB.upd g;have sh:aB H (upd H p Qd8):=aB.upd f;have keep:∀a∈fp++(g1++g2),a≠p:=λa c=>by
  have:∃o,H a=some o:=by
   obtain h|h:=hV.1 c
   .exact e.there a h
   .exact r.there a h
  obtain⟨o,q⟩:=this;exact aP q f
 have d:=(pm.append_right g2).append_left fp;have kk:=λa c=>keep a QhV;refine⟨sz,sh,⟨⟨fp,_,e.mono sz QiS,.cons (.tup aR (m.mono sz λa c=>aq (kk a (by simp[c])))) (j.mono sz λa c=>aq (keep a (by simp[c]))),d.nodup_iff.2 nd,λa c=>?_⟩,S.bh.trans sh,S.zz.trans sz,λa o q=>?_,λa o q z=>?_,λa o q i=>?_,S.tab⟩⟩
 .exact⟨ aq (kk a c)▸(k a QhV).1,(k a QhV).2⟩
 .by_cases c:a=p
  .subst c;rw[aR]at q ⊢;exact q
  .rw[aq c]at q ⊢;exact S.zh a o q
 .by_cases c:a=p
  .subst c;exact S.bh.free f
  .rw[aq c]at q;exact S.new a o q z
 .by_cases c:a=p
  .subst c;rw[aR]at q ⊢;exact q
  .rw[aq c]at q ⊢;exact S.tp a o q i
theorem bC.kX{g0:BS}(S:Qlm)(t:us.length=tl.length)(g:H p=none) :
  aB H (upd H p QbR)/\bC K CL b (upd H p QbR) Z δ σ (.lst tl::ts) (.ref p::vs):=by
 obtain⟨fp,gp,e,r,nd,k⟩:=S.rep;obtain⟨g1,g2,s,m,l⟩:=aW.split W8 r;subst s;obtain⟨g',n,pm⟩:=m.rev;have j:=S.zh.free g;have sh:aB H (upd H p QbR):=aB.upd g;have keep:∀a∈fp++(g1++g2),a≠p:=λa c=>by
  have:∃o,H a=some o:=by
   obtain h|h:=hV.1 c
   .exact e.there a h
   .exact r.there a h
  obtain⟨o,q⟩:=this;exact aP q g
 have d:=(pm.append_right g2).append_left fp;have kk:=λa c=>keep a QhV;have f:(fp++((p::g')++g2)).Perm (p::(fp++(g'++g2))):=by simp
 refine⟨sh,⟨⟨fp,_,e.mono Qb QiS,.cons (.lst aR (n.mono Qb λa c=>aq (kk a (by simp[c])))) (l.mono Qb λa c=>aq (keep a (by simp[c]))),?_,λa c=>?_⟩,S.bh.trans sh,S.zz,S.zh.trans sh,S.new,λa o q i=>?_,S.tab⟩⟩
 .refine f.nodup_iff.2 (ma.2 ⟨λh=>kk p h rfl,d.nodup_iff.2 nd⟩)
 .obtain h|h:=hR.1 (f.mem_iff.1 c)
  .subst h;exact⟨j,S.bh.free g⟩
  .exact k a (d.mem_iff.1 h)
 .by_cases c:a=p
  .subst c;rw[aR]at q;cases q;cases i
  .rw[aq c]at q;exact S.tp a o q i
variable{δ1 δ2:BB}{e1 e2:Expr}{p q:Bool}{pos:Pos}{d:D}{ds:BA}
def bD:Nv X CL b [] δ [] δ:=λH Z σ ts vs Q S k=>LJ cV (k [] H Z rfl Qb Qb S)
theorem aO(h1:QaH)(h2:Nv X CL b es δ1 tl δ2)(hs:Qah:=by exact aS rfl):Nv X CL b Qae δ (t::tl) δ2:=λH Z σ ts vs Q S k=>
 LJ (bE dD LC hs) (h1 H Z σ ts vs _ S λv H1 Z1 c k1 f=>h2 H1 Z1 σ _ _ _ f λus H2 Z2 d a k2 g=>k _ H2 Z2 (by simp[d]) Qcg Qaq W7)
def aE:nZ X CL b [] δ [] δ:=λH Z σ ts vs Q S k=>LJ cV (k [] H Z Qb Qb S .nil)
def ah(h1:QdH)(h2:nZ X CL b es δ1 ds δ2)(hs:Qah:=by exact aS rfl):nZ X CL b Qae δ (d::ds) δ2:=λH Z σ ts vs Q S k=>
 LJ (bE dD LC hs) (h1 H Z σ ts vs _ S λv H1 Z1 c k1 i g=>h2 H1 Z1 σ _ _ _ i λus H2 Z2 a k2 h f=>k _ H2 Z2 Qcg Qaq h (.cons (g.mono k2) f))
variable{j:Nat}
def oX(h:QjT)(g:tl.length<=sizeLine):cL X CL b QhO δ (.tup tl) δ1:=λH Z σ ts vs Q S k=>
 cK (aeH LC) (h H Z σ ts vs _ S λus H1 Z1 d e k1 l=>⟨ d▸g,λp f=>by
  obtain⟨a,c,i⟩:=l.O6 d f;exact k _ _ _ (e.trans a) QcC i⟩)
theorem jR(h:Nv X CL b es δ (ds.map T.sh) δ1)(a:QbK):cL X CL b QhO δ (.sh QcJ) δ1:=by
 have:=WM (oX (pos:=pos) (j:=j) h W7)
 rwa [T.gW,kC]at this
def dQ(h:QjT)(f:tl.length<=sizeLine):cL X CL b (.List es pos) δ (.lst tl) δ1:=λH Z σ ts vs Q S k=>
 cK (aoT LC) (h H Z σ ts vs _ S λus H1 Z1 a d k1 i=>⟨ a▸f,λp e=>by
  obtain⟨c,g⟩:=i.kX (g0:=[]) a e;exact k _ _ _ d QcC g⟩)
def qQ(h:QiU)(he:∀whole,isTrue e X.env whole=(do let v ← whole;standAt e.pos;holding [v] (truthy v)):=by intro _;rfl):yW X CL b e δ p δ1:=λH Z σ ts vs Q S k=>
 LD (aox dD he) (h H Z σ ts vs _ S λv H1 Z1 c k1 a=>⟨p,by have:=a.view;exact this.sc rfl,k H1 Z1 c k1 a.pop⟩)
def HJ(h:Qca):yW X CL b (.UnaryOp .Not e pos) δ (!p) δ1:=λH Z σ ts vs Q S k=>LD (aoz oy) Qfw
noncomputable def IP(X:Cx)(e:Expr):TT:=λσ H Q=>∀(whole:Sem Value) (pins:BM) (s:Qr),Inv X pins σ H s->wpAny QA X.A (isTrue e X.env whole) QeH X.xe s
noncomputable def L9:PW X e (IP X e):=λwhole pins s _ _ _ I h=>h _ pins s I
def wj(X:Cx)(CL:BC)(b:Bx)(e:Expr)(δ:BB)(p:Bool)(δ':BB):Prop:=
 ∀(H Z:Hp) (σ:L2.St) (ts:Bn) (vs:BY) (Q:Db),bC X.K CL b H Z δ σ ts vs->(∀H' Z',aB Z Z'->aB H H'->bC X.K CL b H' Z' δ' σ ts vs->Q p H')->IP X e σ H Q
noncomputable def xt{t:TT}(h:PW X e t)(q:t σ H Q):IP X e σ H Q:=λwhole pins s I=>h _ pins s σ H Q I q
noncomputable def oY(h:wj X CL b e δ p δ1):yW X CL b e δ p δ1:=λH Z σ ts vs Q S k pins s I=>h H Z σ ts vs Q S k _ pins s I
def iU(h:Qca):wj X CL b (.BoolOp .And [e] pos) δ p δ1:=λH Z σ ts vs Q S k=>xt (ZP oy) Qfw
def AA(h:Qca):wj X CL b (.BoolOp .Or [e] pos) δ p δ1:=λH Z σ ts vs Q S k=>xt (aoy oy) Qfw
theorem ic(h:Qca)(h2:p=true->wj X CL b Qjk δ1 q δ1):wj X CL b Qi7 δ (p&&q) δ1:=λH Z σ ts vs Q S k=>
 xt (aeo oy L9) (h H Z σ ts vs _ S λH1 Z1 a k1 c=>by
  cases p with
  | true=>exact O1 Qkx
  | false=>exact T3 (k H1 Z1 a k1 c))
theorem xG(h:Qca)(h2:p=false->wj X CL b (.BoolOp .Or (e2::es) pos) δ1 q δ1):wj X CL b (.BoolOp .Or (e::e2::es) pos) δ (p || q) δ1:=λH Z σ ts vs Q S k=>
 xt (atj oy L9) (h H Z σ ts vs _ S λH1 Z1 a k1 c=>by
  cases p with
  | true=>exact O1 (k H1 Z1 a k1 c)
  | false=>exact T3 Qkx)
def O7{op:BoolOp}(h:QaH):cL X CL b (.BoolOp op [e] pos) δ t δ1:=λH Z σ ts vs Q S k=>cK (aoA dD) Qfw
def WO(h:QiU)(h2:p=true->cL X CL b Qjk δ1 (.sh (.bl q)) δ1):cL X CL b Qi7 δ (.sh (.bl (p&&q))) δ1:=λH Z σ ts vs Q S k=>
 cK (aoB dD dD) (h H Z σ ts vs _ S λv H1 Z1 c k1 a=>by
  have hv:=by have:=a.view;exact this.sc rfl
  refine⟨p,hv,?_⟩;cases p with
  | true=>exact O1 Qkw
  | false=>exact T3 (k _ H1 Z1 c k1 (a.pop.push (.bl _))))
def Td(h:QiU)(h2:p=false->cL X CL b (.BoolOp .Or (e2::es) pos) δ1 (.sh (.bl q)) δ1):cL X CL b (.BoolOp .Or (e::e2::es) pos) δ (.sh (.bl (p || q))) δ1:=λH Z σ ts vs Q S k=>
 cK (atl dD dD) (h H Z σ ts vs _ S λv H1 Z1 c k1 a=>by
  have hv:=by have:=a.view;exact this.sc rfl
  refine⟨p,hv,?_⟩;cases p with
  | true=>exact O1 (k _ H1 Z1 c k1 (a.pop.push Qbj))
  | false=>exact T3 Qkw)
theorem apc(h:Qca)(h1:p=true->cL X CL b e1 δ1 t δ2)(h2:p=false->cL X CL b e2 δ1 t δ2):cL X CL b (.IfExp e e1 e2 pos) δ t δ2:=λH Z σ ts vs Q S k=>
 cK (aep oy dD dD) (h H Z σ ts vs _ S λH1 Z1 d k1 f=>by
  cases p with
  | true=>exact O1 (h1 rfl H1 Z1 σ ts vs _ f λv H2 Z2 a k2 c=>k v H2 Z2 (d.trans a) Qaq c)
  | false=>exact T3 (h2 rfl H1 Z1 σ ts vs _ f λv H2 Z2 a k2 c=>k v H2 Z2 (d.trans a) Qaq c))
variable{k:Int}
theorem B4(r:QeK)(h:QeY):∃v,uW vs k=some v/\cB K CL Z d v:=by
 unfold uW at h ⊢;rw[← r.length];cases e:Np _ k with
 | none=>rw[e]at h;cases h
 | some j=>
  rw[e]at h;exact r.get h
def aV(h1:dI X CL b e1 δ (.tup ds) δ1)(h2:Qfo)(l:QeY)(hs:u5 e2:=by exactλ_ _=>rfl):dI X CL b Qfx δ d δ2:=λH Z σ ts vs Q S kk=>
 cK (Hz WC dD dD hs) (h1 H Z σ ts vs _ S λv1 H1 Z1 e k1 n i=>h2 H1 Z1 σ ts vs _ n λv2 H2 Z2 c k2 m h=>by
  have a:=i.mono k2;cases a with
  | tup j g=>
   obtain⟨v,hv,f⟩:=B4 g l;exact⟨_,_,k,v,rfl,h.sc rfl,j,hv,kk v H2 Z2 Qe7 Qaq m f⟩)
def bG(h1:Qi8)(h2:Qfo)(l:QeY)(hs:u5 e2:=by exactλ_ _=>rfl):dI X CL b Qfx δ d δ2:=λH Z σ ts vs Q S kk=>
 cK (Hz GB dD dD hs) (h1 H Z σ ts vs _ S λv1 H1 Z1 e k1 n i=>h2 H1 Z1 σ ts vs _ n λv2 H2 Z2 c k2 m h=>by
  have a:=i.mono k2;cases a with
  | lst j g=>
   obtain⟨v,hv,f⟩:=B4 g l;exact⟨_,_,k,v,rfl,h.sc rfl,j,hv,kk v H2 Z2 Qe7 Qaq m f⟩)
def m7(h1:cL X CL b e1 δ (.sh QcJ) δ1)(h2:Qfo)(j:QeY)(hs:u5 e2:=by exactλ_ _=>rfl):cL X CL b Qfx δ (.sh d) δ2:=λH Z σ ts vs Q S kk=>
 cK (Hz WC dD dD hs) (h1 H Z σ ts vs _ S λv1 H1 Z1 e k1 l=>h2 H1 Z1 σ _ _ _ l λv2 H2 Z2 c k2 a h=>by
  obtain⟨fp,gp,_,r,_,_⟩:=a.rep;cases r with
  | cons r _=>
   cases r with
   | sh r=>
    cases r with
    | tup i g=>
     obtain⟨v,hv,f⟩:=B4 g j;exact⟨_,_,k,v,rfl,h.sc rfl,aB.pw a.zh i,hv,kk v H2 Z2 Qe7 Qaq (a.pop.push f)⟩)
def WQ(h1:cL X CL b e1 δ (.sh QcK) δ1)(h2:Qfo)(j:QeY)(hs:u5 e2:=by exactλ_ _=>rfl):cL X CL b Qfx δ (.sh d) δ2:=λH Z σ ts vs Q S kk=>
 cK (Hz GB dD dD hs) (h1 H Z σ ts vs _ S λv1 H1 Z1 e k1 l=>h2 H1 Z1 σ _ _ _ l λv2 H2 Z2 c k2 a h=>by
  obtain⟨fp,gp,_,r,_,_⟩:=a.rep;cases r with
  | cons r _=>
   cases r with
   | sh r=>
    cases r with
    | lst i g=>
     obtain⟨v,hv,f⟩:=B4 g j;exact⟨_,_,k,v,rfl,h.sc rfl,a.zh.seq i,hv,kk v H2 Z2 Qe7 Qaq (a.pop.push f)⟩)
theorem bC.pX:∀{ds:BA} {us:BY} {ts:Bn} {vs:BY},au K CL Z ds us->bC K CL b H Z δ σ ts vs->bC K CL b H Z δ σ ((ds.map T.sh).reverse++ts) QdL
 | _,_,_,_,.nil,S=>S
 | _,_,ts,vs,.cons r t,S=>by
  rw[kc,mn,mn,hZ,hZ];exact bC.pX t (S.push r)
theorem bC.drops(S:bC K CL b H Z δ σ (tl++ts) (us++vs))(a:us.length=tl.length):bC K CL b H Z δ σ ts vs:=by
 induction tl generalizing us with
 | nil=>
  cases us with
  | nil=>exact S
  | cons _ _=>simp at a
 | cons t tl c=>
  cases us with
  | nil=>simp at a
  | cons u us=>exact c S.pop W7
theorem bC.aaj{ds:BA}(S:bC K CL b H Z δ σ ((ds.map T.sh).reverse++ts) QdL)(d:us.length=ds.length):au K CL Z ds us:=by
 obtain⟨fp,gp,e,r,nd,k⟩:=S.rep;obtain⟨g1,g2,g,a,f⟩:=aW.split (by simp[d]) r;obtain⟨g',c,pm⟩:=a.rev;exact c.toF.1
section
variable{pp:Pos}{ds:BA}
def O8(hm:Qid)(h:Qb5)(f:Gl X "len":=by rfl)(hs:Qaa:=by exact aS rfl)(hpl:(backTo pos (starEach ([]:Cf) X.env)).any (·.1)=false:=by rfl):cL X CL b QiN δ (.sh (.int ds.length)) δ1:=λH Z σ ts vs Q S k=>
 cK Qk3 (h H Z σ ts vs _ S λv H1 Z1 a k1 g r=>by
  cases r with
  | lst d c=>exact⟨_,_,rfl,.inl d,c.length▸k _ H1 Z1 a k1 (g.push Qbc) ⟩)
def ajH(hm:Qid)(h:dI X CL b e δ (.tup ds) δ1)(f:Gl X "len":=by rfl)(hs:Qaa:=by exact aS rfl):cL X CL b QiN δ (.sh (.int ds.length)) δ1:=λH Z σ ts vs Q S k=>
 cK Qk3 (h H Z σ ts vs _ S λv H1 Z1 a k1 g r=>by
  cases r with
  | tup d c=>exact⟨_,_,rfl,.inr d,by rw[← c.length];exact k _ H1 Z1 a k1 (g.push Qbc)⟩)
def ou(hm:QeI)(h:QgF)(j:Qfa:=by rfl)(hv:bootBuiltins "list" = some QeM:=by rfl)(hs:Qaa:=by exact aS rfl):cL X CL b QiK δ (.lst Qa7) δ1:=λH Z σ ts vs Q S k=>
 cK (jQ BX j hm hv Qau (he:=hs)) (h H Z σ ts vs _ S λv H1 Z1 f k1 a=>by
  obtain⟨fp,gp,_,r,_,_⟩:=a.rep;cases r with
  | cons r _=>
   cases r with
   | sh r=>
    cases r with
    | lst g d=>
     refine⟨_,_,rfl,.inl (a.zh.seq g),λl i=>?_⟩;obtain⟨c,m⟩:=(bC.pX d a.pop).kX (g0:=[]) (by simp[d.length]) i;exact k _ _ _ f QcC m)
def g7(hm:QeI)(h:Qb5)(hi:QbZ)(j:Qfa:=by rfl)(hv:bootBuiltins "list" = some QeM:=by rfl)(hs:Qaa:=by exact aS rfl):cL X CL b QiK δ (.lst Qa7) δ1:=λH Z σ ts vs Q S k=>
 cK (jQ BX j hm hv Qau (he:=hs)) (h H Z σ ts vs _ S λv H1 Z1 f k1 d r=>by
  cases r with
  | lst g a=>
   refine⟨_,_,rfl,.inl g,λl i=>?_⟩;obtain⟨c,m⟩:=(bC.pX (au.u9 d.tp hi a) d).kX (g0:=[]) (by simp[a.length]) i;exact k _ _ _ f QcC m)
def Ny(K:Frag)(CL:BC){A:Type}(n:Nat)(arg:QaA)(Pre:Qab)(res:Qaj):Sp:=λvs H Q _=>
 ∃(W:Hp) (a:A),aB W H/\(∀c o,H c=some o->m5 o=true->W c=some o)/\au K CL W (arg a) vs/\(arg a).length=n/\Pre a/\u6 CL W ∧
  ∀v H' W' fp,aB H H'->aB W W'->aB W' H'->(∀c o,W' c=some o->W c=none->H c=none)->(∀c o,H' c=some o->m5 o=true->W' c=some o) →
   b9 K CL H' W' Qcq v fp->fp.Nodup->(∀c∈fp,W' c=none/\H c=none)->Q v H'
variable{A:Type}{k n:Nat}{f:Addr}{fd:Qa0}{ps:At}{x:Str}{arg:QaA}{Pre:Qab}{res:Qaj}
def ajI(a:A)(F:Qgg)(m:QbG)(hm:QfR)(s:QfB)(y:Qc6)
  (h:QgO) (p:Qb0) (o:Pre a) (u:QdO) (t:Qam)
  (l:AD x:=by decide) (he:Qah:=by exact aS rfl) (hpl:Qaw:=by rfl) :
  cL X CL b Qby δ (res a) δ1:=λH Z σ ts vs Q S kk=>
 cK (OX F m t hm s y .nil xD LC l he hpl) (h H Z σ ts vs _ S λus H1 Z1 g k1 c r=>by
  rw[iz];refine⟨H1,a,.refl _,λ_ _ q _=>q,r,p,o,c.T5,λv H' W' fp d ww j nw tp rt nd own=>?_⟩;obtain⟨Z',i,z⟩:=c.back d c.zh ww j nw tp rt nd own (.inr u);exact kk v H' Z' (g.trans i) (k1.trans d) z)
theorem ae4(a:A)(F:Qgg)(o:QbG)(hm:QfR)(r:QfB)(t:Qc6)
  (h:Qgx) (q:Qb0) (p:Pre a) (s:Qam)
  (m:AD x:=by decide) (he:Qah:=by exact aS rfl) (hpl:Qaw:=by rfl) :
  cL X CL b Qby δ (res a) δ1:=λH Z σ ts vs Q S kk=>
 cK (OX F o s hm r t .nil xD LC m he hpl) (h H Z σ ts vs _ S λus H1 Z1 z i k1 d=>by
  rw[iz];have c:us.length=(arg a).length:=by simp_all
  have u:=d.drops (by simp[c]);refine⟨Z1,a,d.zh,d.tp,d.aaj c,q,p,d.WH,λv H' W' fp g ww l nw tp rt nd own=>?_⟩;obtain⟨Z',j,y⟩:=u.back g Qb ww l nw tp rt nd own Q4;exact kk v H' Z' (i.trans j) (k1.trans g) y)
variable{D D':gU}{st:Stmt}{gS at8:Cs}
theorem Meets.to{E:Ends}(M:Meets K CL b Z ts vs D E)(h1:∀δ,D'.nx δ->D.nx δ)(h2:∀t δ,D'.rt t δ->D.rt t δ)(c:∀δ,D'.bk δ->D.bk δ)(a:∀δ,D'.ct δ->D.ct δ):Meets K CL b Z ts vs D' E:=
 ⟨λ_ _ _ _ s S k=>M.nx _ _ _ _ s S (h1 _ k),λ_ _ _ _ _ _ s S k=>M.rt _ _ _ _ _ _ s S (h2 _ _ k),λ_ _ _ _ s S k=>M.bk _ _ _ _ s S (c _ k),λ_ _ _ _ s S k=>M.ct _ _ _ _ s S (a _ k)⟩
def ai(h:D.nx δ):dh X CL b [] δ D:=λH Z σ ts vs E S M=>SO ajs (M.nx δ σ H Z Qb S h)
def cE(h:WL X CL b st δ {D with nx:=λδ1=>dh X CL b gS δ1 D}):dh X CL b (st::gS) δ D:=λH Z σ ts vs E S M=>
 SO (aeq psS n4) (h H Z σ ts vs _ S ⟨λδ' σ' H' Z' s a k=>k H' Z' σ' ts vs E a (M.mono s),M.rt,M.bk,M.ct⟩)
def ae5(h:D.bk δ):WL X CL b (.Break pos) δ D:=λH Z σ ts vs E S M=>qP aer (M.bk δ σ H Z Qb S h)
def ajJ(h:D.ct δ):WL X CL b (.Continue pos) δ D:=λH Z σ ts vs E S M=>qP Tz (M.ct δ σ H Z Qb S h)
def ape(h:QaH)(k:D.rt t δ1):WL X CL b QjN δ D:=λH Z σ ts vs E S M=>qP (aes dD) (h H Z σ ts vs _ S λv H1 Z1 a k1 c=>M.rt t v H1 Z1 δ1 σ a c k)
theorem at9(h:Qca)(h1:p=true->dh X CL b gS δ1 D)(h2:p=false->dh X CL b at8 δ1 D):WL X CL b (.If e gS at8 pos) δ D:=λH Z σ ts vs E S M=>
 qP (TM oy n4 n4) (h H Z σ ts vs _ S λH1 Z1 a k1 c=>by
  cases p with
  | true=>exact O1 (h1 rfl H1 Z1 σ ts vs E c (M.mono a))
  | false=>exact T3 (h2 rfl H1 Z1 σ ts vs E c (M.mono a)))
def ae6(i:Nat){pos':Pos}(h:QaH)(k:D.nx (δ1.set i Qas))(d:Qb1:=by decide)(f:QbX:=by assumption)(hi:X.N[i]? = some x:=by rfl)(c:Qda:=by first|exact .inl rfl|exact .inr rfl)
  (hs:Qfh:=by rfl) (hf:AM X x:=by first|exact .inl rfl|exact .inr rfl|assumption):WL X CL b Qi6 δ D:=λH Z σ ts vs E S M=>
 qP (aex f hi c dD hs hf) (h H Z σ ts vs _ S λv H1 Z1 a k1 g=>M.nx _ _ H1 Z1 a (g.set d) k)
end
noncomputable def entry(N:At)(ds:BA):BB:=ds.map Qha++List.replicate (N.length-ds.length) none
theorem m8{K:Frag}{CL:BC}{H Z:Hp}:∀{ds:BA} {vs:BY} (n:Nat),au K CL Z ds vs->f6 K CL H Z (ds.map Qha++List.replicate n none) (vs.map some++List.replicate n none) []
 | _,_,0,.nil=>.nil
 | _,_,n+1,.nil=>.skip (m8 n .nil)
 | _,_,n,.cons r t=>.cons (.sh r) (m8 n t)
variable{P:QaE}{w:World}{mg:Bz}{base:Heap}{x qual:Str}{st:Stmt}{f:Addr}{fd:Qa0}{N ps:At}{A:Type}
theorem vf{k:Nat}{arg:QaA}{Pre:Qab}{res:Qaj}(F:Qc3)(S:QdR)
  (u:∀(iR:Value) (g:QaF) (outer:EM) (s:Qr) (H:Hp) (E:XK) (b:Bx) (a:A),fO k (g.deeper QdC)->Pre a →
   dh (BR mX P w K mg base N qual Qcj f iR g outer s H E).nc CL b Qcp QhP {nx:=λ_=>res a=.sh .non,rt:=λt _=>t=res a}) :
  d7 P w K mg base mX QaZ f fd ps QiV:=by
 refine F.ok S (λvs H Q E h=>?_) (λiR g outer s H vs Q E n h=>?_)
 .obtain⟨W,a,_,_,r,i,_⟩:=h;rw[← r.length];exact i
 .obtain⟨W,a,j,tp,r,i,p,tb,kk⟩:=h;refine⟨_,n4,u iR g _ s H E ⟨H,W⟩ a n p H W _ [] [] _ ⟨⟨[],[],?_,.nil,rh,λa d=>by cases d⟩,.refl _,.refl _,j,λa o q z=>?_,tp,tb⟩ ⟨λδ' σ' H' Z' s' c e=>?_,λt v H' Z' δ' σ' s' c e=>?_,λ_ _ _ _ _ _ e=>e.elim,λ_ _ _ _ _ _ e=>e.elim⟩⟩
  .unfold entry L2.start;rw[← r.length];exact m8 _ r
  .grind
  .exact kk .non H' Z' [] c.bh c.zz c.zh c.new c.tp (by rw[e];exact .sh .non) rh λa d=>by cases d
  .have y:=e;subst y;obtain⟨fp,gp,_,m,nd,own⟩:=c.rep;cases m with
   | @cons _ _ _ _ f1 f2 l B=>
    have h1:=(ko.1 nd).2.1;exact kk v H' Z' f1 c.bh c.zz c.zh c.new c.tp l (ko.1 h1).1 λa d=>own a (h5 _ (ik _ d))
variable{prog:QaE}{A:QaF}{R:Result->Shared->Prop}{s:Qr}{elt iter:Expr}{ifs:Cf}{scope:Scope}
theorem O9{target:Expr}{it acc:Value}(I:Nat->Shared->Prop)
  (turn:∀n s,I n s->wpAny Qak A (pyNext it) (λr d=>match r with
   | none=>R (.ok .next) d
   | some v=>wpAny Qak A (letOwnedTupleGo target it v) (λ_ b=>wpAny Qak A (assign target env v) (λ_ g=>
     wpAny Qak A (forIn ifs true λc r=>if r=true then do let ok ← isTrue c env (eval c env);pure (ForInStep.yield ok) else pure Qj9) (λok a=>
      if ok=true then wpAny Qak A (eval elt env) (λx f=>
       wpAny Qak A (call (.builtin "list.append") [acc,x]) (λ_ e=>∃m,m<n/\I m e) QbL f) QbL a
      else ∃m,m<n/\I m a) QbL g) QbL b) QbL d) QbL s)
  (n:Nat) (h:I n s) :
  codeAny Qak A (.compLoop (.ListComp elt [⟨target,iter,ifs,0⟩] scope pos) 0 it acc env) R s:=by
 refine codeAny_loop rfl I (λn s q=>?_) n h;refine wpAny_noted ?_;rw[compTurn_list];refine hY (FR (hY (m3 (turn n s q) (λr d j=>?_) λ_ _ h'=>h'.elim)));cases r with
 | none=>exact kn j
 | some v=>
  refine hY (m3 j (λ_ b k=>?_) λ_ _ h'=>h'.elim);refine hY (m3 k (λ_ g p=>hY (m3 p (λok a i=>?_) λ_ _ h'=>h'.elim)) λ_ _ h'=>h'.elim);cases ok with
  | false=>exact kn ⟨rfl,i⟩
  | true=>
   exact hY (hY (m3 i (λx f o=>hY (m3 o (λ_ e l=>kn (kn ⟨rfl,l⟩)) λ_ _ h'=>h'.elim)) λ_ _ h'=>h'.elim))
abbrev _root_.DO:=List (Str×NameKind)
noncomputable def fq(env:Env):DO->List QeR->List QeR
 | [],cs=>cs
 | (n,k)::r,cs=>fq env r (if k == .free then(n,(env.cells.lookup n).getD 0)::cs else cs)
theorem nQ(h:∀x∈scope.names,x.2=.free->∃c,env.cells.lookup x.1=some c):closureFor scope env=pure (fq env scope.names []):=by
 have go:∀(l:List _) (cs:List _),(∀x∈l,x.2=.free->∃c,env.cells.lookup x.1=some c) →
   (forIn l cs λx r=>match x with|(name,kind)=>if (kind==NameKind.free)=true then do let a ← cellOf env name;pure (ForInStep.yield ((name,a)::r)) else pure Qj9:Sem _)=pure (fq env l cs):=by
  intro l
  induction l with
  | nil=>intro cs _;rfl
  | cons x r f=>
   intro cs d;obtain⟨n,k⟩:=x;rw[List.forIn_cons];by_cases j:k=.free
   .subst j;obtain⟨c,g⟩:=d _ hU rfl;have e:cellOf env n=pure c:=by unfold cellOf;rw[g]
    simp only[G2,o3,e,pure_bind];rw[f _ λy b=>d y (hX _ b)];simp[fq,o3];rw[g];rfl
   .have i:(k==NameKind.free)=false:=by grind
    simp only[i,og,oe,pure_bind];rw[f _ λy b=>d y (hX _ b)];simp[fq,i,og,oe]
 unfold closureFor;have:=go _ [] h;simp only[bind_pure]at this ⊢;exact this
theorem vg{env:Env}:∀{l:DO} {cs:List QeR} {y:Str} {c:Addr},(∀x∈l,x.2=.free->∃c,env.cells.lookup x.1=some c)->(∀y c,cs.lookup y=some c->env.cells.lookup y=some c) →
  (fq env l cs).lookup y=some c->env.cells.lookup y=some c
 | [],cs,y,c,_,h,e=>h y c e
 | (n,k)::r,cs,y,c,a,h,e=>by
  refine vg (λz hz=>a z Qdv) (λz d hz=>?_) e;by_cases b:k=.free
  .subst b;obtain⟨g,f⟩:=a _ hU rfl;grind
  simp_all
theorem E9{env:Env}{y:Str}:∀{l:DO} {cs:List QeR},(∃c,cs.lookup y=some c)->∃c,(fq env l cs).lookup y=some c
 | [],cs,h=>h
 | (n,k)::r,cs,h=>by
  refine E9 (l:=r) ?_;by_cases a:(k==NameKind.free)=true
  .rw[hO a,l0];by_cases b:(y==n)=true
   .rw[b];simp_all
   .have:(y==n)=false:=by simp_all
    rw[this];exact h
  .rw[cq a];exact h
theorem qR{env:Env}{y:Str}:∀{l:DO} {cs:List QeR},l.lookup y=some .free->∃c,(fq env l cs).lookup y=some c
 | [],_,h=>by simp at h
 | (n,k)::r,cs,h=>by
  rw[l0]at h;by_cases a:(y==n)=true
  .refine E9 (l:=r) ?_;simp_all
  .have:(y==n)=false:=by simp_all
   rw[this]at h;exact qR (l:=r) h
def c7(X:Cx)(scope:Scope)(Nc:At)(C:Addr)(s:Qr)(H:Hp)(fp:BS):Cx where
 prog:=X.prog
 w:=X.w
 K:=X.K
 mg:=X.mg
 base:=X.base
 A:=X.A
 N:=Nc
 h9:=s
 nN:=H
 env:=compEnvC scope QbH C X.env
 outer:=X.stack
 stack:=X.stack
 ex:=fp
 fn:=λ_=>false
 calm:=X.calm
 pn:=[]
 xe:=λ_ _=>False
abbrev _root_.Cc:=List Nat
structure gF(X:Cx)(scope:Scope)(x:Str)(Nc:At)(ix:Cc):Prop where
 kind:scope.kind=.function
 DE:∀y∈scope.names,y.2 ≠ .cell
 nd:Nc.Nodup
 names:∀y∈scope.names,y.2=.local->scope.names.lookup y.1=some .local
 own:scope.names.lookup x=some .local
 frees:∀y∈scope.names,y.2=.free->scope.names.lookup y.1=some .free/\QkZ
 hd:Nc=x::ix.filterMap (X.N[·]?)
 so:∀i∈ix,∃y,X.N[i]? = some y/\scope.names.lookup y=some .free
theorem jC{env:Env}:∀{names:DO} {x:Str} {k:NameKind},names.lookup x=some k ->
  (names.map λ(n,k)=>if (k==NameKind.free&&env.scope.kind == .function&&env.kindOf n==some .cell) then(n,NameKind.cell) else(n,k)).lookup x=some (if (k==NameKind.free&&env.scope.kind == .function&&env.kindOf x==some .cell) then .cell else k)
 | [],_,_,h=>by simp at h
 | (n,b)::r,x,k,h=>by
  have c:=@jC env r x k;show List.lookup x (Qkq::_)=_;cases a:x==n with
  | true=>
   simp[l0,a]at h;cases h;have e:x=n:=by grind
   subst e;split<;>simp
  | false=>
   simp[l0,a]at h;split
   .simp only[l0,a];exact c h
   .simp only[l0,a];exact c h
theorem pY{env:Env}:∀{names:DO} {x:Str},names.lookup x=none ->
  (names.map λ(n,k)=>if (k==NameKind.free&&env.scope.kind == .function&&env.kindOf n==some .cell) then(n,NameKind.cell) else(n,k)).lookup x=none
 | [],_,_=>rfl
 | (n,b)::r,x,h=>by
  have c:=@pY env r x;show List.lookup x (Qkq::_)=_;cases a:x==n with
  | true=>simp only[l0,a]at h;cases h
  | false=>
   simp only[l0,a]at h;split
   .simp only[l0,a];exact c h
   .simp only[l0,a];exact c h
variable{Nc:At}{ix:Cc}{pins:BM}
noncomputable def AF(σ:L2.St)(ix:Cc)(o:QdV):L2.St:=o::ix.map λi=>(σ[i]?).getD none
theorem acg{l:BM}{σ':L2.St}{s':Qr}{f:Heap}(I:QE)(i:∀b∈fp,qf X pins H b)
  (J:Inv Qlr l σ' H' s') (hs:Heap.SameBut s.heap.objs.size s'.heap f):Inv X pins σ H' {s' with heap:=f}:=by
 have un:Un (n7 X.stack) fp H H' s.heap _:=J.base;have j:Un (n7 X.stack) fp H H' s.heap f:=by
  have ne:∀b o,s.heap.get? b=some o->b≠s.heap.objs.size:=λb o e=>kr (ij e);refine⟨λb o e n a h=>(hs.2 b (ne b o e)).trans (un.keep b o e n a h),λb o e n a h=>?_,un.free,λb o e h=>?_,un.FW,un.iD,un.FY⟩
  .obtain⟨sl,q⟩:=un.slot b o e n a h;exact⟨sl,(hs.2 b (ne b o e)).trans q⟩
  .obtain⟨o',q⟩:=un.there b o e h;exact⟨o',(hs.2 b (ne b o e)).trans q⟩
 have m:H' s.heap.objs.size=none:=J.free;have gD:=λb u e=>by
  refine(J.gD b u e).Hq (λc v r q=>(hs.2 c ?_).trans q) Qdf λ_ _ q=>q;rintro rfl;grind
 obtain⟨p,g,d,t,k⟩:=s';obtain rfl:k=s.os:=J.os;exact I.call j gD J.bare λb a=>⟨(i b a).2.2.2.1,(i b a).2.1,(i b a).2.2.2.2.1,(i b a).2.2.2.2.2⟩
def IM(X:Cx):Cf->TT
 | []=>λ_ H Q=>Q true H
 | [c]=>FC X c
 | _=>λ_ _ _=>False
def ae7(I:QE)(h:IM X ifs σ H Q)(a:X.xe=λ_ _=>False) :
  wpAny QA X.A (forIn ifs true λc r=>if r=true then do let ok ← isTrue c X.env (eval c X.env);pure (ForInStep.yield ok) else pure Qj9) QeH QbL s:=by
 match ifs,h with
 | [],h=>exact wpAny_tests_nil ⟨H,I,h⟩
 | [c],h=>
  have:=h pins s I;rw[a]at this;exact wpAny_tests_one this
def LL(X:Cx)(CL:BC)(b:Bx)(ifs:Cf)(δ:BB)(p:Bool):Prop:=
 match ifs with
 | []=>p=true
 | [c]=>yW X CL b c δ p δ
 | _=>False
theorem LL.sem(h:LL X CL b ifs δ p)(S:bC X.K CL b H Z δ σ [] [])
  (k:∀H' Z',aB Z Z'->aB H H'->bC X.K CL b H' Z' δ σ [] []->Q p H'):IM X ifs σ H Q:=by
 match ifs,h with
 | [],h=>
  have e:=h;subst e;exact k H Z Qb Qb S
 | [c],h=>exact(h) H Z σ [] [] Q S k
def yX:(T.lst ts).clean=T.dP ts:=rfl
theorem HK{g:D->T}:∀{ds:BA},(∀d∈ds,(g d).clean=true)->T.dP (ds.map g)=true
 | [],_=>rfl
 | d::ds,h=>by
  rw[kc,T.dP,h d hU,HK λe he=>h e (hX _ he)];rfl
theorem aW.at:∀{tl:Bn} {us:BY} {fp:BS} {j:Nat} {t:T},aW K CL H Z tl us fp->tl[j]? = some t->∃v f1 f2 b,us[j]? = some v/\fp=f1++(f2++b)/\b9 K CL H Z t v f2 ∧
  ∀{H':Hp} {t':T} {v':V} {g:BS},(∀a∈f1++b,H' a=H a)->b9 K CL H' Z t' v' g->aW K CL H' Z (tl.set j t') (us.set j v') (f1++(g++b))
 | _,_,_,_,_,.nil,e=>by simp at e
 | _,_,_,0,_,.cons (fp:=fp) (gp:=gp) r q,e=>by
  simp at e;subst e;exact⟨_,[],fp,gp,rfl,rfl,r,λ{H' t' v' g} k c=>aW.cons (fp:=g) c (aW.mono Qb (λa d=>k a (‹_›)) q)⟩
 | _,_,_,j+1,t,.cons (fp:=fp) r q,e=>by
  obtain⟨v,f1,f2,b,h1,h2,h,f⟩:=aW.at q (‹_›);refine⟨v,fp++f1,f2,b,‹_›,W7,h,λk c=>?_⟩;rw[hZ];exact .cons (r.mono Qb λa d=>k a (by simp[d])) (f (λa d=>k a W7) c)
variable{α:Type}
theorem eX{l:Q1}{x:α}(h:l[i]? = some x):l.set i x=l:=by
 apply v3;intro j;rw[List.getElem?_set];split
 .rename_i e;subst e;split
  .exact h.symm
  grind
 .rfl
variable{gp:BS}
theorem bC.write{f1 f2 e g d:BS}(S:Qan)(nd:((f1++(f2++e))++gp).Nodup)(own:∀c∈(f1++(f2++e))++gp,Z c=none/\b.B c=none)(k:a∈f2)
  (m:∃o,H a=some o) (l:f6 K CL (upd H a QaY) Z δ2 σ (f1++(g++e))) (j:aW K CL (upd H a QaY) Z tl us d) (pm:((f1++(g++e))++d).Nodup) (sub:∀c∈(f1++(g++e))++d,c∈(f1++(f2++e))++gp) :
  bC K CL b (upd H a QaY) Z δ2 σ tl us:=by
 have h:=own a (by simp[k]);refine⟨⟨_,_,l,j,pm,λc f=>own c (sub c f)⟩,λc o q=>?_,S.zz,λc o q=>?_,S.new,λc o q i=>?_,S.tab⟩
 .rw[aq (aP q h.2)];exact S.bh c o q
 .rw[aq (aP q h.1)];exact S.zh c o q
 .by_cases f:c=a
  .subst f;rw[aR]at q;cases q;cases i
  .rw[aq f]at q;exact S.tp c o q i
theorem bC.append(S:Qb3)(hi:δ[i]? = some Qcy) :
  ∃a us,σ[i]? = some Qf6/\H a=some QbR/\us.length=tl.length/\bC K CL b (upd H a (.lst (us++[v]))) Z (δ.set i (some QfQ)) σ ts vs:=by
 obtain⟨fp,gp,e,r,nd,k⟩:=S.rep;obtain⟨v0,f1,f2,l,hv,o,rt,put,_⟩:=e.get hi;subst o;cases rt with
 | @lst a us _ g n rs=>
  cases r with
  | @cons _ _ _ _ j f s q=>
   have ne:∀c∈Qe3++(j++f),c≠a:=λc d e=>by
    subst e;have m:((f1++((c::g)++l))++(j++f)).Perm (c::(Qe3++(j++f))):=by simp
    exact(ma.1 (m.nodup_iff.1 nd)).1 d
   refine⟨a,us,hv,n,rs.length.symm,?_⟩;have p:b9 K CL _ Z _ Qao _:=
    .lst aR (aW.app (rs.mono Qb λc d=>aq (ne c (by simp[d]))) (.cons (s.mono Qb λc d=>aq (ne c (by simp[d]))) .nil))
   have e2:=put Qb (λc d=>aq (ne c (by
    obtain h|h:=hV.1 d
    .simp[h]
    .simp[h]))) p
   rw[eX hv]at e2;have m:((f1++((a::(g++(j++[])))++l))++f).Perm (QhW++(j++f)):=by
    simp only[iz,mi,hZ];refine mD f1 (List.Perm.cons a (mD g ?_));rw[← hZ,← hZ];exact l9.append_right f
   exact S.write nd k (hU) ⟨_,n⟩ e2 (q.mono Qb λc d=>aq (ne c (by simp[d]))) (m.nodup_iff.2 nd) λc d=>m.mem_iff.1 d
theorem bC.setAt(S:Qb3)(hi:δ[i]? = some Qcy)(x:j<tl.length) :
  ∃a us,σ[i]? = some Qf6/\H a=some QbR/\us.length=tl.length/\bC K CL b Qi3 Z (δ.set i (some QfE)) σ ts vs:=by
 obtain⟨fp,gp,e,r,nd,k⟩:=S.rep;obtain⟨v0,f1,f2,m,hv,q,rt,put,_⟩:=e.get hi;subst q;cases rt with
 | @lst a us _ g p rs=>
  cases r with
  | @cons _ _ _ _ f l w u=>
   have ne:∀c∈(f1++(g++m))++(f++l),c≠a:=λc d e=>by
    subst e;have n:((f1++((c::g)++m))++(f++l)).Perm (c::((f1++(g++m))++(f++l))):=by simp
    exact(ma.1 (n.nodup_iff.1 nd)).1 d
   refine⟨a,us,hv,p,rs.length.symm,?_⟩;obtain⟨z,g1,g2,g3,_,y,_,set⟩:=rs.at (kA x);subst y;have s:b9 K CL Qi3 Z QfE Qao (a::(g1++(f++g3))):=
    .lst aR (set (λc d=>aq (ne c (by
     obtain h|h:=hV.1 d
     .simp[h]
     .simp[h]))) (w.mono Qb λc d=>aq (ne c (by simp[d]))))
   have e2:=put (H':=upd H a (.lst (us.set j v))) Qb (λc d=>aq (ne c (by
    obtain h|h:=hV.1 d
    .simp[h]
    .simp[h]))) s
   rw[eX hv]at e2;have n:((f1++((a::(g1++(f++g3)))++m))++l).Perm ((f1++((a::(g1++g3))++m))++(f++l)):=by
    simp only[mi,hZ];refine mD f1 (List.Perm.cons a (mD g1 ?_));have:=(l9 (l₁:=f) (l₂:=g3++m)).append_right l;simp only[hZ]at this;exact this
   have o:((f1++((a::(g1++g3))++m))++(f++l)).Sublist ((f1++((a::Qig)++m))++(f++l)):=by simp
   exact S.write nd k (hU) ⟨_,p⟩ e2 (u.mono Qb λc d=>aq (ne c (by simp[d]))) (n.nodup_iff.2 (nd.sublist o)) λc d=>o.subset (n.mem_iff.1 d)
section
variable{tl0:Bn}{D:gU}{pp pa pb:Pos}
def apf(i:Nat)(h0:δ[i]? = some QhM)(h:QaH)(h1:δ1[i]? = some Qcy)(o:tl.length<sizeLine)(k:D.nx (δ1.set i (some QfQ)))
  (hi:X.N[i]? = some x:=by rfl) (hv:tJ X.env.scope x:=by first|exact Or.inl rfl|exact Or.inr (Or.inl rfl)|exact Or.inr (Or.inr rfl)) (hd:AD x:=by decide) (k9:AE x:=by decide)
  (l:Qla:=by rfl)
  (g:AB X pb e:=by rfl)
  (c:Qeu:=by rfl) (hs:Qaa:=by exact aS rfl) (s:Qln:=by rfl) :
  WL X CL b (.Expr Qip pos) δ D:=λH Z σ ts vs E S M=>
 qP (yT (HB yI PySem.F.slot_list_append PySem.F.type_list_append DC QfP Qau l g c hs rfl) s) (by
  obtain⟨v0,e0,j⟩:=S.look h0;refine⟨v0,e0,?_,?_⟩
  .cases j with
   | lst n _=>exact .inl ⟨rfl,_,n⟩
  .refine h H Z σ ts vs _ S λv H1 Z1 f k1 r=>?_;obtain⟨a,us,d,p,m,q⟩:=r.append h1;rw[e0]at d;cases d;exact⟨a,us,v,rfl,rfl,p,m▸o,M.nx _ σ _ Z1 f q k⟩)
end
def RE:Option QcP->Option T
 | some (some t)=>some (.sh t.gW)
 | _=>none
noncomputable def uk:Option QcP->Option T
 | some (some (T.sh d))=>some (.sh d)
 | _=>none
def HL(δ:BB)(ix:Cc):BB:=ix.map λi=>RE δ[i]?
def HM(δ:BB)(ix:Cc):BB:=ix.map λi=>uk δ[i]?
theorem B5(S:Qan):∀(ix:Cc) (H':Hp),f6 K CL H' H (HL δ ix) (ix.map λi=>(σ[i]?).getD none) []
 | [],_=>.nil
 | i::r,H'=>by
  have a:=B5 S r H';show f6 K CL H' H (RE _::HL δ r) (((σ[i]?).getD none)::r.map _) [];cases e:δ[i]? with
  | none=>exact .skip a
  | some o=>
   cases o with
   | none=>exact .skip a
   | some t=>
    obtain⟨v,hv,c⟩:=S.look e;rw[hv];exact .cons (.sh c) a
theorem HN(S:Qan):∀(ix:Cc) (H':Hp),f6 K CL H' Z (HM δ ix) (ix.map λi=>(σ[i]?).getD none) []
 | [],_=>.nil
 | i::r,H'=>by
  have a:=HN S r H';show f6 K CL H' Z (uk _::HM δ r) (((σ[i]?).getD none)::r.map _) [];cases e:δ[i]? with
  | none=>exact .skip a
  | some o=>
   cases o with
   | none=>exact .skip a
   | some t=>
    cases t with
    | sh d=>
     obtain⟨v,hv,c⟩:=S.JE e;rw[hv];exact .cons (.sh c) a
    | tup _=>exact .skip a
    | lst _=>exact .skip a
    | ins _ _=>exact .skip a
    | um _=>exact .skip a
    | dct _=>exact .skip a
    | pin _ _=>exact .skip a
    | E8 _ _ _=>exact .skip a
section
variable{ds:BA}
structure Comes(X:Cx)(CL:BC)(b:Bx)(δ1:BB)(σ:L2.St)(ts:Bn)(vs:BY)(Z H:Hp)(ds:BA)(J:It)(H1:Hp):Prop where
 ex:∃Z1 us,aB Z Z1/\aB H H1/\bC X.K CL b H1 Z1 δ1 σ ts vs/\au X.K CL Z1 ds us/\(∀i H2,aB Z1 H2->i<ds.length->J.go i H2) ∧
  (∀i H2 x H',aB Z1 H2->i<ds.length->J.ph i H2 x H'->H'=H2/\us[i]? = some x)/\(∀H2,aB Z1 H2->J.stop ds.length H2)
def nH(X:Cx)(CL:BC)(b:Bx)(tg e:Expr)(δ:BB)(ds:BA)(δ1:BB):Prop:=
 ∃a,PI X tg e a/\∀(H Z:Hp) (σ:L2.St) (ts:Bn) (vs:BY) (R:QfY),bC X.K CL b H Z δ σ ts vs->(∀J H1,Comes X CL b δ1 σ ts vs Z H ds J H1->R J H1)->a σ H R
theorem eB{tg:Expr}(h:cL X CL b iter δ (.sh QcK) δ1):nH X CL b tg iter δ ds δ1:=by
 refine⟨_,ZR dD,λH Z σ ts vs R S k=>h H Z σ ts vs _ S λv H1 Z1 g k1 e=>?_⟩;obtain⟨fp,gp,_,r,_,_⟩:=e.rep;cases r with
 | cons r _=>
  cases r with
  | sh r=>
   cases r with
   | @lst a us _ c d=>
    refine⟨a,rfl,⟨us,e.zh.seq c⟩,k _ _ ⟨Z1,us,g,k1,e.pop,d,λi H2 s hi=>?_,λi H2 y H' s hi f=>⟨f.1,f.2 us (s.seq c)⟩,λH2 s=>⟨us,s.seq c,by rw[d.length];grind⟩⟩⟩;have j:=d.length▸hi;exact⟨us,us[i],s.seq c,Wp⟩
theorem DG{tg:Expr}(h:cL X CL b iter δ (.sh QcJ) δ1):nH X CL b tg iter δ ds δ1:=by
 refine⟨_,aoJ dD,λH Z σ ts vs R S k=>h H Z σ ts vs _ S λv H1 Z1 g k1 e=>?_⟩;obtain⟨fp,gp,_,r,_,_⟩:=e.rep;cases r with
 | cons r _=>
  cases r with
  | sh r=>
   cases r with
   | @tup a us _ c d=>
    refine⟨a,rfl,⟨us,aB.pw e.zh c⟩,k _ _ ⟨Z1,us,g,k1,e.pop,d,λi H2 s hi=>?_,λi H2 y H' s hi f=>⟨f.1,f.2 us (aB.pw s c)⟩,λH2 s=>⟨us,aB.pw s c,by rw[d.length];grind⟩⟩⟩;have j:=d.length▸hi;exact⟨us,us[i],aB.pw s c,Wp⟩
noncomputable def dU(lo:Int)(n:Nat):BA:=(List.range n).map λ(i:Nat)=>D.int (lo+i)
def T6(lo:Int)(n:Nat):au K CL Z (dU lo n) ((List.range n).map λ(i:Nat)=>V.int (lo+i)):=by
 unfold dU;generalize List.range n=l
 induction l with
 | nil=>exact .nil
 | cons i r a=>exact .cons Qbc a
theorem jD{tg:Expr}{pr pc:Pos}{n:Int}(hm:QdP)(h:dI X CL b iter δ (.int n) δ1)(d:-(2 ^ 62)<=n/\n<2 ^ 62)(g:QdZ)(f:starEach [iter] X.env=[(false,eval iter X.env)]:=by rfl)(l:AC X iter []:=by exact aS rfl) :
  nH X CL b tg (.Call Qin [iter] [] pc) δ (dU 0 n.toNat) δ1:=by
 refine⟨_,Ni g hm (bE dD cV l) f,λH Z σ ts vs R S k=>h H Z σ ts vs _ S λv H1 Z1 e k1 j r=>⟨n,by rw[r.sc rfl],d.1,d.2,k _ _ ⟨Z1,_,e,k1,j,T6 0 _,λi H2 s hi=>?_,λi H2 y H' s hi c=>?_,λH2 s=>?_⟩⟩⟩
 .show i<n.toNat;have:(dU 0 n.toNat).length=n.toNat:=by simp[dU]
  lia
 .have a:i<n.toNat:=by simpa [dU] using hi
  refine⟨c.1,?_⟩;rw[la,o4 a,c.2];rfl
 .show n.toNat<=(dU 0 _).length;simp[dU]
theorem acj{tg:Expr}{pr pc:Pos}{m n:Int}(hm:QdP)(h1:dI X CL b e1 δ (.int m) δ1)(h2:dI X CL b e2 δ1 Qdp δ2)(l:-(2 ^ 62)<=m/\m<2 ^ 62 /\ -(2 ^ 62)<=n/\n<2 ^ 62)(o:QdZ)
  (j:AR X e1 e2:=by rfl) (t:starEach [e2] X.env=[(false,eval e2 X.env)]:=by rfl) (d:Qis:=by rfl) (c:AC X e2 []:=by rfl) :
  nH X CL b tg (.Call Qin [e1,e2] [] pc) δ (dU m (n-m).toNat) δ2:=by
 refine⟨_,abU o hm (bE dD (bE dD cV c) d) j t,λH Z σ ts vs R S k=>h1 H Z σ ts vs _ S λv H1 Z1 g k1 q r=>h2 H1 Z1 σ ts vs _ q λv2 H2 Z2 f k2 p h=>⟨m,n,by rw[r.sc rfl,h.sc rfl],l,k _ _ ⟨Z2,_,g.trans f,k1.trans k2,p,T6 m _,λi H2 s hi=>?_,λi H2 y H' s hi e=>?_,λH2 s=>?_⟩⟩⟩
 .show i<(n-m).toNat;have:(dU m (n-m).toNat).length=(n-m).toNat:=by simp[dU]
  lia
 .have a:i<(n-m).toNat:=by simpa [dU] using hi
  refine⟨e.1,?_⟩;rw[la,o4 a,e.2];rfl
 .show(n-m).toNat<=(dU m _).length;simp[dU]
theorem aph{D:gU}{gS:Cs}(i:Nat){pos':Pos}(P:QfT)(h:nH X CL b Qb9 iter δ ds δ1)(h0:P 0 δ1)(B:∀j δ,P j δ->i<δ.length)
  (hs:∀j d δ,ds[j]? = some d->P j δ->dh X CL b gS (δ.set i Qcb) {nx:=P QP,rt:=D.rt,bk:=D.nx,ct:=P QP}) (hd:∀δ,P ds.length δ->D.nx δ)
  (z:QgS) (C:QaC) (F:QbX) (hi:X.N[i]? = some x) (q:Qda) (hf:AM X x) (u:Qcn:=by intro _;rfl) :
  WL X CL b (.For Qb9 iter gS [] pos) δ D:=λH Z σ ts vs E S M=>by
 obtain⟨L,pi,hw⟩:=h;refine qP (aez z C pi (uX F hi q hf) n4 u) (hw H Z σ ts vs _ S λJ H1 zz=>?_);obtain⟨Z1,us,f,k1,I,o,go,n,st⟩:=zz;refine⟨λj m σ H2=>m=ds.length-j/\j<=ds.length/\∃Z2 δ2,aB Z1 Z2/\bC X.K CL b H2 Z2 δ2 σ ts vs/\P j δ2,⟨_,rfl,i8 _,Z1,δ1,.refl _,I,h0⟩,?_⟩;rintro j m σ H2 ⟨rfl,O,Z2,δ2,s,c,p2⟩;by_cases g:j<ds.length
 .refine .inr ⟨go j H2 QfZ g,_,λσ' H' h=>⟨ _,We,rfl,g,h⟩,λy H' p=>?_⟩;obtain⟨e,r⟩:=n j H2 y H' QfZ g p;subst e;obtain⟨d,l,rd⟩:=o.xw r;have G:=(c.push (rd.mono s)).set (B j δ2 p2);exact hs j d δ2 l p2 _ Z2 _ ts vs _ G ⟨λδ' σ' H' Z' s' a k=>⟨Z',δ',s.trans s',a,k⟩,λt v H' Z' δ' σ' s' a k=>M.rt t v H' Z' δ' σ' (f.trans (s.trans s')) a k,λδ' σ' H' Z' s' a k=>M.nx δ' σ' H' Z' (f.trans (s.trans s')) a k,λδ' σ' H' Z' s' a k=>⟨Z',δ',s.trans s',a,k⟩⟩
 .have e:j=ds.length:=by lia
  subst e;exact .inl ⟨st H2 QfZ,M.nx δ2 σ H2 Z2 (f.trans s) c (hd δ2 p2)⟩
def Block(X:Cx)(CL:BC)(scope:Scope)(Nc:At)(ifs:Cf)(elt:Expr)(δc:BB)(ds:BA)(p:D->Bool)(g:D->T):Prop:=
 ∀C s0 b f0 a d,d∈ds->LL (c7 X scope Nc C s0 b f0) CL a ifs QfH (p d)/\(p d=true->cL (c7 X scope Nc C s0 b f0) CL a elt QfH (g d) QfH)
variable{δc:BB}{p:D->Bool}{g:D->T}
end
def HP(sc:QeF)(I:Qbi):closureFor scope X.env=pure QbH:=
 nQ λy a e=>I.ok.has y.1 (sc.frees y a e).2
noncomputable def isD:L3.D->String->Option Bool
 | .non,n=>if n="int" \/ n="str" \/ n="list" \/ n="tuple" \/ n="bool" \/ n="dict" then some false else none
 | .bl _,n=>if n="int" \/ n="bool" then some true else if n="str" \/ n="list" \/ n="tuple" \/ n="dict" then some false else none
 | .int _,n=>if n="int" then some true else if n="str" \/ n="list" \/ n="tuple" \/ n="bool" \/ n="dict" then some false else none
 | .str _, n => if n = "str" then some true else if n = "int" \/ n = "list" \/ n = "tuple" \/ n = "bool" \/ n = "dict" then some false else none
 | .lst _,n=>if n="list" then some true else if n="int" \/ n="str" \/ n="tuple" \/ n="bool" \/ n="dict" then some false else none
 | .tup _,n=>if n="tuple" then some true else if n="int" \/ n="str" \/ n="list" \/ n="bool" \/ n="dict" then some false else none
 | _,_=>none
noncomputable def MO(t n:Qbn):Option Bool:=if (Value.type t==Value.type n)=true then some true else if PySem.W.kitMeta n=true then(fastBuiltinMro t).map (·.contains (.type n)) else none
def uo{t n:Qbn}:PySem.W.kitOne K (.type t) (.type n)=MO t n:=rfl
def ae8:(["NoneType","bool","int","str","list","tuple"].all λt=>["int","str","list","tuple","bool","dict"].all λn=>MO t n==some (t==n || Qhf))=true:=by decide +kernel
def yZ{t n:Qbn}(a:t∈["NoneType","bool","int","str","list","tuple"])(b:QkI):MO t n=some (t==n || Qhf):=by
 have:=ae8;rw[ro]at this;have h:=this t a;rw[ro]at h;simpa using h n b
noncomputable def Hn:L3.D->Option String
 | .non=>some "NoneType"
 | .bl _=>some "bool"
 | .int _=>some "int"
 | .str _ => some "str"
 | .lst _=>some "list"
 | .tup _=>some "tuple"
 | _=>none
theorem ack:om X (.builtin "isinstance") (λxs H Q=>∃y n d t,xs=[y,.ty n]/\cB X.K CL H d y/\Hn d=some t/\n∈["int","str","list","tuple","bool","dict"]/\Q (.bl (t==n || Qhf)) H):=by
 intro pins s σ H xs us Q I r h;obtain⟨y,n,d,t,rfl,rd,b,g,q⟩:=h;obtain⟨u,u2,rfl,f,i⟩:=r.two;cases (show u2=Value.type n from i);have fin:∀tk,EP X pins σ Q _ {s with toks:=tk}:=λtk=>⟨.bl _,H,I.tok tk,rfl,q⟩;cases rd with
 | non=>cases b;cases (show u=Value.none from f);exact y0 PySem.W.kitx_none I.Gy True.intro (uo.trans (yZ Wl g)) (λz=>nomatch z) fin
 | bl c=>cases b;cases (show u=Value.bool c from f);exact y0 PySem.W.kitx_bool I.Gy True.intro (uo.trans (yZ Wl g)) (λz=>nomatch z) fin
 | int c=>cases b;obtain⟨tt,e⟩:=(show ∃t,u=Value.int c t from f);cases e;exact y0 PySem.W.kitx_int I.Gy True.intro QhE (λz=>nomatch z) fin
 | str c=>cases b;obtain⟨tt,e⟩:=(show ∃t,u=Value.str c t from f);cases e;exact y0 PySem.W.kitx_str I.Gy True.intro QhE (λz=>nomatch z) fin
 | @lst a ws _ j k=>
  cases b;cases (show u=Value.ref a from f);obtain⟨its,_,pl,_⟩:=I.list j;obtain⟨o,l,e,c,_⟩:=pl;exact y0 PySem.W.kitx_list I.Gy ⟨o,e,c⟩ QhE (λz=>nomatch z) fin
 | @tup a ws _ j k=>
  cases b;cases (show u=Value.ref a from f);obtain⟨its,_,pl,_⟩:=I.tuple j;obtain⟨o,e,c,_⟩:=pl;exact y0 PySem.W.kitx_tuple I.Gy ⟨o,e,c⟩ QhE (λz=>nomatch z) fin
 | ins _ _=>cases b
 | any _=>cases b
 | val _=>cases b
 | um _ _=>cases b
 | dct _ _=>cases b
 | E8 _ _ _=>cases b
variable{pp pq:Pos}
def aam{d:L3.D}{t n:Qbn}{nm:Str}(hm:QjY)(c:X.mg nm=none)(m:Gl X "isinstance")(f:Gl X nm)(g:bootBuiltins nm=some (.type n))(a:nm≠"__name__")(p:AD nm)(h:QdH)(j:Hn d=some t)(l:QkI)
  (hs:starEach [e,.Name nm pq] X.env=(false,eval e X.env)::starEach [.Name nm pq] X.env:=by exact aS rfl) :
  cL X CL b (.Call QjC [e,.Name nm pq] [] pos) δ (.sh (.bl (t==n || Qhf))) δ1:=λH Z σ ts vs Q S k=>
 cK (j6 (ack) m hm boot_isinstance (bE dD (bE (ajr f c g (v:=.ty n) rfl a p) cV) hs) (he:=hs)) (h H Z σ ts vs _ S λv H1 Z1 i k1 o r=>
  ⟨v,n,d,t,rfl,r,j,l,k _ H1 Z1 i k1 (o.push (.bl _))⟩)
variable{n:Nat}
def Nz(h:Nat.ble n 1000=true):n<=sizeLine:=kv (cA (h7 h))
structure Vn(X:Cx)(i:Nat)(x:Str):Prop where
 hi:X.N[i]? = some x
 hv:tJ X.env.scope x
 hd:(x==("__debug__":Str))=false
 k9:(x==("__classdict__":Str))=false
structure Ln(X:Cx)(i:Nat)(x:Str):Prop extends Vn X i x where
 loc:Loc X.env.scope x
 hf:X.fn x=true\/X.env.scope.names.lookup x=some .local
structure Gx(X:Cx):Prop where
 nd:X.N.Nodup
 calm:X.calm=true
 xe:PassesOwn QA X.A X.env X.xe
structure Fc(X:Cx)(CL:BC)(x:Str)(k n:Nat){A:Type}(arg:QaA)(Pre:Qab)(res:Qaj):Prop where
 ex:∃f fd ps,d7 X.prog X.w X.K X.mg X.base mX k f fd ps Qjs/\X.mg x=some Qad/\keepIn X.K Qad=true/\Binds X.K fd ps []
 room:fO k X.A
section
variable{d:L3.D}{D:gU}{gS:Cs}{ds:BA}
def v_(n:QaK)(h:δ[i]? = some Qcb:=by rfl):cL X CL b Qal δ (.sh d) δ:=ao9 i n.hi n.hv n.hd n.k9 h
def vF(n:QaK)(h:δ[i]? = some Qas:=by rfl):cL X CL b Qal δ (.sh t.gW) (δ.set i QhL):=ajE i n.hi n.hv n.hd n.k9 h
def vM(n:QaK)(h:δ[i]? = some Qas:=by rfl):cL X CL b Qal δ t (δ.set i none):=ajF i n.hi n.hv n.hd n.k9 h
def vB(n:QaK)(h:δ[i]? = some Qas:=by rfl):dI X CL b Qal δ t.gW δ:=apa i n.hi n.hv n.hd n.k9 h
def gV(h:dI X CL b e δ (.int k) δ1):cL X CL b (.UnaryOp .USub e pos) δ (.sh (.int (-k))) δ1:=λH Z σ ts vs Q S kk=>
 cK (aty aoQ dD) (h H Z σ ts vs _ S λv H1 Z1 a k1 c r=>⟨k,r.sc rfl,kk _ H1 Z1 a k1 (c.push Qbc)⟩)
def vL(n:QaK)(h:δ[i]? = some (some (.lst Qa7)):=by rfl):dI X CL b Qal δ (.lst ds) δ:=by
 have:=vB (CL:=CL) (b:=b) (pos:=pos) n h
 rwa [T.gW,kC]at this
def c_{k:Nat}{A:Type}{arg:QaA}{Pre:Qab}{res:Qaj}(a:A)(F:Qfu)(i:Qam)(h:QgO)(d:Pre a)(j:QdO)(g:Qb0:=by rfl)
  (c:AD x:=by decide) (he:Qah:=by exact aS rfl) (hpl:Qaw:=by rfl) :
  cL X CL b Qby δ (res a) δ1:=by
 obtain⟨f,fd,ps,l,m,k,b⟩:=F.ex;exact ajI a l F.room m k b h g d j i c he hpl
def cF{k:Nat}{A:Type}{arg:QaA}{Pre:Qab}{res:Qaj}(a:A)(F:Qfu)(i:Qam)(h:Qgx)(d:Pre a)(g:Qb0:=by rfl)
  (c:AD x:=by decide) (he:Qah:=by exact aS rfl) (hpl:Qaw:=by rfl) :
  cL X CL b Qby δ (res a) δ1:=by
 obtain⟨f,fd,ps,j,m,k,b⟩:=F.ex;exact ae4 a j F.room m k b h g d i c he hpl
def aL{pos':Pos}(g:Gx X)(n:QcT)(h:QaH)(k:dh X CL b gS (δ1.set i Qas) D)(a:Qb1:=by exact h7 rfl)(hs:Qfh:=by rfl) :
  dh X CL b (.Assign [.Name x pos'] e pos::gS) δ D:=cE (ae6 i h k a g.nd n.hi n.loc hs n.hf)
def bz(h:QaH)(k:D.rt t δ1):dh X CL b (.Return (some e) pos::gS) δ D:=cE (ape h k)
def eU{a c:Cs}(h:Qca)(h1:p=true->dh X CL b a δ1 {D with nx:=λδ2=>dh X CL b gS δ2 D})(h2:p=false->dh X CL b c δ1 {D with nx:=λδ2=>dh X CL b gS δ2 D}):dh X CL b (.If e a c pos::gS) δ D:=cE (at9 h h1 h2)
theorem dh.to{D':gU}(h:dh X CL b gS δ D')(h1:∀δ,D'.nx δ->D.nx δ)(h2:∀t δ,D'.rt t δ->D.rt t δ)(c:∀δ,D'.bk δ->D.bk δ)(a:∀δ,D'.ct δ->D.ct δ):dh X CL b gS δ D:=λH Z σ ts vs E S M=>h H Z σ ts vs E S (M.to h1 h2 c a)
def B6{a c:Cs}(J:BB->Prop)(h:Qca)(h1:p=true->dh X CL b a δ1 {D with nx:=J})(h2:p=false->dh X CL b c δ1 {D with nx:=J})(k:∀δ2,J δ2->dh X CL b gS δ2 D):dh X CL b (.If e a c pos::gS) δ D:=
 eU h (λd=>dh.to (h1 d) k (λ_ _ q=>q) Qdf Qdf) (λd=>dh.to (h2 d) k (λ_ _ q=>q) Qdf Qdf)
def jc{body:Cs}{pos':Pos}(g:Gx X)(n:QcT)(P:QfT)(h:nH X CL b Qb9 e δ ds δ1)(h0:P 0 δ1)(c:∀j δ,P j δ->i<δ.length)
  (hs:∀j d δ,ds[j]? = some d->P j δ->dh X CL b body (δ.set i Qcb) {nx:=P QP,rt:=D.rt,bk:=λδ2=>dh X CL b gS δ2 D,ct:=P QP}) (hd:∀δ,P ds.length δ->dh X CL b gS δ D) (a:AN X e:=by intro _;rfl) :
  dh X CL b (.For Qb9 e body [] pos::gS) δ D:=
 cE (aph i P h h0 c hs hd g.xe g.calm g.nd n.hi n.loc n.hf a)
def jE{o:Qd5}{l:Nat}(h:∃c,swapsWith e o l env=pure c):swapsWith e o l env=pure true\/swapsWith e o l env=pure false:=by
 obtain⟨c,h⟩:=h;cases c
 .exact .inr h
 .exact .inl h
def ae9{C:Addr}(h1:Nc[i]? = some x)(h2:QgM)(hd:AD x:=by decide)(k9:AE x:=by decide):Vn Qbg i x:=
 ⟨h1,.inl (GG h2),hd,k9⟩
def apl{C:Addr}(h1:Nc[i]? = some x)(h2:Qi9)(hd:AD x:=by decide)(k9:AE x:=by decide):Vn Qbg i x:=by
 refine⟨h1,?_,hd,k9⟩;have q:=jC (env:=X.env) h2;show(relabel _ _).names.lookup x=some _\/(relabel _ _).names.lookup x=some _\/(relabel _ _).names.lookup x=some _;rw[show(relabel _ _).names.lookup x=_ from q];split
 .exact .inr Q4
 .exact .inr Qar
def ajL{C:Addr}(h2:QiE):Gl Qbg x:=by
 have q:=jC (env:=X.env) h2;show(relabel _ _).names.lookup x=some _;rw[show(relabel _ _).names.lookup x=_ from q];rfl
noncomputable def ajM{C:Addr}(g:Gx X)(h:Nc.Nodup):Gx Qbg:=⟨h,g.calm,.never⟩
noncomputable def lD{C:Addr}{k:Nat}{A:Type}{arg:QaA}{Pre:Qab}{res:Qaj}(F:Qfu):Fc Qbg CL x k n arg Pre res:=⟨F.ex,F.room⟩
end
variable{d:L3.D}{t:Qbn}
def acm:bootBuiltins "int" = some (.type "int"):=by decide +kernel
def bH:bootBuiltins "list" = some QeM:=by decide +kernel
def isL(hm:QjY)(a:QeI)(g:Gl X "isinstance")(c:Qfa)(h:QdH)(f:Hn d=some t:=by rfl)(hs:starEach [e,.Name "list" pq] X.env=(false,eval e X.env)::starEach [.Name "list" pq] X.env:=by exact aS rfl) :
  cL X CL b (.Call QjC [e,.Name "list" pq] [] pos) δ (.sh (.bl (t=="list" || (t=="bool" && "list" == "int")))) δ1:=aam hm a g c bH Wl (rfl) h f Wl hs
def xH:bootBuiltins "tuple" = some (.type "tuple"):=by decide +kernel
def isT(hm:QjY)(a:X.mg "tuple" = none)(g:Gl X "isinstance")(c:Gl X "tuple")(h:QdH)(f:Hn d=some t:=by rfl)(hs:starEach [e,.Name "tuple" pq] X.env=(false,eval e X.env)::starEach [.Name "tuple" pq] X.env:=by exact aS rfl) :
  cL X CL b (.Call QjC [e,.Name "tuple" pq] [] pos) δ (.sh (.bl (t=="tuple" || (t=="bool" && "tuple" == "int")))) δ1:=aam hm a g c xH Wl Wl h f Wl hs
noncomputable def Te(sc:Scope)(l:DO):Bool:=l.all λp=>sc.names.lookup p.1==some p.2
def bU{sc:Scope}{l:DO}(h:Te sc l=true)(i:Nat){k:NameKind}(hi:l[i]? = some (x,k)):sc.names.lookup x=some k:=by
 unfold Te at h;rw[ro]at h;exact tI.1 (h _ (l7 hi))
inductive Fh(X:Cx):Cc->At->Prop where
 | nil:Fh X [] []
 | cons {i:Nat} {y:Str} {ix:Cc} {ys:At} (n:Vn X i y) (k:X.env.kindOf y=some .cell\/X.env.kindOf y=some .free) (r:Fh X ix ys):Fh X (i::ix) (y::ys)
noncomputable def afb(scope:Scope)(x:Str)(a:At):Bool:=
 scope.kind == .function&&scope.names.lookup x==some .local&&a.all Qlg&&decide ((x::a).Nodup) &&
  scope.names.all λy=>y.2 != .cell&&(y.2 != .local || scope.names.lookup y.1==some .local)&&(y.2 != .free || Qk0)
theorem bu{d:At}(c:Fh X ix d)(ok:afb scope x d=true):gF X scope x (x::d) ix:=by
 unfold afb at ok;simp only[km,ro,vT,tI]at ok;obtain⟨⟨⟨⟨h1,h2⟩,h⟩,g⟩,b⟩:=ok;have j:∀y∈d,X.env.kindOf y=some .cell\/X.env.kindOf y=some .free:=by
  clear h g b
  induction c with
  | nil=>intro y a;cases a
  | cons n k r f=>
   intro y a;obtain e|a:=hR.1 a
   .subst e;exact k
   simp_all
 refine⟨h1,λy a e=>?_,g,λy a e=>?_,h2,λy a e=>?_,?_,λi hi=>?_⟩
 .have:=(b y a).1.1;rw[e]at this;simp at this
 .have:=(b y a).1.2;rw[e]at this;simpa using this
 .have:=(b y a).2;simp_all
 .congr 1;clear h g b j
  induction c with
  | nil=>rfl
  | cons n k r f=>rw[mB,n.hi,← f]
 .clear g b j
  induction c with
  | nil=>cases hi
  | @cons l y ix ys n k r f=>
   obtain e|hi:=hR.1 hi
   .subst e;exact⟨y,n.hi,h y hU⟩
   .exact f (λz hz=>h z Qdv) hi
noncomputable def D.ug:D->Int
 | .int i=>i
 | _=>0
noncomputable def D.toS:D->Str
 | .str x => x
 | _=>Str.empty
theorem gJ{bs:AT}(h0:0<=k)(h1:k<bs.length):uW (bs.map D.int) k=some (.int (bs.getD k.toNat 0)):=by
 obtain⟨j,rfl⟩:∃j:Nat,k=j:=⟨k.toNat,We⟩;refine d8 ?_;simp_all
theorem cC:∀(bs:AT),D.bS (bs.map D.int)=true
 | []=>rfl
 | i::r=>by rw[kc,D.bS,cC r];rfl
theorem HQ{lo:Int}{d:D}(h:(dU lo n)[j]? = some d):d=.int (lo+j)/\j<n:=by
 have a:=by
  have:=(l4.1 h).1;simpa [dU] using this
 refine⟨?_,a⟩;unfold dU at h;rw[la,o4 a]at h;simp_all
def jF(l:Q1):l.filter (λ_=>true)=l:=by simp
theorem T7{K:Frag}{CL:BC}{Z:Hp}:∀(ns:AT),au K CL Z (ns.map D.int) Qbz
 | []=>.nil
 | n::r=>.cons Qdp (T7 r)
mutual
def D.toPy:D->PyData
 | .non=>.none
 | .bl b=>.bool b
 | .int i=>.int i
 | .str x => .str x
 | .tup ds=>.tuple (D.xK ds)
 | .lst ds=>.list (D.xK ds)
 | .ins _ _=>.none
 | .um _=>.none
 | .dct _=>.none
 | .any=>.none
 | .val _=>.none
 | .E8 _ _ _=>.none
def D.xK:BA->List PyData
 | []=>[]
 | d::ds=>d.toPy::D.xK ds
end
inductive AG:Nat->D->Prop where
 | non (n:Nat):AG n .non
 | bl (n:Nat) (b:Bool):AG n (.bl b)
 | int (n:Nat) (i:Int):AG n QaQ
 | str (n:Nat) (x:Str) (h:PyData.strOk x=true):AG n Qbm
 | tup {n:Nat} {ds:BA} (h:∀d∈ds,AG n d):AG (n+1) QcJ
 | lst {n:Nat} {ds:BA} (h:∀d∈ds,AG n d):AG (n+1) QcK
noncomputable def T8(a b:D):Bool:=PyData.eqv a.toPy b.toPy
theorem AG.MM{n:Nat}:∀{ds:BA},(∀d∈ds,d.toPy.canLay0=true/\d.toPy.depth<=n)->PyData.canLayAll0 (D.xK ds)=true/\PyData.depthAll (D.xK ds)<=n
 | [],_=>⟨ rfl,i8 _ ⟩
 | d::ds,h=>by
  have h1:=h d hU;have h2:=AG.MM λe he=>h e (hX _ he);rw[D.xK,PyData.canLayAll0,h1.1,h2.1];exact⟨rfl,Nat.max_le.2 ⟨h1.2,h2.2⟩⟩
theorem AG.lay{d:D}(h:AG n d):d.toPy.canLay0=true/\d.toPy.depth<=n:=by
 induction h with
 | non n=>exact⟨ rfl,i8 _ ⟩
 | bl n b=>exact⟨ rfl,i8 _ ⟩
 | int n i=>exact⟨ rfl,i8 _ ⟩
 | str n x c=>exact⟨ ‹_›,i8 _ ⟩
 | @tup n ds _ a=>
  have:=AG.MM a;rw[D.toPy,PyData.canLay0,PyData.depth];simp_all
 | @lst n ds _ a=>
  have:=AG.MM a;rw[D.toPy,PyData.canLay0,PyData.depth];simp_all
def xM{d:D}(h:AG n d):T8 d d=true:=SeqAt.eqv_refl _ h.lay.1
def Pb(I:Qbi){d:D}{u:Value}(hd:AG n d)(q:cB X.K CL H d v)(r:QdA):∃as,Reads s.heap u d.toPy as:=by
 refine cB.rec
  (motive_2:=λds vs _=>∀(n:Nat) (us:List _),(∀d∈ds,AG n d)->Vals vs us->∃as,ReadsAll s.heap us (D.xK ds) as) (motive_3:=λ_ _ _=>True) (motive_4:=λ_ _ _=>True) (motive_5:=λ_ _ _=>True)
  (λ_ _ _ r=>?non) (λb _ _ _ r=>?bl) (λi _ _ _ r=>?int) (λx _ _ _ r=>?str) (λ_ _ _ hd _=>by cases hd) (λ_ _ _ hd _=>by cases hd) (λl _ a n u hd r=>?tup) (λl _ a n u hd r=>?lst) (λ_ _ _ _ _ hd _=>by cases hd) (λ_ _ _ _ _ hd _=>by cases hd) (λ_ _ _ _ _ hd _=>by cases hd) (λ_ _ _ _ _ _ _ hd _=>by cases hd)
  (λ_ _ _ r=>?nil) (λ_ _ a j n us h r=>?cons) trivial Qat trivial Qat trivial Qat q n u hd r
 case non=>cases r;exact⟨[],.none⟩
 case bl=>cases r;exact⟨[],.bool b⟩
 case int=>obtain⟨t,rfl⟩:=r;exact⟨[],.int i t⟩
 case str=>obtain⟨t,rfl⟩:=r;exact⟨[],.str x t⟩
 case tup=>
  cases hd with
  | tup hd=>
   cases r;obtain⟨its,f,⟨o,e,c,k,m⟩,_⟩:=I.tuple l;obtain⟨as,g⟩:=a _ _ hd f;exact⟨as,.tuple e c m (‹_›)⟩
 case lst=>
  cases hd with
  | lst hd=>
   cases r;obtain⟨its,f,⟨o,k,e,c,_,m⟩,_⟩:=I.list l;obtain⟨as,g⟩:=a _ _ hd f;exact⟨_,.list e c m (‹_›)⟩
 case nil=>cases r;exact⟨[],.nil⟩
 case cons=>
  cases r with
  | cons r rs=>
   obtain⟨as,g⟩:=a n _ (h _ hU) r;obtain⟨bs,p⟩:=j n _ (λe he=>h e (hX _ he)) rs;exact⟨ _,.cons g p⟩
variable{δ3:BB}{p2:Pos}{t:T}{gS:Cs}{DD:gU}{d1 d2:D}{ds:BA}
theorem apn(k:QfM):BP X (compareOp .Eq) (λx y H Q=>∃a c,cB X.K CL H a x/\cB X.K CL H c y/\AG 60 a/\AG 60 c/\Q (.bl (T8 a c)) H):=by
 intro pins s σ H x y v u Q I f e h;obtain⟨a,c,g,rc,b,d,q⟩:=h;obtain⟨as,j⟩:=Pb I b g f;obtain⟨bs,i⟩:=Pb I d rc e;exact SeqAt.rcAt_reads j i b.lay.1 d.lay.1 (by have:=b.lay.2;lia) _ X.w X.xe _ ⟨.bl _,H,I,rfl,q⟩
theorem apo(k:QfM):BP X (compareOp .NotEq) (λx y H Q=>∃a c,cB X.K CL H a x/\cB X.K CL H c y/\AG 60 a/\AG 60 c/\Q (.bl (!T8 a c)) H):=by
 intro pins s σ H x y v u Q I f e h;obtain⟨a,c,g,rc,b,d,q⟩:=h;obtain⟨as,j⟩:=Pb I b g f;obtain⟨bs,i⟩:=Pb I d rc e;exact SeqAt.rcNeAt_reads j i b.lay.1 d.lay.1 (by have:=b.lay.2;lia) _ X.w X.xe _ ⟨.bl _,H,I,rfl,q⟩
def RC{op:CmpOp}{f:Bool->Bool}(n:BP X Qh9 (λx y H Q=>∃a c,cB X.K CL H a x/\cB X.K CL H c y/\AG 60 a/\AG 60 c/\Q (.bl (f (T8 a c))) H))(h1:Qfy)(h2:Qfv)(k1:AG 60 d1)(k2:AG 60 d2)
  (hm:behindInMarks op e2=false):yW X CL b QgY δ (f (T8 d1 d2)) δ2/\cL X CL b QgY δ (.sh (.bl (f (T8 d1 d2)))) δ2:=by
 constructor
 .intro H Z σ ts vs Q S k;refine LD (uY n dD dD hm) (h1 H Z σ ts vs _ S λv1 H1 Z1 h e m j=>h2 H1 Z1 σ ts vs _ m λv2 H2 Z2 g d l i=>?_);exact⟨d1,d2,j.mono d,i,k1,k2,_,rfl,k H2 Z2 (h.trans g) (e.trans d) l⟩
 .intro H Z σ ts vs Q S k;refine cK (yU n dD dD hm) (h1 H Z σ ts vs _ S λv1 H1 Z1 h e m j=>h2 H1 Z1 σ ts vs _ m λv2 H2 Z2 g d l i=>?_);exact⟨d1,d2,j.mono d,i,k1,k2,k _ H2 Z2 (h.trans g) (e.trans d) (l.push (.bl _))⟩
def afc(a:QfM)(h1:Qfy)(h2:Qfv)(k1:AG 60 d1)(k2:AG 60 d2):yW X CL b Qes δ (T8 d1 d2) δ2/\cL X CL b Qes δ (.sh (.bl (T8 d1 d2))) δ2:=
 RC (f:=λb=>b) (apn a) h1 h2 k1 k2 (sS _)
def AH(a:QfM)(h1:Qfy)(h2:Qfv)(k1:AG 60 d1)(k2:AG 60 d2):yW X CL b Qeq δ (!T8 d1 d2) δ2/\cL X CL b Qeq δ (.sh (.bl (!T8 d1 d2))) δ2:=
 RC (apo a) h1 h2 k1 k2 (sS _)
def cutD(xs:Q1)(lo hi:CU):List α:=(xs.drop (HT.Lp xs.length 0 lo)).take QkP
theorem au.drop{K:Frag}{Z:Hp}:∀{ds:BA} {vs:BY} (n:Nat),au K CL Z ds vs->au K CL Z (ds.drop n) (vs.drop n)
 | _,_,0,r=>r
 | _,_,_+1,.nil=>.nil
 | _,_,n+1,.cons _ t=>au.drop n t
theorem au.take{K:Frag}{Z:Hp}:∀{ds:BA} {vs:BY} (n:Nat),au K CL Z ds vs->au K CL Z (ds.take n) (vs.take n)
 | _,_,0,_=>.nil
 | _,_,_+1,.nil=>.nil
 | _,_,n+1,.cons r t=>.cons r (au.take n t)
theorem au.cut{ds:BA}(r:QeK)(lo hi:CU):au K CL Z (cutD ds lo hi) (FO vs lo hi):=by
 unfold cutD FO;rw[r.length];exact(r.drop _).take _
theorem jG:∀{ds:BA},D.bS ds=true->∀d∈ds,d.u9=true
 | [],_,_,h=>by cases h
 | d::ds,k,e,h=>by
  rw[D.bS,km]at k;obtain h|h:=hR.1 h
  .subst h;exact k.1
  .exact jG k.2 e h
theorem jr:∀{ds:BA},(∀d∈ds,d.u9=true)->D.bS ds=true
 | [],_=>rfl
 | d::ds,h=>by rw[D.bS,h d hU,jr λe he=>h e (hX _ he)];rfl
def aan{xs:Q1}{lo hi:CU}{x:α}(h:x∈cutD xs lo hi):x∈xs:=List.mem_of_mem_drop (tf h)
def wq(X:Cx)(CL:BC)(b:Bx)(e:Qd5)(δ:BB)(k:CU)(δ':BB):Prop:=
 ∃t,PO X e t/\∀(H Z:Hp) (σ:L2.St) (ts:Bn) (vs:BY) (Q:CU->Hp->Prop),bC X.K CL b H Z δ σ ts vs->(∀H' Z',aB Z Z'->aB H H'->bC X.K CL b H' Z' δ' σ ts vs->Q k H')->t σ H Q
def y9:wq X CL b none δ none δ:=⟨_,Z6,λH Z σ ts vs Q S k=>k H Z Qb Qb S⟩
def za(h:dI X CL b e δ (.int k) δ1):wq X CL b (some e) δ (some k) δ1:=⟨_,Z7 dD,λH Z σ ts vs Q S kk=>h H Z σ ts vs _ S λv H1 Z1 a k1 c r=>⟨k,r.sc rfl,kk H1 Z1 a k1 c⟩⟩
theorem HR{lo hi:Qd5}{l h:CU}(h1:Qb5)(g:QbZ)(h2:wq X CL b lo δ1 l δ2)(x:wq X CL b hi δ2 h δ3):cL X CL b Qll δ (.lst ((cutD ds l h).map T.sh)) δ3:=λH Z σ ts vs Q S k=>by
 obtain⟨t2,f,w2⟩:=h2;obtain⟨t3,a,q⟩:=x;refine cK (TR Z9 dD f a) (h1 H Z σ ts vs _ S λv H1 Z1 o k1 A r=>w2 H1 Z1 σ ts vs _ A λH2 Z2 n k2 z=>q H2 Z2 σ ts vs _ z λB Z3 m i j=>?_);have t:=r.mono (k2.trans i);cases t with
 | lst u s=>
  refine⟨_,_,rfl,u,λp w=>?_⟩;have rc:=au.u9 j.tp (jr λd hd=>jG g d (aan hd)) (s.cut l h);obtain⟨c,y⟩:=(bC.pX rc j).kX (g0:=[]) (by simp[rc.length]) w;exact k _ _ _ (o.trans (n.trans m)) (k1.trans (k2.trans (i.trans c))) y
def DH(hm:X.mg "tuple" = none)(h:Qb5)(hi:QbZ)(o:Gl X "tuple")(hs:Qaa:=by exact aS rfl):cL X CL b Qlz δ (.sh QcJ) δ1:=λH Z σ ts vs Q S k=>
 cK (jQ z7 o hm xH Qau (he:=hs)) (h H Z σ ts vs _ S λv H1 Z1 j k1 g r=>by
  cases r with
  | lst m d=>
   refine⟨_,_,rfl,.inl ⟨m,λl n=>?_⟩⟩;obtain⟨a,c,p⟩:=(bC.pX (au.u9 g.tp hi d) g).O6 (by simp[d.length]) n;obtain⟨Z3,i,f⟩:=p.O4;rw[T.gW,kC]at f;exact k _ _ Z3 (j.trans (a.trans i)) QcC f)
variable{tl0:Bn}{pa pb:Pos}
def mY(n:QaK)(h0:δ[i]? = some QhM)(h:QaH)(h1:δ1[i]? = some Qcy)(f:tl.length<=1000000)(k:dh X CL b gS (δ1.set i (some QfQ)) DD)
  (d:Qla:=by rfl)
  (c:AB X pb e:=by rfl)
  (a:Qeu:=by rfl) (hs:Qaa:=by exact aS rfl) (g:Qln:=by rfl) :
  dh X CL b (.Expr Qip pos::gS) δ DD:=
 cE (apf i h0 h h1 (p8 f Wl) k n.hi n.hv n.hd n.k9 d c a hs g)
def Tb{ps:Pos}(n:QaK)(h:QaH)(h2:dI X CL b e2 δ1 (.int k) δ1)(h1:δ1[i]? = some Qcy)(f:Np tl.length k=some j)(kk:dh X CL b gS (δ1.set i (some QfE)) DD)
  (s:∀v,assign Qjz X.env v=(do
   let I ← holding [v] QiQ
   let U ← holding [v,I] (eval e2 X.env)
   standAt ps
   holding [v,I,U] (setItem I U v)
   release [v,I,U] []):=by intro _;rfl)
  (hs:swapsWithSole [.Subscript QaL e2 ps] e pos.line X.env=pure false:=by rfl) (hw:swappedStores [.Subscript QaL e2 ps] e X.env=pure none:=by rfl) (c:(assignEach [.Subscript QaL e2 ps] X.env).map (·.2)=[assign Qjz X.env]:=by rfl) :
  dh X CL b Qlv δ DD:=by
 refine cE λH Z σ ts vs E S M=>qP (aew dD (aev Qcu dD set_list s) hs hw c) (h H Z σ ts vs _ S λv H1 Z1 o k1 l=>?_);have r:=(BU f).2.1;obtain⟨v0,e0,_⟩:=l.look h1;refine⟨v0,e0,?_⟩;refine h2 H1 Z1 σ _ _ _ l λv2 H2 Z2 m k2 w p=>?_;obtain⟨a,us,g,d,q,u⟩:=w.setAt h1 r;rw[e0]at g;cases g;exact⟨a,us,k,j,rfl,p.sc rfl,d,q▸f,M.nx _ σ _ Z2 (o.trans m) u kk⟩
def gT(a:ds.length=n)(hm:Qid)(h:Qb5)(c:Gl X "len")(hs:Qaa:=by exact aS rfl):cL X CL b QiN δ (.sh Qdp) δ1:=by
 subst a;exact O8 hm h c hs
def cu(h:QiY):dI X CL b e δ (.lst ds) δ1:=by
 have:=Th h
 rwa [T.gW,kC]at this
noncomputable def ajO{a:BA}(h:QiY)(c:ds=a):dI X CL b e δ (.lst a) δ1:=c▸cu h
theorem gf{f:α->D}{l:Q1}(z:α)(h0:0<=k)(h1:k<l.length):uW Qdu k=some (f (l.getD k.toNat z)):=by
 obtain⟨j,rfl⟩:∃j:Nat,k=j:=⟨k.toNat,We⟩;refine d8 ?_;simp_all
variable{β:Type}
theorem T9{f:α->β}{l:Q1}{lo hi:CU}:cutD Qdu lo hi=(cutD l lo hi).map f:=by
 unfold cutD;simp_all
noncomputable def Pg(l:Bool)(ds:BA):D:=match l with
 | true=>.lst ds
 | false=>.tup ds
theorem eY{α:Type}{f:α->D}(h:∀a,(f a).u9=true):∀(l:Q1),D.bS Qdu=true
 | []=>rfl
 | a::l=>by rw[kc,D.bS,h a,eY h l];rfl
variable{d:D}
def ajP{u:Tok}(hm:X.mg x=some (.int k u))(a:Qam)(hd:AD x:=by decide):cL X CL b Qal δ (.sh (.int k)) δ:=λH Z σ ts vs Q S kk=>
 cK (OV (v:=.int k) a hm ⟨u,rfl⟩ hd) (kk _ H Z Qb Qb (S.push (.int k)))
def eZ(hm:∃u,X.mg x=some (.int k u))(a:Qam)(hd:AD x:=by decide):cL X CL b Qal δ (.sh (.int k)) δ:=by
 obtain⟨u,hm⟩:=hm;exact ajP hm a hd
noncomputable def vE(n:QaK)(h:δ[i]? = some Qas)(e:t.gW=d):dI X CL b Qal δ d δ:=e▸vB n h
theorem B7(x:Str):∀l:At,u3 Qbm Qf2=decide Qfc
 | []=>by simp[u3]
 | y::l=>by
  have b:=B7 x l;unfold u3 at b ⊢;have e:∀a c,oI (.str a) (.str c)=(a==c):=λ_ _=>rfl;grind
theorem au.strs{K:Frag}{Z:Hp}:∀{l:At} {vs:BY},au K CL Z (l.map D.str) vs->vs=l.map V.str
 | [],_,r=>by
  have a:=r;cases a;rfl
 | y::l,_,r=>by
  have a:=r;cases a with
  | cons c b=>rw[c.sc rfl,au.strs b];rfl
theorem lE:∀l:At,(l.map V.str).all zZ=true
 | []=>rfl
 | y::l=>by rw[kc,vw,lE l];rfl
def vh(hm:X.mg "int" = none)(h:dI X CL b e δ (.bl p) δ1)(c:Gl X "int")(hs:Qaa:=by exact aS rfl):cL X CL b (.Call (.Name "int" pp) [e] [] pos) δ (.sh (.int (if p then 1 else 0))) δ1:=λH Z σ ts vs Q S k=>
 cK (jQ abY c hm acm Qau (he:=hs)) (h H Z σ ts vs _ S λv H1 Z1 a k1 d r=>.inr ⟨p,by rw[r.sc rfl],k _ H1 Z1 a k1 (d.push Qbc)⟩)
noncomputable def HS:Expr->Option Str
 | .Constant (.str x) _ _=>some x
 | _=>none
def DI:Cf->Option At
 | []=>some []
 | e::es=>(HS e).bind λx=>(DI es).map (x::·)
theorem Ua(h:HS e=some x):∃j p,e=.Constant Qbm j p:=by
 unfold HS at h;split at h
 .cases h;grind
 .cases h
theorem nS:∀{es:Cf} {l:At},DI es=some l->Nv X CL b es δ ((l.map D.str).map T.sh) δ
 | [],l,h=>by
  have e:=(k4 h).symm;subst e;exact bD
 | e::es,l,h=>by
  rw[DI]at h;obtain⟨x,a,h⟩:=Option.bind_eq_some_iff.1 h;obtain⟨d,c,rfl⟩:=yA.1 h;obtain⟨j,p,rfl⟩:=Ua a;exact aO f9 (nS c)
noncomputable def MI{a:Stmt}(J:BB->Prop)(k:∀δ2,J δ2->dh X CL b gS δ2 DD)(h:(∀δ2,J δ2->dh X CL b gS δ2 DD)->dh X CL b (a::gS) δ DD):dh X CL b (a::gS) δ DD:=h k
theorem afd(h0:0<=k)(h1:k<n):Np n k=some k.toNat:=by
 unfold Np;simp_all
def sC(l:AT):T.dP ((l.map D.int).map T.sh)=true:=by
 rw[ia]
 induction l with
 | nil=>rfl
 | cons i r a=>rw[kc,T.dP,a];rfl
noncomputable def Itv(K:Frag)(a:Addr)(n:Nat):It:=
 ⟨λi H=>i<n/\∃xs,oj K H a xs/\xs.length=n,λi H x H'=>H'=H/\∀xs,oj K H a xs->xs[n-1-i]? = some x,λi _=>i=n⟩
variable{tg:Expr}
theorem afe(a it:Addr)(n:Nat):Turn P w K tg (Itv K a n) [it] it (λi h=>PySem.Heap.IsRevIter h it a ((n:Int)-1-(i:Int))) where
 mem:=by simp
 obj:=λi h st b g=>by
  have e:b=it:=by simpa using g
  subst e;obtain⟨o,e,c,d⟩:=st;exact⟨o,e,λv z=>by rw[d]at z;cases z⟩
 keep:=λi h h' st k=>st.at λo e=>k it Wp o e
 item:=by
  intro X m hw q B i pins s σ H E I hf st l;subst m hw q;obtain⟨hi,xs,A,O⟩:=l;obtain⟨its,F,p,hz⟩:=I.list A;have y:n-1-i<xs.length:=by lia
  obtain⟨u,L,G⟩:=F.get (kA y);obtain⟨f0,f1,f2,t,f4,r⟩:=hf it Wp;have e1:(n:Int)-1-(i:Int)=((n-1-i:Nat):Int):=by lia
  have f:PySem.Heap.IsRevIter s.heap it a ((n-1-i:Nat):Int):=e1▸st;refine PySem.wpAny_pyNext_rev_item f p.isList (x:=u) (by simpa using L) λh' C D=>?_;have N:L2.Inv X pins σ H {s with heap:=h'}:=I.turned (t':=s.toks) (λb o g e=>(D.2 b g).trans e) f0 f1 t f4 r;have e2:((n-1-i:Nat):Int)-1=(n:Int)-1-((i+1:Nat):Int):=by lia
  have j:PySem.Heap.IsRevIter h' it a ((n:Int)-1-((i+1:Nat):Int)):=e2▸C;obtain⟨o,e,c,d⟩:=id C;exact⟨u,rfl,ZQ (s:={s with heap:=h'}) e c d Wl ⟨_,H,N,G,⟨rfl,λys J=>by rw[I.Hs J A];exact kA y⟩,j,λb g=>(hf b g).1⟩⟩
 done:=by
  intro X m hw q B i pins s σ H E I hf st l;subst m hw q;obtain⟨f0,f1,f2,t,f4,r⟩:=hf it Wp;have e1:(n:Int)-1-(i:Int)=-1:=by have:i=n:=l;lia
  have f:PySem.Heap.IsRevIter s.heap it a (-1):=e1▸st;exact PySem.wpAny_pyNext_rev_end (I.ok.hd B) f λh' M=>⟨rfl,I.turned (t':=s.toks) (λb o g e=>M b o g e) f0 f1 t f4 r⟩
 self:=λ_ _ _ _ _ st h=>PySem.wpAny_pyIter_revIter st h
def ax5(K:Frag)(ta:TA):TI:=λσ H R=>ta σ H λvs H1=>∃a xs,vs=[.ref a]/\oj K H1 a xs/\R (Itv K a xs.length) H1
theorem aps{a:Expr}{ta:TA}{p:Pos}(k:Qh6)(hm:Qhz)(n:PA X [a] ta)(hs:AC X a []):PI X tg (.Call (.Name "reversed" p) [a] [] pos) (ax5 X.K ta):=by
 intro pins s σ H R I h;refine Call_ (qL I k hm boot_reversed (we (gE Qjt λus s1 zz=>?_) hs rfl));obtain⟨vs,H1,c,g,i⟩:=zz;obtain⟨l,xs,e,j,q⟩:=i;subst e;cases g with
 | cons r f=>
  cases f;cases r;obtain⟨its,d,p,hz⟩:=c.list j;refine PySem.call_reversed_list p.isList ?_;have u:=d.length;have e0:QjF=xs.length-1-(0:Int):=by grind
  have t:L2.Inv X pins σ H1 {s1 with heap:=s1.heap.push (PySem.revObj l QjF)}:=c.kept λb o e=>ka _ e;have st:PySem.Heap.IsRevIter (s1.heap.push (PySem.revObj l QjF)) s1.heap.objs.size l (xs.length-1-(0:Int)):=e0▸⟨_,lG _ rfl,rfl,rfl⟩;refine PySem.wpAny_pyIter_revIter st ?_;refine⟨ _,_,_,_,H1,rfl,t,afe l _ _,st,λb m=>?_,q⟩;have e:=by simpa using m
  subst e;exact c.Lx (hW _) Qhw
variable{pr pc:Pos}{ds:BA}
theorem apt(hm:Qhz)(h:QgF)(t:Qh6)(hs:Qaa:=by exact aS rfl):nH X CL b tg (.Call (.Name "reversed" pr) [e] [] pc) δ ds.reverse δ1:=by
 refine⟨_,aps t hm Qau hs,λH Z σ ts vs R S k=>h H Z σ ts vs _ S λv H1 Z1 m k1 g=>?_⟩;obtain⟨fp,gp,_,r,_,_⟩:=g.rep;cases r with
 | cons r _=>
  cases r with
  | sh r=>
   cases r with
   | @lst a us _ c j=>
    have hlen:=j.length;have f:=by
     have go:∀{ds:BA} {us:BY} {es:BA} {ws:BY},au X.K CL Z1 ds us->au X.K CL Z1 es ws->au X.K CL Z1 (ds.reverse++es) (us.reverse++ws):=by
      intro ds us es ws r
      induction ds generalizing us es ws with
      | nil=>cases r;simp_all
      | cons d ds p=>
       cases r with
       | cons o n=>
        intro q;rw[mn,mn,hZ,hZ];exact p n (.cons o q)
     simpa using go j .nil
    refine⟨a,us,rfl,g.zh.seq c,k _ _ ⟨Z1,_,m,k1,g.pop,f,λi H2 s hi=>?_,λi H2 y H' s hi l=>?_,λH2 s=>?_⟩⟩
    .rw[rF]at hi;exact⟨We,us,s.seq c,rfl⟩
    .rw[rF]at hi;refine⟨l.1,?_⟩;rw[List.getElem?_reverse We];exact l.2 us (s.seq c)
    .rw[rF];exact hlen
variable{tt:Bn}
theorem bC.apu(S:Qan)(hi:δ[i]? = some (some (.tup tt)))(s:tt[j]? = some t) :
  ∃f c v,σ[i]? = some Qe0/\Z f=some (.tup c)/\c[j]? = some v/\bC K CL b H Z (δ.set i QlB) σ (t::ts) QaO:=by
 obtain⟨fp,gp,e,r,nd,k⟩:=S.rep;obtain⟨v0,f1,f2,g,hv,o,rt,put,_⟩:=e.get hi;subst o;cases rt with
 | @tup f c _ _ m q=>
  obtain⟨h,g1,g2,g3,d,u,p,set⟩:=q.at s;subst u;have l:=set QcB (.sh (.any h));rw[eX d]at l;have e2:=put Qb QcB (b9.tup m l);rw[eX hv]at e2;have n:((f1++((g1++([]++g3))++g))++(g2++gp)).Perm ((f1++(Qig++g))++gp):=by
   simp;refine mD f1 (mD g1 ?_);have:=(l9 (l₁:=g3++g) (l₂:=g2)).append_right gp;simp at this;exact this
  exact⟨f,c,h,hv,m,d,⟨⟨_,_,e2,.cons p r,n.nodup_iff.2 nd,λa w=>k a (n.mem_iff.1 w)⟩,S.bh,S.zz,S.zh,S.new,S.tp,S.tab⟩⟩
variable{ps:Pos}{kj:Nat}
def jS(j:Nat)(n:QaK)(h:δ[i]? = some (some (.tup tt)))(e:tt[j]? = some t):cL X CL b (.Subscript QaL (.Constant (.int j) kj pc) ps) δ t (δ.set i QlB):=λH Z σ ts vs Q S k=>by
 obtain⟨f,a,v,hv,d,c,g⟩:=S.apu h e;exact cK (Hz WC Qcu Wq QcB) ⟨_,hv,f,a,j,v,rfl,rfl,Dz.of (S.zh _ _ d),d8 c,k v H Z Qb Qb g⟩
variable{ds:BA}
def vFL(n:QaK)(h:δ[i]? = some (some (.lst Qa7))):cL X CL b Qal δ (.sh QcK) (δ.set i (some (.sh QcK))):=by
 have:=vF (CL:=CL) (b:=b) (pos:=pos) n h
 rwa [T.gW,kC]at this
theorem pW.get:∀{fs:Da} {gs:CI} {f:Str} {d:D},pW K CL Z fs gs->fs.lookup f=some d->∃v,gs.lookup f=some v/\cB K CL Z d v
 | _,_,_,_,.nil,e=>by simp at e
 | _,_,f,d,.cons (x:=x) r t,e=>by
  rw[l0]at e ⊢;cases h:f==x with
  | true=>rw[h]at e;grind
  | false=>rw[h]at e;exact pW.get t e
noncomputable def sU(f:Str)(t:T):BN->BN
 | []=>[(f,t)]
 | (g,x)::r=>if g=f then(g,t)::r else(g,x)::sU f t r
theorem dS.length{fs:BN}{gs:CI}(h:dS K CL H Z fs gs fp):fs.length=gs.length:=
 dS.ind (P:=λd v _=>d.length=v.length) rfl Qg2 h
theorem dS.put{f:Str}{g:BS}(q:b9 K CL H Z t v g):∀{fs:BN} {gs:CI} {fp:BS},dS K CL H Z fs gs fp →
  ∃a b,dS K CL H Z (sU f t fs) (su f v gs) a/\b.Sublist fp/\a.Perm (g++b)
 | _,_,_,.nil=>⟨ _,[],.cons q .nil,my _,List.Perm.refl _⟩
 | _,_,_,.cons (x:=x) (fp:=fp) (gp:=gp) r rs=>by
  rw[sU,su];by_cases h:x=f
  .rw[hO h,hO h];exact⟨ _,gp,.cons q rs,wd _ _,List.Perm.refl _⟩
  .rw[cq h,cq h];obtain⟨p,c,h1,h2,d⟩:=dS.put q rs;refine⟨ _,_,.cons r h1,nz (my _) h2,(mD fp d).trans ?_⟩;rw[← hZ,← hZ];exact l9.append_right c
theorem bC.Ph{e d:BS}(hm:m5 o=false)(S:Qan)(own:∀c∈fp++gp,Z c=none/\b.B c=none)(j:a∈fp++gp)
  (k:f6 K CL QbO Z δ2 σ e) (h:aW K CL QbO Z tl us d) (pm:(e++d).Nodup) (sub:∀c∈e++d,c∈fp++gp) :
  bC K CL b QbO Z δ2 σ tl us:=by
 have g:=own a j;refine⟨⟨_,_,k,h,pm,λc f=>own c (sub c f)⟩,λc u q=>?_,S.zz,λc u q=>?_,S.new,λc u q i=>?_,S.tab⟩
 .rw[aq (aP q g.2)];exact S.bh c u q
 .rw[aq (aP q g.1)];exact S.zh c u q
 .by_cases f:c=a
  .subst f;rw[aR]at q;grind
  .rw[aq f]at q;exact S.tp c u q i
variable{c:Str}
theorem bC.setField{x:Addr}{f:Str}{fs:BN}(S:Qb3)(hi:δ[i]? = some (some (.pin x Qci))) :
  ∃dx gs,σ[i]? = some (some QbU)/\H x=some Qhy/\gs.length=fs.length/\bC K CL b (upd H x Qfq) Z (δ.set i (some (.pin x (.ins c (sU f t fs))))) σ ts vs:=by
 obtain⟨fp,gp,e,r,nd,k⟩:=S.rep;obtain⟨v0,f1,f2,l,hv,w,rt,put,_⟩:=e.get hi;subst w;cases rt with
 | pin rt=>
 cases rt with
 | @ins a dx _ gs _ g B rs=>
  cases r with
  | @cons _ _ _ _ m j A z=>
   have ne:∀c∈Qe3++(m++j),c≠x:=λc d e=>by
    subst e;have o:((f1++((c::g)++l))++(m++j)).Perm (c::(Qe3++(m++j))):=by
     rw[mi,← mi];exact(List.perm_middle.append_right _)
    exact(ma.1 (o.nodup_iff.1 nd)).1 d
   refine⟨dx,gs,hv,B,rs.length.symm,?_⟩;have s:=A.mono (H':=upd H x Qfq) Qb λc d=>aq (ne c (by simp[d]));have q:=rs.mono (H':=upd H x Qfq) Qb λc d=>aq (ne c (by simp[d]));obtain⟨p,n,h1,h2,D⟩:=dS.put (f:=f) s q;have y:b9 K CL (upd H x Qfq) Z (.pin x (.ins c (sU f t fs))) QbU (x::p):=.pin (.ins aR h1);have e2:=put (H':=upd H x Qfq) Qb (λc d=>aq (ne c (by
    obtain h|h:=hV.1 d
    .simp[h]
    .simp[h]))) y
   rw[eX hv]at e2;have o:((f1++((x::p)++l))++j).Perm ((f1++((x::n)++l))++(m++j)):=by
    have C:((f1++((x::p)++l))++j).Perm ((f1++((x::(m++n))++l))++j):=((D.cons x).append_right l).append_left f1 |>.append_right j
    refine C.trans ?_;simp only[mi,hZ];refine mD f1 (List.Perm.cons x ?_);have:=(l9 (l₁:=m) (l₂:=n++l)).append_right j;simp only[hZ]at this;exact this
   have u:((f1++((x::n)++l))++(m++j)).Sublist ((f1++((x::g)++l))++(m++j)):=
    nz (nz (my _) (nz (List.Sublist.cons₂ x h2) (my _))) (my _)
   exact S.Ph rfl k Wp e2 (z.mono Qb λc d=>aq (ne c (by simp[d]))) (o.nodup_iff.2 (nd.sublist u)) λc d=>u.subset (o.mem_iff.1 d)
variable{f:Str}{d:D}{fs:Da}
def cy(l:Qdi)(n:QfX)(h:dI X CL b e δ (.ins c fs) δ1)(j:fs.lookup f=some d)(m:AS X e f:=by rfl) :
  dI X CL b QfA δ d δ1:=λH Z σ ts vs Q S k=>
 cK (Wx dD m) (h H Z σ ts vs _ S λv H' Z' z s p r=>by
  cases r with
  | @ins a dx _ gs _ o i=>
   obtain⟨w,hw,g⟩:=i.get j;exact⟨a,CL c,dx,gs,w,rfl,o,l,n,hw,k w H' Z' z s p g⟩)
def jH(m:Qdi)(n:QfX)(h:cL X CL b e δ (.sh Qci) δ1)(l:fs.lookup f=some d)(o:AS X e f:=by rfl) :
  cL X CL b QfA δ (.sh d) δ1:=λH Z σ ts vs Q S k=>
 cK (Wx dD o) (h H Z σ ts vs _ S λv H' Z' z s i=>by
  obtain⟨fp,gp,_,r,_,_⟩:=i.rep;cases r with
  | cons r _=>
   cases r with
   | sh r=>
    cases r with
    | @ins a dx _ gs _ p j=>
     obtain⟨w,hw,g⟩:=j.get l;exact⟨a,CL c,dx,gs,w,rfl,i.zh _ _ p,m,n,hw,k w H' Z' z s (i.pop.push g)⟩)
def qS{gs:BN}(j:Qdi)(n:QfX)(nm:QaK)(h:QaH)(h1:δ1[i]? = some (some (.pin a (.ins c gs))))(g:gs.length<1000)
  (k:dh X CL b gS (δ1.set i QlH) DD) (hs:Qkz:=by rfl) :
  dh X CL b Qlh δ DD:=cE λH Z σ ts vs E S M=>
 qP (aeG Qja dD hs) (h H Z σ ts vs _ S λv H' Z' z s m=>by
  obtain⟨dx,ws,hv,d,hlen,l⟩:=m.setField h1;exact⟨ _,hv,a,CL c,dx,ws,rfl,d,j,n,hlen▸g,M.nx _ σ _ Z' z l k⟩)
def uj(K:Frag)(CL:BC){A:Type}(c:Str)(n:Nat)(arg:QaA)(Pre:Qab)(res:A->BN):Sp:=λvs H Q _=>
 ∃(W b:Hp) (a:A) (x dx:Addr) (us:BY),vs=.ref x::us/\b x=none/\b dx=none/\dx≠x/\H=upd (upd b dx Qed) x (.ins (CL c) dx []) ∧
  aB W b/\(∀c o,b c=some o->m5 o=true->W c=some o)/\au K CL W (arg a) us/\(arg a).length+1=n/\Pre a/\u6 CL W ∧
  ∀H' W' fp,aB b H'->aB W W'->aB W' H'->(∀c o,W' c=some o->W c=none->b c=none)->(∀c o,H' c=some o->m5 o=true->W' c=some o) →
   b9 K CL H' W' (.ins c Qcq) QbU fp->fp.Nodup->(∀c∈fp,W' c=none/\b c=none)->Q .non H'
section
variable{o:Expr}{apos:Pos}{A:Type}{k:Nat}{f:Addr}{ps:At}{m:Str}{arg:QaA}{Pre:Qab}
def ajQ{res:A->BN}(a:A)(M:Mk X.K (CL c) f)(F:Qky)(s:Qf4)(hm:X.mg x=some (.ref (CL c)))(y:Qc6)
  (h:QgO) (u:QhZ) (t:Pre a) (B:T.f7 Qcq=true) (v:Qam)
  (o:AD x:=by decide) (he:Qah:=by exact aS rfl) (hpl:Qaw:=by rfl) :
  cL X CL b Qby δ (.ins c Qcq) δ1:=λH Z σ ts vs Q S kk=>
 cK (OY M F s v hm y .nil xD LC o he hpl) (h H Z σ ts vs _ S λus H1 Z1 j k1 g r x dx p d ne=>by
  rw[iz];refine⟨H1,H1,a,x,dx,us,rfl,p,d,ne,rfl,.refl _,λ_ _ q _=>q,r,u,t,g.T5,λH' W' fp i ww m nw tp rt nd own=>⟨rfl,?_⟩⟩;obtain⟨Z',l,z⟩:=g.back i g.zh ww m nw tp rt nd own (.inr (‹_›));exact kk _ H' Z' (j.trans l) (k1.trans i) z)
theorem afg{res:A->BN}(a:A)(M:Mk X.K (CL c) f)(F:Qky)(r:Qf4)(hm:X.mg x=some (.ref (CL c)))(v:Qc6)
  (h:Qgx) (t:QhZ) (s:Pre a) (u:Qam)
  (p:AD x:=by decide) (he:Qah:=by exact aS rfl) (hpl:Qaw:=by rfl) :
  cL X CL b Qby δ (.ins c Qcq) δ1:=λH Z σ ts vs Q S kk=>
 cK (OY M F r u hm v .nil xD LC p he hpl) (h H Z σ ts vs _ S λus H1 Z1 B l k1 g x dx q i ne=>by
  rw[iz];have d:us.length=(arg a).length:=by grind
  have y:=g.drops (by simp[d]);refine⟨Z1,H1,a,x,dx,us,rfl,q,i,ne,rfl,g.zh,g.tp,g.aaj d,t,s,g.WH,λH' W' fp j ww o nw tp rt nd own=>⟨rfl,?_⟩⟩;obtain⟨Z',m,z⟩:=y.back j Qb ww o nw tp rt nd own Q4;exact kk _ H' Z' (l.trans m) (k1.trans j) z)
def ajR{res:Qaj}{fs:Da}{ds:BA}{pl:QcR}(a:A)(N:Qdi)(hm:Meth X.K (CL c) m f)(F:Qgg)(D:QbG)(M:Qc6)
  (G:QgP) (hf:QeJ) (h:nZ X CL b Qae δ1 ds δ2) (P:arg a=.ins c fs::ds) (J:Qb0) (E:Pre a) (L:QdO)
  (he:Qah:=by exact aS rfl) (hpl:Qaw:=by rfl)
  (C:eval Qet X.env=(do
   let I ← eval o X.env
   standAt apos.atName
   let (f,first) ← holding [I] QdN
   callWith pos f first (backTo pos QcY) Qbw):=by rfl) :
  cL X CL b Qet δ (res a) δ2:=λH Z σ ts vs Q S kk=>
 cK (ZX dD N hm F D M .nil xD LC he hpl C) (G H Z σ ts vs _ S λv H1 Z1 t k1 R z=>by
  cases z with
  | @ins O dx _ gs _ l i=>
   have d:=by
    have:∀{fs:List _} {gs:List _},pW X.K CL H1 fs gs->fs.lookup m=none->gs.lookup m=none:=by
     intro fs gs r
     induction fs generalizing gs with
     | nil=>intro _;cases r;rfl
     | cons p fs B=>
      cases r with
      | cons q r=>
       intro h;rw[l0]at h ⊢;split at h
       .cases h
       .exact B r h
    exact this i hf
   refine⟨O,dx,gs,rfl,l,d,h H1 Z1 σ ts vs _ R λus H2 Z2 s k2 g y=>?_⟩;rw[iz];refine⟨H2,a,.refl _,λ_ _ q _=>q,P ▸ .cons (.ins (k2 _ _ l) (i.mono k2)) y,J,E,g.T5,λv H' W' fp j ww x nw tp rt nd own=>?_⟩;obtain⟨Z',u,U⟩:=g.back j g.zh ww x nw tp rt nd own (.inr L);exact kk v H' Z' (t.trans (s.trans u)) (k1.trans (k2.trans j)) U)
def afh{res:Qaj}{fs:Da}{pl:QcR}(a:A)(B:Qdi)(hm:Meth X.K (CL c) m f)(F:Qgg)(s:QbG)(z:Qc6)
  (u:QgP) (hf:∀{H:Hp} {gs:CI},pW X.K CL H fs gs->gs.lookup m=none) (D:arg a=[.ins c fs]) (x:Qb0) (t:Pre a) (y:QdO)
  (r:eval Qey X.env=(do
   let I ← eval o X.env
   standAt apos.atName
   let (f,first) ← holding [I] QdN
   callWith pos f first (backTo pos QfD) Qbw):=by rfl) :
  cL X CL b Qey δ (res a) δ1:=λH Z σ ts vs Q S kk=>
 cK (aeL dD B hm F s z .nil xD r) (u H Z σ ts vs _ S λv H1 Z1 i k1 d p=>by
  cases p with
  | @ins C dx _ gs _ h e=>
   refine⟨C,dx,gs,rfl,h,hf e,?_⟩;refine⟨H1,a,.refl _,λ_ _ q _=>q,D ▸ .cons (.ins h e) .nil,x,t,d.T5,λv H' W' fp g ww l nw tp rt nd own=>?_⟩;obtain⟨Z',j,E⟩:=d.back g d.zh ww l nw tp rt nd own (.inr y);exact kk v H' Z' (i.trans j) (k1.trans g) E)
end
def Pj{f:Addr}{ps:At}{k:Nat}{A:Type}{arg:QaA}{Pre:Qab}{res:A->BN}(F:Qc3)(S:QdR)
  (J:∀(iR:Value) (l:QaF) (outer:EM) (s:Qr) (H:Hp) (E:XK) (b:Bx) (a:A) (y:Addr),fO k (l.deeper QdC)->Pre a →
   dh (BR mX P w K mg base N qual Qcj f iR l outer s H E).nc CL b Qcp (some (.pin y (.ins c []))::((arg a).map Qha++List.replicate (N.length-((arg a).length+1)) none))
    {nx:=λδ=>δ[0]? = some (some (.pin y (.ins c Qcq))),rt:=λ_ _=>False}) :
  d7 P w K mg base mX QaZ f fd ps (uj K CL c ps.length arg Pre res):=by
 refine F.ok S (λvs H Q E h=>?_) (λiR l outer s H vs Q E G h=>?_)
 .obtain⟨W,j,a,y,dx,us,rfl,_,_,_,_,_,_,r,B,_⟩:=h;rw[k8,← r.length];exact B
 .obtain⟨W,j,a,y,dx,us,rfl,m,n,ne,rfl,u,tp,r,B,I,tb,kk⟩:=h;have old:∀{d:Addr} {o:HO},j d=some o->upd (upd j dx (.own y)) y (.ins (CL c) dx []) d=some o:=λ{d o} q=>by
   rw[aq (aP q m),aq (aP q n)];exact q
  refine⟨_,n4,J iR l outer s _ E ⟨j,W⟩ a y G I _ W _ [] [] _ ⟨⟨[y]++[],[],?_,.nil,Wp,λd hd=>?_⟩,λd o q=>old q,.refl _,λd o q=>old (u d o q),λd o q z=>?_,λd o q i=>?_,tb⟩ ⟨λδ' σ' H' Z' s' g e=>?_,λt v H' Z' δ' σ' s' g e=>e.elim,λ_ _ _ _ _ _ e=>e.elim,λ_ _ _ _ _ _ e=>e.elim⟩⟩
  .unfold L2.start;rw[kc,k8,mi,← r.length];exact .cons (.pin (.ins aR .nil)) (m8 _ r)
  .have:d=y:=by simpa using hd
   subst this;exact⟨WK u m,m⟩
  .have D:W d=some o:=q;have p:W d=none:=z;rw[D]at p;cases p
  .by_cases h1:d=y
   .subst h1;rw[aR]at q;cases q;cases i
   .rw[aq h1]at q;by_cases h2:d=dx
    .subst h2;rw[aR]at q;cases q;cases i
    .rw[aq h2]at q;exact tp d o q i
  .obtain⟨fp,gp,L,_,nd,own⟩:=g.rep;obtain⟨v,f1,f2,M,hv,C,rt,_,_⟩:=L.get e;subst C;cases rt with
   | pin rt=>
    refine kk H' Z' f2 g.bh g.zz g.zh g.new g.tp rt ?_ λd hd=>own d (by simp[hd]);have h1:=(ko.1 nd).1;exact(ko.1 (ko.1 h1).2.1).1
variable{body:Cs}{ds ds2:BA}
theorem Pk(g:Gx X)(P:QfT)(m:Nat)(h0:P m δ)
  (hs:∀m δ,P m δ->∃p δ1,yW X CL b e δ p δ1 ∧
   (p=true->dh X CL b body δ1 {nx:=λδ2=>∃a,a<m/\P a δ2,rt:=DD.rt,bk:=λδ2=>dh X CL b gS δ2 DD,ct:=λδ2=>∃a,a<m/\P a δ2})/\(p=false->dh X CL b gS δ1 DD)) :
  dh X CL b (.While e body [] pos::gS) δ DD:=cE λH Z σ ts vs E S M=>
 qP (aey g.xe oy n4) (by
  refine⟨λm σ H=>∃Z2 δ2,aB Z Z2/\bC X.K CL b H Z2 δ2 σ ts vs/\P m δ2,⟨m,Z,δ,.refl _,S,h0⟩,?_⟩;rintro m σ H ⟨Z2,δ2,f,k,p2⟩;obtain⟨p,δ3,j,h1,h2⟩:=hs m δ2 p2;refine j H Z2 σ ts vs _ k λi Z3 d n h=>?_;cases p with
  | true=>
   refine⟨ _,λσ' H' q=>q,?_⟩;refine h1 rfl i Z3 σ ts vs _ h ⟨λδ' σ' H' Z' s' c ⟨a,l,q⟩=>⟨a,l,Z',δ',f.trans (d.trans s'),c,q⟩,λt v H' Z' δ' σ' s' c q=>M.rt t v H' Z' δ' σ' (f.trans (d.trans s')) c q,
    λδ' σ' H' Z' s' c q=>M.nx δ' σ' H' Z' (f.trans (d.trans s')) c q,λδ' σ' H' Z' s' c ⟨a,l,q⟩=>⟨a,l,Z',δ',f.trans (d.trans s'),c,q⟩⟩
  | false=>
   exact M.nx δ3 σ i Z3 (f.trans d) h (h2 rfl))
def auh(K:Frag):R2:=λx y H Q=>∃l b xs zs,x=.ref l/\y=.ref b/\oj K H l xs/\oj K H b zs/\xs.length+zs.length<=sizeLine/\∀p,H p=none->Q Qdx (upd H p (.lst (xs++zs)))
theorem aao:BP X (binaryOp .Add) (auh X.K):=by
 intro pins s σ H x y v u Q I m k h;obtain⟨l,b,xs,zs,rfl,rfl,t,w,hz,q⟩:=h;cases m;cases k;obtain⟨its,r,pl,_⟩:=I.list t;obtain⟨j,g,d,_⟩:=I.list w;have e1:=r.length;have e2:=g.length;obtain⟨⟨D,dd,B,sl⟩,i,p,n,hd⟩:=pl.isList;obtain⟨⟨C,f,A,c⟩,a,e,o,hd2⟩:=d.isList;cases p;cases e;cases hd;cases hd2;refine concat_meets ⟨_,i,rfl⟩ ⟨_,a,rfl⟩ noFill_list_add seq_list_add PySem.F.slot_list_add PySem.F.entry_list_add (PySem.F.args_list_add_2 _ _)
  (list_addW l b _ _ n o dd f sl c W8) ⟨i,a,?_⟩
 have z:its.toArray++j.toArray=(its++j).toArray:=by simp
 rw[z];exact⟨.ref _,_,I.Sr (r.append g) W7,rfl,q _ I.fresh⟩
theorem au.app{ds ds2:BA}{a:BY}(h:QeK)(b:au K CL Z ds2 a):au K CL Z (ds++ds2) (vs++a):=
 au.ind (P:=λds vs=>au K CL Z (ds++ds2) (vs++a)) b (λr _ i=>.cons r i) h
theorem zb(h1:Qi8)(h2:dI X CL b e2 δ1 (.lst ds2) δ2)(i1:QbZ)(i2:D.bS ds2=true)(hz:ds.length+ds2.length<=sizeLine) :
  cL X CL b Qez δ (.lst ((ds++ds2).map T.sh)) δ2:=λH Z σ ts vs Q S k=>
 cK (TL aao dD dD) (h1 H Z σ ts vs _ S λv1 H1 Z1 j k1 q m=>h2 H1 Z1 σ ts vs _ q λv2 H2 Z2 i k2 h l=>by
  have e:=m.mono k2;cases e with
  | lst g d=>
   cases l with
   | lst f a=>
    refine⟨_,_,_,_,rfl,rfl,g,f,by rw[← d.length,← a.length];exact hz,λp n=>?_⟩;have rc:=au.app (au.u9 h.tp i1 d) (au.u9 h.tp i2 a);obtain⟨c,o⟩:=(bC.pX rc h).kX (g0:=[]) (by simp[d.length,a.length]) n;exact k _ _ _ (j.trans i) (k1.trans (k2.trans c)) o)
def boot_min:bootBuiltins "min" = some (.builtin "min"):=by decide +kernel
def boot_max:bootBuiltins "max" = some (.builtin "max"):=by decide +kernel
def boot_str:bootBuiltins "str" = some (.type "str"):=by decide +kernel
def ajS{i j:Int}(g:Gx X)(hm:X.mg "min" = none)(e:Gl X "min")(h:nZ X CL b [e1,e2] δ [.int i,.int j] δ1)(hs:Qis:=by exact aS rfl)(hpl:(backTo pos (starEach [e2] X.env)).any (·.1)=false:=by rfl) :
  cL X CL b (.Call (.Name "min" pp) [e1,e2] [] pos) δ (.sh Qlj) δ1:=λH Z σ ts vs Q S k=>
 cK (j6 (abX g.calm) e hm boot_min LC (he:=hs) (hpl:=hpl)) (h H Z σ ts vs _ S λus H1 Z1 a k1 f r=>by
  cases r with
  | cons d r=>
   cases r with
   | cons c r=>
    cases r;rw[d.sc rfl,c.sc rfl];exact⟨i,j,rfl,k _ H1 Z1 a k1 (f.push Qbc)⟩)
def ajT{i j:Int}(g:Gx X)(hm:X.mg "max" = none)(e:Gl X "max")(h:nZ X CL b [e1,e2] δ [.int i,.int j] δ1)(hs:Qis:=by exact aS rfl)(hpl:(backTo pos (starEach [e2] X.env)).any (·.1)=false:=by rfl) :
  cL X CL b (.Call (.Name "max" pp) [e1,e2] [] pos) δ (.sh Qli) δ1:=λH Z σ ts vs Q S k=>
 cK (j6 (abW g.calm) e hm boot_max LC (he:=hs) (hpl:=hpl)) (h H Z σ ts vs _ S λus H1 Z1 a k1 f r=>by
  cases r with
  | cons d r=>
   cases r with
   | cons c r=>
    cases r;rw[d.sc rfl,c.sc rfl];exact⟨i,j,rfl,k _ H1 Z1 a k1 (f.push Qbc)⟩)
def aap{i:Int}(hm:X.mg "str" = none)(c:Gl X "str")(h:dI X CL b e δ (.int i) δ1)(hi:i.natAbs.log2<1920)(hs:Qaa:=by exact aS rfl) :
  cL X CL b QlI δ (.sh Qj5) δ1:=λH Z σ ts vs Q S k=>
 cK (jQ BQ c hm boot_str Qau (he:=hs)) (h H Z σ ts vs _ S λv H1 Z1 a k1 d r=>r.sc rfl▸⟨i,rfl,hi,k _ H1 Z1 a k1 (d.push (.str _))⟩)
structure Fm(X:Cx)(CL:BC)(x:Str)(k n:Nat){A:Type}(arg:QaA)(Pre:Qab)(res:A->BN):Prop where
 ex:∃f fd ps,Mk X.K (CL x) f/\d7 X.prog X.w X.K X.mg X.base mX k f fd ps (uj X.K CL x n arg Pre res)/\X.mg x=some (.ref (CL x))/\Binds X.K fd ps []
 room:fO QaZ X.A
structure Fq(X:Cx)(CL:BC)(c m:Str)(k n:Nat){A:Type}(arg:QaA)(Pre:Qab)(res:Qaj):Prop where
 ex:∃f fd ps,Meth X.K (CL c) m f/\d7 X.prog X.w X.K X.mg X.base mX k f fd ps Qjs/\Binds X.K fd ps []
 room:fO k X.A
 cls:jP X.K (CL c)
noncomputable def WR(N:At)(y:Addr)(c:Str)(ds:BA):BB:=some (.pin y (.ins c []))::(ds.map Qha++List.replicate (N.length-(ds.length+1)) none)
section
variable{m:Str}{D:gU}
def mk_{k:Nat}{A:Type}{arg:QaA}{Pre:Qab}{res:A->BN}(a:A)(F:QjA)(i:Qam)(h:QgO)(d:Pre a)(j:T.f7 Qcq=true)(g:QhZ:=by rfl)
  (c:AD x:=by decide) (he:Qah:=by exact aS rfl) (hpl:Qaw:=by rfl) :
  cL X CL b Qby δ (.ins x Qcq) δ1:=by
 obtain⟨f,fd,ps,M,l,m,b⟩:=F.ex;exact ajQ a M l F.room m b h g d j i c he hpl
def mkF{k:Nat}{A:Type}{arg:QaA}{Pre:Qab}{res:A->BN}(a:A)(F:QjA)(i:Qam)(h:Qgx)(d:Pre a)(g:QhZ:=by rfl)
  (c:AD x:=by decide) (he:Qah:=by exact aS rfl) (hpl:Qaw:=by rfl) :
  cL X CL b Qby δ (.ins x Qcq) δ1:=by
 obtain⟨f,fd,ps,M,j,m,b⟩:=F.ex;exact afg a M j F.room m b h g d i c he hpl
end
def Pn{d:α}{fs:List (Str×α)}:((f,d)::fs).lookup f=some d:=by simp
def iV{g:Str}{d:α}{fs:List (Str×α)}(h:(f==g)=false):((g,d)::fs).lookup f=fs.lookup f:=by
 rw[l0,h]
def aui:sU f t []=[(f,t)]:=rfl
def asK{g:Str}{u:T}{fs:BN}(h:¬ g=f):sU f t ((g,u)::fs)=(g,u)::sU f t fs:=by
 rw[sU,cq h]
variable{d:L3.D}
theorem B8(x:Int):∀l:AT,u3 Qdy (l.map V.int)=decide Qfc
 | []=>rfl
 | y::l=>by
  have a:=B8 x l;unfold u3 at a ⊢;rw[kc,p7,a];by_cases h:y=x
  .subst h;simp[oI]
  .have h':¬ x=y:=λe=>h e.symm;simp[oI,h,h']
theorem au.ints{K:Frag}{Z:Hp}:∀{l:AT} {vs:BY},au K CL Z (l.map D.int) vs->vs=l.map V.int
 | [],_,r=>by
  have a:=r;cases a;rfl
 | y::l,_,r=>by
  have a:=r;cases a with
  | cons c b=>rw[c.sc rfl,au.ints b];rfl
theorem lF:∀l:AT,(l.map V.int).all zZ=true
 | []=>rfl
 | y::l=>by rw[kc,vw,lF l];rfl
abbrev _root_.ES:=Option BA
noncomputable def B9(d:L3.D):ES:=match d with
 | .lst ds=>some ds
 | .tup ds=>some ds
 | _=>none
theorem cB.B9{ds:BA}(r:Qdh)(h:L3.B9 d=some ds):∃p us,v=.ref p/\(oj K Z p us\/Dz K Z p us)/\au K CL Z ds us:=by
 cases r with
 | tup b a=>cases h;exact⟨_,_,rfl,.inr b,a⟩
 | lst b a=>cases h;exact⟨_,_,rfl,.inl b,a⟩
 | non=>cases h
 | bl=>cases h
 | int=>cases h
 | str=>cases h
 | any=>cases h
 | val=>cases h
 | um=>cases h
 | dct=>cases h
 | ins=>cases h
 | E8=>cases h
variable{l:AT}
def vm{i:Int}(h1:Qbe)(h2:Qhh)(hd:L3.B9 d=some Qc4)(hm:behindInMarks .In e2=false) :
  yW X CL b QgV δ (decide (i∈l)) δ2/\cL X CL b QgV δ (.sh (.bl (decide (i∈l)))) δ2:=by
 constructor
 .intro H Z σ ts vs Q S k;refine LD (uY yV dD dD hm) (h1 H Z σ ts vs _ S λv1 H1 Z1 f k1 n a=>h2 H1 Z1 σ ts vs _ n λv2 H2 Z2 c k2 m h=>?_);obtain⟨p,us,rfl,j,g⟩:=cB.B9 h hd;have e:=g.ints;subst e;refine⟨_,_,rfl,j,by rw[a.sc rfl];rfl,lF l,_,rfl,?_⟩;rw[a.sc rfl,B8];exact k H2 Z2 Qch Qaq m
 .intro H Z σ ts vs Q S k;refine cK (yU yV dD dD hm) (h1 H Z σ ts vs _ S λv1 H1 Z1 f k1 n a=>h2 H1 Z1 σ ts vs _ n λv2 H2 Z2 c k2 m h=>?_);obtain⟨p,us,rfl,j,g⟩:=cB.B9 h hd;have e:=g.ints;subst e;refine⟨_,_,rfl,j,by rw[a.sc rfl];rfl,lF l,?_⟩;rw[a.sc rfl,B8];exact k _ H2 Z2 Qch Qaq (m.push (.bl _))
def zc{i:Int}(h1:Qbe)(h2:Qhh)(hd:L3.B9 d=some Qc4)(hm:behindInMarks .NotIn e2=false) :
  yW X CL b QgL δ (!decide (i∈l)) δ2/\cL X CL b QgL δ (.sh (.bl (!decide (i∈l)))) δ2:=by
 constructor
 .intro H Z σ ts vs Q S k;refine LD (uY qg dD dD hm) (h1 H Z σ ts vs _ S λv1 H1 Z1 f k1 n a=>h2 H1 Z1 σ ts vs _ n λv2 H2 Z2 c k2 m h=>?_);obtain⟨p,us,rfl,j,g⟩:=cB.B9 h hd;have e:=g.ints;subst e;refine⟨_,_,rfl,j,by rw[a.sc rfl];rfl,lF l,_,rfl,?_⟩;rw[a.sc rfl,B8];exact k H2 Z2 Qch Qaq m
 .intro H Z σ ts vs Q S k;refine cK (yU qg dD dD hm) (h1 H Z σ ts vs _ S λv1 H1 Z1 f k1 n a=>h2 H1 Z1 σ ts vs _ n λv2 H2 Z2 c k2 m h=>?_);obtain⟨p,us,rfl,j,g⟩:=cB.B9 h hd;have e:=g.ints;subst e;refine⟨_,_,rfl,j,by rw[a.sc rfl];rfl,lF l,?_⟩;rw[a.sc rfl,B8];exact k _ H2 Z2 Qch Qaq (m.push (.bl _))
def aaq{l:At}(h1:Qje)(h2:Qhh)(hd:L3.B9 d=some (l.map .str))(hm:behindInMarks .In e2=false) :
  yW X CL b QgV δ (decide Qfc) δ2/\cL X CL b QgV δ (.sh (.bl (decide Qfc))) δ2:=by
 constructor
 .intro H Z σ ts vs Q S k;refine LD (uY yV dD dD hm) (h1 H Z σ ts vs _ S λv1 H1 Z1 f k1 m a=>h2 H1 Z1 σ ts vs _ m λv2 H2 Z2 c k2 j h=>?_);obtain⟨p,us,rfl,i,g⟩:=cB.B9 h hd;have e:=g.strs;subst e;refine⟨_,_,rfl,i,by rw[a.sc rfl];rfl,lE l,_,rfl,?_⟩;rw[a.sc rfl,B7];exact k H2 Z2 Qch Qaq j
 .intro H Z σ ts vs Q S k;refine cK (yU yV dD dD hm) (h1 H Z σ ts vs _ S λv1 H1 Z1 f k1 m a=>h2 H1 Z1 σ ts vs _ m λv2 H2 Z2 c k2 j h=>?_);obtain⟨p,us,rfl,i,g⟩:=cB.B9 h hd;have e:=g.strs;subst e;refine⟨_,_,rfl,i,by rw[a.sc rfl];rfl,lE l,?_⟩;rw[a.sc rfl,B7];exact k _ H2 Z2 Qch Qaq QhX
def ajU{l:At}(h1:Qje)(h2:Qhh)(hd:L3.B9 d=some (l.map .str))(hm:behindInMarks .NotIn e2=false) :
  yW X CL b QgL δ (!decide Qfc) δ2/\cL X CL b QgL δ (.sh (.bl (!decide Qfc))) δ2:=by
 constructor
 .intro H Z σ ts vs Q S k;refine LD (uY qg dD dD hm) (h1 H Z σ ts vs _ S λv1 H1 Z1 f k1 m a=>h2 H1 Z1 σ ts vs _ m λv2 H2 Z2 c k2 j h=>?_);obtain⟨p,us,rfl,i,g⟩:=cB.B9 h hd;have e:=g.strs;subst e;refine⟨_,_,rfl,i,by rw[a.sc rfl];rfl,lE l,_,rfl,?_⟩;rw[a.sc rfl,B7];exact k H2 Z2 Qch Qaq j
 .intro H Z σ ts vs Q S k;refine cK (yU qg dD dD hm) (h1 H Z σ ts vs _ S λv1 H1 Z1 f k1 m a=>h2 H1 Z1 σ ts vs _ m λv2 H2 Z2 c k2 j h=>?_);obtain⟨p,us,rfl,i,g⟩:=cB.B9 h hd;have e:=g.strs;subst e;refine⟨_,_,rfl,i,by rw[a.sc rfl];rfl,lE l,?_⟩;rw[a.sc rfl,B7];exact k _ H2 Z2 Qch Qaq QhX
variable{ds:BA}
def gi:Nv X CL b [] δ (([]:BA).map T.sh) δ:=bD
def aJ(h1:Qg3)(h2:Nv X CL b es δ1 Qa7 δ2)(hs:Qah:=by exact aS rfl):Nv X CL b Qae δ ((d::ds).map T.sh) δ2:=aO h1 h2 hs
theorem dN(h:Nv X CL b es δ (ds.map T.sh) δ1)(a:QbK):cL X CL b (.List es pos) δ (.lst Qa7) δ1:=dQ h W7
def HV(l:At):D.bS (l.map L3.D.str)=true:=eY Qde _
def eW(h:QiY):cL X CL b e δ (.sh QcK) δ1:=by
 have:=WM h
 rwa [T.gW,kC]at this
noncomputable def kD(h:QaH)(q:t.gW=d):cL X CL b e δ (.sh d) δ1:=q▸WM h
def aar(h:DD.bk δ):dh X CL b (.Break pos::gS) δ DD:=cE (ae5 h)
def apx(h:DD.ct δ):dh X CL b (.Continue pos::gS) δ DD:=cE (ajJ h)
noncomputable def wY{d2:L3.D}(h:QdH)(q:d=d2):dI X CL b e δ d2 δ1:=q▸h
noncomputable def aK{t2:T}(h:QaH)(q:t=t2):cL X CL b e δ t2 δ1:=q▸h
structure Pp(Z H Z' H':Hp):Prop where
 z:aB Z Z'
 h:aB H H'
 zh:aB Z' H'
 new:∀a o,Z' a=some o->Z a=none->H a=none
 tp:∀a o,H' a=some o->m5 o=true->Z' a=some o
theorem Pp.refl(zh:aB Z H)(tp:∀a o,H a=some o->m5 o=true->Z a=some o):Pp Z H Z H:=⟨.refl _,.refl _,zh,λa o q z=>W8,tp⟩
theorem Pp.tup{p:Addr}(zh:aB Z H)(tp:∀a o,H a=some o->m5 o=true->Z a=some o)(b:H p=none):Pp Z H (upd Z p Qbk) (upd H p Qbk):=by
 have c:=zh.free b;refine⟨aB.upd c,aB.upd b,λa o q=>?_,λa o q z=>?_,λa o q i=>?_⟩
 .by_cases e:a=p
  .subst e;rw[aR]at q ⊢;exact q
  .rw[aq e]at q ⊢;exact zh a o q
 .by_cases e:a=p
  .subst e;exact b
  .rw[aq e,z]at q;cases q
 .by_cases e:a=p
  .subst e;rw[aR]at q ⊢;exact q
  .rw[aq e]at q ⊢;exact tp a o q i
theorem bC.grow(S:Qan)(g:Pp Z H Z' H'):bC K CL b H' Z' δ σ ts vs:=by
 obtain⟨fp,gp,e,r,nd,k⟩:=S.rep;have old:=λa c=>(hV.1 c).elim (e.there a) (r.there a);have keep:∀a∈fp++gp,H' a=H a:=λa c=>by
  obtain⟨o,q⟩:=old a c;rw[q];exact g.h a o q
 refine⟨⟨fp,gp,e.mono g.z (λa c=>keep a (ik _ c)),r.mono g.z (λa c=>keep a (h5 _ c)),nd,λa c=>⟨?_,(k a c).2⟩⟩,S.bh.trans g.h,S.zz.trans g.z,g.zh,λa o q z=>?_,g.tp,S.tab⟩
 .cases q:Z' a with
  | none=>rfl
  | some o=>
   obtain⟨u,d⟩:=old a c;rw[g.new a o q (k a c).1]at d;cases d
 .cases e2:Z a with
  | none=>exact S.bh.free (g.new a o q e2)
  | some u=>
   have:=g.z a u e2;rw[q]at this;cases this;exact S.new a o e2 z
noncomputable def IT(δ:BB):Cc->BA->BB
 | i::is,d::ds=>IT (δ.set i Qcb) is ds
 | _,_=>δ
noncomputable def HW(σ:L2.St):Cc->BY->L2.St
 | i::is,v::vs=>HW (σ.set i Qax) is vs
 | _,_=>σ
theorem bC.sets{ps:BA}{ys:BY}:∀{is:Cc} {δ:BB} {σ:L2.St},bC K CL b H Z δ σ ts vs->au K CL Z ps ys->(∀i∈is,i<δ.length)->bC K CL b H Z (IT δ is ps) (HW σ is ys) ts vs:=by
 intro is
 induction is generalizing ps ys with
 | nil=>
  intro δ σ S r _;cases ps<;>cases ys<;>exact S
 | cons i is d=>
  intro δ σ S r a;cases r with
  | nil=>exact S
  | cons r c=>exact d ((S.push r).set (a i hU)) c (λj e=>by rw[m4];exact a j (hX _ e))
section
variable{ds:BA}
structure WT(X:Cx)(CL:BC)(b:Bx)(δ1:BB)(σ:L2.St)(ts:Bn)(vs:BY)(Z H:Hp)(ds:BA)(J:It)(H1:Hp):Prop where
 ex:∃Z1,aB Z Z1/\aB H H1/\bC X.K CL b H1 Z1 δ1 σ ts vs/\(∀i H2,aB Z1 H2->i<ds.length->J.go i H2) ∧
  (∀i Z2 H2 x H',aB Z1 Z2->aB Z2 H2->(∀a o,H2 a=some o->m5 o=true->Z2 a=some o)->i<ds.length->J.ph i H2 x H'->∃Z3 d,ds[i]? = some d/\Pp Z2 H2 Z3 H'/\cB X.K CL Z3 d x)/\(∀H2,aB Z1 H2->J.stop ds.length H2)
def ub(X:Cx)(CL:BC)(b:Bx)(tg e:Expr)(δ:BB)(ds:BA)(δ1:BB):Prop:=
 ∃a,PI X tg e a/\∀(H Z:Hp) (σ:L2.St) (ts:Bn) (vs:BY) (R:QfY),bC X.K CL b H Z δ σ ts vs->(∀J H1,WT X CL b δ1 σ ts vs Z H ds J H1->R J H1)->a σ H R
def Xt(h:nH X CL b tg iter δ ds δ1):ub X CL b tg iter δ ds δ1:=by
 obtain⟨f,pi,hw⟩:=h;refine⟨f,pi,λH Z σ ts vs R S k=>hw H Z σ ts vs R S λJ H1 zz=>?_⟩;obtain⟨Z1,us,a,k1,m,g,go,c,st⟩:=zz;refine k J H1 ⟨Z1,a,k1,m,go,λi Z2 H2 x H' s1 s2 tp hi j=>?_,st⟩;obtain⟨e,l⟩:=c i H2 x H' (s1.trans s2) hi j;subst e;obtain⟨d,hd,rd⟩:=g.xw l;exact⟨Z2,d,hd,.refl s2 tp,rd.mono s1⟩
def Ha(X:Cx)(CL:BC)(tg:Expr)(is:Cc)(parts:D->ES):Prop:=
 ∃t:TG,PG X tg t/\∀(Z H:Hp) (d:D) (ps:BA) (x:V) (σ:L2.St) (Q:L2.St->Hp->Prop),aB Z H->cB X.K CL Z d x->parts d=some ps->(∀ys,au X.K CL Z ps ys->Q (HW σ is ys) H)->t x σ H Q
noncomputable def part1(d:D):ES:=some [d]
noncomputable def part2:D->ES
 | .tup [a,c]=>some [a,c]
 | _=>none
theorem acp{d:D}{ps:BA}(h:part2 d=some ps):∃d1 d2,d=.tup [d1,d2]/\ps=[d1,d2]:=by
 unfold part2 at h;split at h
 .grind
 .cases h
theorem WU{d:D}{ps:BA}{x:V}{Q:L2.St->Hp->Prop}(zh:aB Z H)(r:cB K CL Z d x)(e:part2 d=some ps)(k:∀ys,au K CL Z ps ys->Q (HW σ [i,j] ys) H):RY K 2 (OA (Nh i) (OA (Nh j) Sa)) x σ H Q:=by
 obtain⟨d1,d2,rfl,rfl⟩:=acp e;cases r with
 | tup f a=>
  cases a with
  | cons c a=>
   cases a with
   | cons b a=>
    cases a;exact⟨_,_,rfl,aB.pw zh f,rfl,_,_,rfl,_,_,rfl,rfl,k _ (.cons c (.cons b .nil))⟩
def afi{px:Pos}(a:QbX)(n:QcT):Ha X CL (.Name x px) [i] part1:=
 ⟨ _,uX a n.hi n.loc n.hf,λZ H d ps x σ Q zh r e k=>by
  cases e;exact k [x] (.cons r .nil)⟩
def aat{k:Nat}{y:Str}{px py pt:Pos}(a:QbX)(f:QaC)(n:QcT)(m:Ln X j y)(hs:(assignEach [.Name x px,.Name y py] X.env).map (·.2)=assign (.Name x px) X.env::(assignEach [.Name y py] X.env).map (·.2):=by rfl)(g:(assignEach [.Name y py] X.env).map (·.2)=assign QfN X.env::(assignEach [] X.env).map (·.2):=by rfl)
  (c:(assignEach [.Name x px,.Name y py] X.env).length=2:=by rfl) (b:(assignEach [.Name x px,.Name y py] X.env).findIdx? (·.1)=none:=by rfl):Ha X CL (.Tuple [.Name x px,.Name y py] k pt) [i,j] part2:=
 ⟨ _,aoF f (TF (uX a n.hi n.loc n.hf) (TF (uX a m.hi m.loc m.hf) ajt g) hs) c b,λZ H d ps x σ Q zh r e k=>WU zh r e k⟩
theorem ajV{D:gU}(is:Cc)(parts:L3.D->ES)(P:QfT)(h:Qft)(n:Ha X CL tg is parts)(h0:P 0 δ1)(F:∀j δ,P j δ->∀i∈is,i<δ.length)
  (hs:∀j d δ,ds[j]? = some d->P j δ->∃ps,parts d=some ps/\dh X CL b gS (IT δ is ps) {nx:=P QP,rt:=D.rt,bk:=D.nx,ct:=P QP}) (hd:∀δ,P ds.length δ->D.nx δ)
  (C:QgS) (G:QaC) (B:Qcn:=by intro _;rfl) :
  WL X CL b (.For tg iter gS [] pos) δ D:=λH Z σ ts vs E S M=>by
 obtain⟨O,pi,hw⟩:=h;obtain⟨t,pg,n⟩:=n;refine qP (aez C G pi pg n4 B) (hw H Z σ ts vs _ S λJ H1 zz=>?_);obtain⟨Z1,f,k1,N,go,u,st⟩:=zz;refine⟨λj m σ H2=>m=ds.length-j/\j<=ds.length/\∃Z2 δ2,aB Z1 Z2/\bC X.K CL b H2 Z2 δ2 σ ts vs/\P j δ2,⟨_,rfl,i8 _,Z1,δ1,.refl _,N,h0⟩,?_⟩;rintro j m σ H2 ⟨rfl,R,Z2,δ2,s,c,p2⟩;by_cases l:j<ds.length
 .refine .inr ⟨go j H2 QfZ l,_,λσ' H' h=>⟨ _,We,rfl,l,h⟩,λy H' x=>?_⟩;obtain⟨Z3,d,p,q,rd⟩:=u j Z2 H2 y H' s c.zh c.tp l x;obtain⟨ps,o,I⟩:=hs j d δ2 p p2;have r:=c.grow q;refine n Z3 H' d ps y σ _ r.zh rd o λys g=>?_;have L:=r.sets g (F j δ2 p2);have s3:=s.trans q.z;exact I _ Z3 _ ts vs _ L ⟨λδ' σ' H' Z' s' a k=>⟨Z',δ',s3.trans s',a,k⟩,λt v H' Z' δ' σ' s' a k=>M.rt t v H' Z' δ' σ' (f.trans (s3.trans s')) a k,λδ' σ' H' Z' s' a k=>M.nx δ' σ' H' Z' (f.trans (s3.trans s')) a k,λδ' σ' H' Z' s' a k=>⟨Z',δ',s3.trans s',a,k⟩⟩
 .have e:j=ds.length:=by lia
  subst e;exact .inl ⟨st H2 QfZ,M.nx δ2 σ H2 Z2 (f.trans s) c (hd δ2 p2)⟩
def apy{D:gU}{is:Cc}{parts:L3.D->ES}(g:Gx X)(a:Ha X CL tg is parts)(P:QfT)(h:Qft)(h0:P 0 δ1)(e:∀j δ,P j δ->∀i∈is,i<δ.length)
  (hs:∀j d δ,ds[j]? = some d->P j δ->∃ps,parts d=some ps/\dh X CL b body (IT δ is ps) {nx:=P QP,rt:=D.rt,bk:=λδ2=>dh X CL b gS δ2 D,ct:=P QP}) (hd:∀δ,P ds.length δ->dh X CL b gS δ D) (c:Qcn:=by intro _;rfl) :
  dh X CL b (.For tg iter body [] pos::gS) δ D:=
 cE (ajV is _ P h a h0 e hs hd g.xe g.calm c)
end
structure vn(X:Cx)(scope:Scope)(xs:At)(Nc:At)(ix:Cc):Prop where
 kind:scope.kind=.function
 DE:∀y∈scope.names,y.2 ≠ .cell
 nd:Nc.Nodup
 names:∀y∈scope.names,y.2=.local->scope.names.lookup y.1=some .local
 own:∀x∈xs,scope.names.lookup x=some .local
 frees:∀y∈scope.names,y.2=.free->scope.names.lookup y.1=some .free/\QkZ
 hd:Nc=xs++ix.filterMap (X.N[·]?)
 so:∀i∈ix,∃y,X.N[i]? = some y/\scope.names.lookup y=some .free
noncomputable def nr(σ:L2.St)(ix:Cc)(os:Qge):L2.St:=os++ix.map λi=>(σ[i]?).getD none
variable{xs:At}
theorem Uc(sc:QdK)(I:QE)(x:∀b∈fp,qf X pins H b/\b<s.heap.objs.size){h':Heap}{m:Bz}{tk:Nat}
  (Z:h'.Ns s.heap.objs.size m) (d:∀b o,s.heap.get? b=some o->h'.get? b=some o) :
  Inv Qlr [] (nr σ ix (List.replicate xs.length none)) H {s with heap:=h',toks:=tk}:=by
 have frees:∀y∈scope.names,y.2=.free->∃c,X.env.cells.lookup y.1=some c:=λy J e=>I.ok.has y.1 (sc.frees y J e).2;have sub:∀{y:Str} {c:Addr},(fq X.env scope.names []).lookup y=some c->X.env.cells.lookup y=some c:=λ{y c} e=>vg frees (λ_ _ z=>by cases z) e;have hlen:(nr σ ix (List.replicate xs.length none)).length=Nc.length:=by
  have all:∀l:Cc,(∀i∈l,∃y,X.N[i]? = some y/\scope.names.lookup y=some .free)->(l.filterMap (X.N[·]?)).length=l.length:=by
   intro l
   induction l with
   | nil=>intro _;rfl
   | cons i r G=>
    intro h;obtain⟨y,e,_⟩:=h i hU;rw[mB,e];show _+1=_+1;rw[G λj C=>h j (hX _ C)]
  unfold nr;rw[sc.hd,j2,j2,hP,ti,all ix sc.so]
 have C0:s.heap.get? s.heap.objs.size=none:=Heap.get?_none_of_le (hW _);refine⟨⟨I.ok.mod,sc.kind,I.ok.glob,I.ok.blt,hW _,λy z c h1 h2=>I.ok.inj y z c (sub h1) (sub h2),λy J=>?_,λy c hf _=>(by cases (show false=true from hf)),I.ok.hd,I.ok.frames,.inl rfl,λb g=>⟨kr (x b g).2,λy c e=>(x b g).1.2.2.2.2.1 y c (sub e)⟩,I.bs,kq I.ok.p5 I.sz,λb o e g=>?_,λb g hf=>?_,I.stack,I.OU⟩,
  rfl,I.bare,Un.kept d,⟨m,Z,λi y v h1 h2 h3=>?_⟩,λy c e=>?_,I.gD.fresh (hW _),λy c e=>I.xu y c (sub e),λp W=>absurd (show p∈([]:BM) from W) Wp,I.gD.kept d,hlen⟩
 .
  have B:(relabel scope X.env).names.lookup y=some .cell\/(relabel scope X.env).names.lookup y=some .free:=J;cases e:scope.names.lookup y with
  | none=>
   have:=pY (env:=X.env) e;obtain q|q:=B<;>(rw[show(relabel scope X.env).names.lookup y=none from this]at q;cases q)
  | some k=>
   have q:=jC (env:=X.env) e;have d:k=.free:=by
    by_cases d:k=.free
    .exact d
    .have g:(k==NameKind.free)=false:=by simpa using d
     rw[cq (by rw[g];simp)]at q;have V:k ≠ .cell:=λz=>by
      subst z;exact sc.DE _ (r0 e) rfl
     obtain z|z:=B
     .rw[show(relabel scope X.env).names.lookup y=some k from q]at z;exact absurd (k4 z) V
     .rw[show(relabel scope X.env).names.lookup y=some k from q]at z;exact absurd (k4 z) d
   subst d;exact qR e
 .
  rcases(x b g).1.2.2.2.1 with z|z
  .exact I.ok.FA b o e z
  .exact absurd (l6 (ij e) (kq I.ok.p5 z)) (tq _)
 .obtain z|z:=hR.1 (I.OS b hf)
  .exact(x b g).1.2.1 z
  .exact(x b g).1.2.2.1 z
 .
  unfold nr at h2;by_cases hi:i<xs.length
  .rw[OM (by rw[ti];exact hi),OE,hO hi]at h2;cases h2
  .obtain⟨n,rfl⟩:∃n,i=xs.length+n:=⟨i-xs.length,We⟩;rw[LB (by rw[ti];lia),ti,Nat.add_sub_cancel_left,la]at h2;cases F:ix[n]? with
   | none=>rw[F]at h2;cases h2
   | some j=>
    rw[F]at h2;have t:(σ[j]?).getD none=some v:=k4 h2;have C:σ[j]? = some Qax:=by
     cases q:σ[j]? with
     | none=>rw[q]at t;cases t
     | some o=>rw[q]at t;exact congrArg some t
    obtain⟨f,A,w⟩:=sc.so j (l7 F);have M:Nc[xs.length+n]? = some f:=by
     have all:∀(l:Cc) (i:Nat),(∀j∈l,∃y,X.N[j]? = some y/\scope.names.lookup y=some .free)->l[i]? = some j->(l.filterMap (X.N[·]?))[i]? = some f:=by
      intro l
      induction l with
      | nil=>intro i _ h;simp at h
      | cons a r G=>
       intro i h hi;obtain⟨ya,O,_⟩:=h a hU;rw[mB,O];cases i with
       | zero=>
        simp at hi;subst hi;rw[A]at O;cases O;rfl
       | succ i=>exact G i (λj C=>h j (List.mem_cons_of_mem _ C)) (by simpa using hi)
     rw[sc.hd,LB We,Nat.add_sub_cancel_left];exact all ix n sc.so F
    have ey:f=y:=by
     have E:Nc[xs.length+n]? = some y:=h1;rw[M]at E;exact k4 E
    subst ey;have S:=(sc.frees (f,.free) (r0 w) rfl).2;have P:tJ X.env.scope f:=S.elim (λz=>.inr QcQ) (λz=>.inr (.inr z));obtain⟨m0,Y,L⟩:=I.loc;obtain⟨u,U,lk⟩:=L j f v A C P;refine⟨u,U,?_⟩;obtain⟨kk,_⟩|⟨_,c,hc,T⟩:=lk
    .obtain z|z:=S
     .rw[kk]at z;cases z
     .rw[kk]at z;cases z
    .obtain⟨R,D⟩:=qR (env:=X.env) (cs:=[]) w;have:R=c:=by
      have:=sub D;rw[hc]at this;exact(k4 this).symm
     subst this;obtain⟨o,K,hd⟩:=T;refine .inr ⟨?_,R,D,o,d _ _ K,hd⟩;have q:=jC (env:=X.env) w;show(relabel scope X.env).names.lookup f=some .cell\/(relabel scope X.env).names.lookup f=some .free;rw[show(relabel scope X.env).names.lookup f=_ from q];split
     .exact .inl rfl
     .exact .inr rfl
 .obtain⟨v,o,K,hd⟩:=I.cell y c (sub e);exact⟨v,o,d _ _ K,hd⟩
def N0(X:Cx)(tg elt:Expr)(ifs:Cf)(n:Nat)(σ:L2.St)(ix:Cc)(D:Addr)(N:Hp->Prop)(e:V)(os:Qge)(g:Hp):Prop:=
 ∃t:TG,PG X tg t/\t e (nr σ ix os) g λa f=>∃b,b.length=n/\a=nr σ ix b/\IM X ifs a f λok d=>
  if ok=true then Lz X elt a d λy c=>∃acc,c D=some (.lst acc)/\acc.length<sizeLine/\N (upd c D (.lst (acc++[y]))) else N d
variable{it:Addr}{E:Bi}
def AI{J:It}{tn:QhK}{G:Addr->Hp->Prop}{RR:QiG}
  (sc:QdK) (hc:QaC) (I:QE) (l:Turn X.prog X.w X.K tg J fp it tn) (st:tn 0 s.heap) (hf:∀b∈fp,qf X pins H b)
  (loop:∀D,H D=none->∃W:Nat->Nat->Hp->Prop,(∃m,W 0 m (upd H D Qfe))/\∀i m H2,W i m H2->(J.stop i H2/\G D H2) ∨
   (J.go i H2/\∃N:Hp->Prop,(∀H',N H'->∃m',m'<m/\W (i+1) m' H')/\∀L H3,J.ph i H2 L H3->∀C s0 H0 f0 os,os.length=xs.length->N0 QgZ tg elt ifs xs.length σ ix D N L os H3))
  (aI:∀D C s' H',(∃m,s'.heap.Ns C m)->(∃o,s'.heap.get? C=some o/\∀v,o.data ≠ .cell v)->H' C=none->(C≠X.env.locals/\C∉X.fs/\X.h9.heap.objs.size<=C/\(∀y c,X.env.cells.lookup y=some c->c≠C)/\∀q∈X.pn++pins,q.1≠C)->(∀h',Heap.SameBut C s'.heap h'->Inv X pins σ H' {s' with heap:=h'})->G D H'->RR Qeg C (.ok .next) s') :
  wpAny QA X.A Qf7 (λacc O=>wpAny QA X.A Qio (λUd M=>
   codeAny QA X.A (.compStart QdB 0 QbB acc {Ud with scope:=relabel scope X.env}) (RR acc Ud.locals) M) E O) E s:=by
 refine wpAny_newObj_type ?_;have F:Inv X pins σ (upd H s.heap.objs.size Qfe) {s with heap:=s.heap.push {cls:=.type "list",dict:=none,data:=.seq ([]:B2).toArray}}:=
  I.laid (t':=s.toks) Qj1 (hW _) ⟨by show 0<=sizeLine;exact i8 _,[],0,.nil,lG _ rfl⟩
 have hD:H s.heap.objs.size=none:=I.gD.fresh (hW _);obtain⟨W,⟨m0,w0⟩,turn⟩:=loop _ hD;have j:∀b∈fp,qf X pins Qil b/\b<(s.heap.push {cls:=.type "list",dict:=none,data:=.seq ([]:B2).toArray}).objs.size:=λb a=>by
  obtain⟨f0,f1⟩:=hf b a;obtain⟨o,ho,_⟩:=l.obj 0 _ st b a;have nR:=ij ho;refine⟨⟨by rw[aq (kr nR)];exact f0,f1⟩,?_⟩;rw[Heap.size_push];exact Nat.lt_succ_of_lt nR
 have R:tn 0 (s.heap.push {cls:=.type "list",dict:=none,data:=.seq ([]:B2).toArray}):=l.keep 0 _ _ st λb _ o e=>ka _ e;generalize ae:({s with heap:=s.heap.push {cls:=.type "list",dict:=none,data:=.seq ([]:B2).toArray}}:Shared)=s3 at F ⊢;have aw:s3.heap=s.heap.push {cls:=.type "list",dict:=none,data:=.seq ([]:B2).toArray}:=by rw[← ae]
 rw[← aw]at j R;refine wpAny_newFunctionEnv sc.DE (by intro y hy;simp at hy) (λh ba a0=>?_) sc.kind;have old:∀b o,s3.heap.get? b=some o->h.get? b=some o:=λb o e=>(a0.2 b Qf9).trans (ka _ e);have J0:=Uc (tk:=s3.toks+([]:D1).length) sc F j ba old;have P:tn 0 h:=l.keep 0 _ _ R λb _ o e=>old b o e;have V:∀s4:Shared,s4={s3 with heap:=h,toks:=s3.toks+([]:D1).length}->codeAny QA X.A (.compLoop QdB 0 QbB Qex (compEnvC scope QbH s3.heap.objs.size X.env)) (RR Qex s3.heap.objs.size) s4:=by
  rintro s4 rfl;have f:∀{H':Hp},(∀b∈fp,H' b=none)->∀b∈fp,qf Qek [] H' b:=λ{H'} hn b a=>by
   obtain⟨⟨f0,f1,f2,f3,f4,f5⟩,nR⟩:=j b a;refine⟨hn b a,kr nR,λz=>?_,.inl a,λy c e=>f4 y c (vg (λy hy e=>I.ok.has y.1 (sc.frees y hy e).2) (λ_ _ z=>by cases z) e),λp hp=>absurd (show p∈([]:BM) from hp) Wp⟩;obtain q|q:=hR.1 (F.OS b z)
   .exact f1 q
   .exact f2 q
  refine O9 (λn s'=>∃i o H',o.length=xs.length/\Inv Qek [] (nr σ ix o) H' s'/\tn i s'.heap/\(∀b∈fp,H' b=none)/\W i n H') ?_ m0 ⟨0,_,_,ti,J0,P,λb a=>(j b a).1.1,w0⟩;rintro n s5 ⟨i,o5,H5,ab,I5,ZS,U,w5⟩;obtain⟨stop,g⟩|⟨go,N,hN,step⟩:=turn i n H5 w5
  .refine gE (l.done Qek rfl rfl rfl hc i [] s5 _ H5 _ I5 (f U) ZS stop) λr s6 zz=>?_;obtain⟨hr,I6⟩:=zz;subst hr;obtain⟨m6,T,_⟩:=I6.loc;obtain⟨oc,bg,bj,ar,ax,_⟩:=id T;have k:=F.Lx (hW s3.heap.objs.size) (H':=λ_=>none) rfl;refine aI _ _ s6 H5 ⟨m6,T⟩ ⟨oc,ar,λv z=>by rw[ax]at z;cases z⟩ I6.free ⟨k.2.1,k.2.2.1,?_,k.2.2.2.2.1,k.2.2.2.2.2⟩ (λh' ag=>acg F (λb a=>(j b a).1) I6 ag) g;exact F.sz
  .refine gE (l.item Qek rfl rfl rfl hc i [] s5 _ H5 _ I5 (f U) ZS go) λr s6 zz=>?_;obtain⟨u,hr,h6⟩:=zz;subst hr;refine gE h6 λ_ s7 zz=>?_;obtain⟨L,H7,I7,r7,y7,B,aT⟩:=zz;have bb:=I7.pinned (f aT) (l.obj _ _ B);obtain⟨t,hg,ht⟩:=step L _ y7 s3.heap.objs.size s3 Qil fp o5 ab;refine gE (hg _ s7 _ H7 L u _ bb r7 ht) λ_ s8 zz=>?_;obtain⟨bc,H8,I8,S,aa,e8,h8⟩:=zz;subst e8;refine gE (ae7 I8 h8 rfl) λok s9 zz=>?_;obtain⟨H9,I9,Z⟩:=zz;have again:∀{x:Hp} {sa:Qr},Inv Qek ([]++Ht fp s7.heap) (nr σ ix S) x sa->N x->∃m,m<n/\∃i o H',o.length=xs.length/\Inv Qek [] (nr σ ix o) H' sa/\tn i sa.heap/\(∀b∈fp,H' b=none)/\W i m H':=λ{x sa} Y na=>by
    obtain⟨m',hm,wa⟩:=hN x na;refine⟨m',hm,i+1,S,x,aa,Y.xA,l.keep _ _ _ B λb a o e=>(Y.pin (b,o) (h5 _ (h5 _ (mZ a e)))).1,λb a=>?_,wa⟩;obtain⟨o,e,d⟩:=l.obj _ _ B b a;exact(Y.pin (b,o) (h5 _ (h5 _ (mZ a e)))).2.1
   cases ok with
   | false=>
    rw[cq me]at Z ⊢;exact again I9 Z
   | true=>
    rw[hO rfl]at Z ⊢;refine gE (Z _ s9 I9) λv sa zz=>?_;obtain⟨y,x,Y,ra,acc,F3,hlen,na⟩:=zz;refine gE (DC (X:=c7 X scope Nc s3.heap.objs.size s3 Qil fp) _ sa _ x Qex [y] Qex [v] (λ_ Hb=>Hb=upd x s.heap.objs.size (.lst (acc++[y]))) Y rfl (.cons ra .nil) ⟨_,acc,y,rfl,rfl,F3,hlen,rfl⟩) λ_ sb zz=>?_;obtain⟨_,Hb,Ib,_,eb⟩:=zz;subst eb;exact again Ib na
 exact codeAny_compStart_list (V _ rfl) (l.self _ 0 _ _ _ P (V _ rfl))
noncomputable def xp(ps:BA):BB:=ps.map λp=>some (.sh p)
theorem NB:∀{ys:BY} {os:Qge} {pre r:L2.St},os.length=ys.length->HW (pre++(os++r)) (List.range' pre.length ys.length) ys=pre++(ys.map some++r)
 | [],os,pre,r,h=>by
  have:=List.length_eq_zero_iff.1 h;subst this;rfl
 | y::ys,os,pre,r,h=>by
  match os,h with
  | o::os,h=>
   show HW _ _ ys=_;have:=NB (pre:=pre++[some y]) (r:=r) (by simpa using h);simp_all
def ajW:∀{ps:BA} {ys:BY} {δc:BB} {a:L2.St},au K CL Z ps ys->f6 K CL H Z δc a []->f6 K CL H Z Qe4 (ys.map some++a) []:=λ{ps ys δc a} h e=>
 au.ind (P:=λps ys=>f6 K CL H Z Qe4 (ys.map some++a) []) e (λr _ i=>.cons (.sh r) i) h
section
variable{W1:Hp}{δc:BB}{J:It}{ds:BA}{p:D->Bool}{g:D->T}{parts:D->ES}
def DJ(X:Cx)(CL:BC)(scope:Scope)(Nc:At)(n:Nat)(tg:Expr)(parts:D->ES)(ifs:Cf)(elt:Expr)(δc:BB)(ds:BA)(p:D->Bool)(g:D->T):Prop:=
 ∀C s0 a f0 b,Ha Qju CL tg (List.range' 0 n) parts/\∀d,d∈ds->∃ps,parts d=some ps/\ps.length=n/\LL Qju CL b ifs Qe4 (p d)/\(p d=true->cL Qju CL b elt Qe4 (g d) Qe4)
structure GW(K:Frag)(CL:BC)(H W1:Hp)(D:Addr)(l:Bn)(k:Nat)(H2 Z2:Hp)(Wd:BY)(fp:BS):Prop where
 a1:aB H H2
 a2:aB W1 Z2
 a3:aB Z2 H2
 a4:Z2 D=none
 a5:∀a o,Z2 a=some o->W1 a=none->H a=none
 a6:∀a o,H2 a=some o->m5 o=true->Z2 a=some o
 a7:H2 D=some (.lst Wd)
 a8:aW K CL H2 Z2 l Wd fp
 a9:fp.Nodup
 b1:D∉fp
 b2:∀a∈fp,Z2 a=none/\H a=none
 b3:Wd.length<=k
theorem AJ(S:Qjn)(zw:aB Z W1)(wh:aB W1 H)(tp:∀a o,H a=some o->m5 o=true->W1 a=some o)
  (a0:∀H',f6 X.K CL H' W1 δc (ix.map λi=>(σ[i]?).getD none) []) (inner:DJ X CL scope Nc n tg parts ifs elt δc ds p g)
  (Fb:∀i H2,aB W1 H2->i<ds.length->J.go i H2)
  (hy:∀i Z2 H2 x H',aB W1 Z2->aB Z2 H2->(∀a o,H2 a=some o->m5 o=true->Z2 a=some o)->i<ds.length->J.ph i H2 x H'->∃Z3 d,ds[i]? = some d/\Pp Z2 H2 Z3 H'/\cB X.K CL Z3 d x)
  (pV:∀H2,aB W1 H2->J.stop ds.length H2) (hlen:QbK) (c:W1=Z\/∀d∈ds,(g d).clean=true) :
  ∀D,H D=none->∃W:Nat->Nat->Hp->Prop,(∃m,W 0 m (upd H D Qfe))/\∀i m H2,W i m H2->(J.stop i H2/\∃Z2,aB Z Z2/\aB H H2/\bC X.K CL b H2 Z2 δ σ (.lst ((ds.filter p).map g)::ts) Qdl) ∨
   (J.go i H2/\∃N:Hp->Prop,(∀H',N H'->∃m',m'<m/\W (i+1) m' H')/\∀V k,J.ph i H2 V k->∀C s0 H0 f0 os,os.length=n->N0 QgZ tg elt ifs n σ ix D N V os k):=by
 intro D hD;have wD:W1 D=none:=wh.free hD;refine⟨λi m H2=>m=ds.length-i/\i<=ds.length/\∃Z2 Wd fp,GW X.K CL H W1 D (((ds.take i).filter p).map g) i H2 Z2 Wd fp,⟨ds.length,rfl,i8 _,W1,[],[],aB.upd hD,.refl _,wh.trans (aB.upd hD),wD,λa o q z=>?_,λa o q i=>?_,aR,.nil,rh,Wp,Wp,Wp⟩,?_⟩
 .rw[q]at z;cases z
 .by_cases f:a=D
  .subst f;rw[aR]at q;cases q;cases i
  .rw[aq f]at q;exact tp a o q i
 .rintro i m H2 ⟨rfl,hi,Z2,Wd,fp,hh,R,zh,zD,nw,I,E,T,nd,nD,own,bb⟩;by_cases nR:i<ds.length
  .refine .inr ⟨Fb i H2 (R.trans zh) nR,λH'=>∃Z2 Wd fp,GW X.K CL H W1 D (((ds.take (i+1)).filter p).map g) (i+1) H' Z2 Wd fp,λH' h=>⟨ds.length-(i+1),We,rfl,nR,h⟩,λV k y C s0 H0 f0 os aI=>?_⟩;obtain⟨Z3,d,hd,w,rd⟩:=hy i Z2 H2 V k R zh I nR y;have O:∀a,Z2 a=none->(∃o,H2 a=some o)->Z3 a=none:=λa e ⟨o,e2⟩=>by
    cases q:Z3 a with
    | none=>rfl
    | some u=>rw[w.new a u q e]at e2;cases e2
   have aa:∀a o,Z3 a=some o->W1 a=none->H a=none:=λa o q z=>by
    cases e:Z2 a with
    | none=>exact hh.free (w.new a o q e)
    | some u=>
     have:=w.z a u e;rw[q]at this;cases this;exact nw a o e z
   have l:aW X.K CL k Z3 (((ds.take i).filter p).map g) Wd fp:=T.mono w.z λa f=>by
    obtain⟨o,e⟩:=T.there a f;rw[e];exact w.h a o e
   have B:∀a∈fp,Z3 a=none/\H a=none:=λa f=>⟨O a (own a f).1 (T.there a f),(own a f).2⟩;have G:Z3 D=none:=O D zD ⟨_,E⟩;have j:k D=some (.lst Wd):=w.h D _ E;have s:=hh.trans w.h;have A:=R.trans w.z;have U:=w.zh;have ar:=w.tp;clear own nw T zD E hh R zh I w O;have LN:d∈ds:=l7 hd;have z8:ds.take (i+1)=ds.take i++[d]:=by rw[rr,hd];rfl
   obtain⟨iq,GD⟩:=inner C s0 H0 f0 ⟨k,Z3⟩;obtain⟨ps,ax,hpl,it,ie⟩:=GD d LN;obtain⟨t,pg,ht⟩:=iq;refine⟨t,pg,ht Z3 k d ps V _ _ U rd ax λys Y=>?_⟩;have M:ys.length=n:=by rw[← Y.length];exact hpl
   have es:HW (nr σ ix os) (List.range' 0 n) ys=nr σ ix (ys.map some):=by
    have:=NB (ys:=ys) (os:=os) (pre:=[]) (r:=ix.map λi=>(σ[i]?).getD none) (by rw[aI,M]);rw[M]at this;exact this
   refine⟨ys.map some,by rw[hP];exact M,es,?_⟩;rw[es];have S0:bC X.K CL ⟨k,Z3⟩ k Z3 Qe4 (nr σ ix (ys.map some)) [] []:=
    ⟨⟨[],[],ajW Y ((a0 k).mono A λa f=>by cases f),.nil,rh,λa f=>by cases f⟩,.refl _,.refl _,U,λa o q z=>(by have z':Z3 a=none:=z;rw[show Z3 a=some o from q]at z';cases z'),ar,(S.WH.mono zw).mono A⟩
   refine it.sem S0 λH4 Z4 P L S4=>?_;have ba:∀a∈fp,H4 a=k a:=λa f=>by
    obtain⟨o,e⟩:=l.there a f;rw[e];exact L a o e
   have ag:∀a,Z3 a=none->(∃o,k a=some o)->Z4 a=none:=λa e ⟨o,e2⟩=>by
    cases q:Z4 a with
    | none=>rfl
    | some u=>
     have:=S4.new a u q e;rw[show k a=none from this]at e2;cases e2
   cases hp:p d with
   | false=>
    refine T3 ⟨Z4,Wd,fp,s.trans L,A.trans P,S4.zh,ag D G ⟨_,j⟩,λa o q z=>?_,S4.tp,L D _ j,?_,nd,nD,λa f=>⟨ag a (B a f).1 (l.there a f),(B a f).2⟩,We⟩
    .cases e:Z3 a with
     | none=>exact s.free (S4.new a o q e)
     | some u=>
      have:=P a u e;rw[q]at this;cases this;exact aa a o e z
    .rw[z8,nv,G1 (by simp[hp]),vx,iz];exact l.mono P ba
   | true=>
    refine O1 ((ie hp) H4 Z4 (nr σ ix (ys.map some)) [] [] _ S4 λyv H5 Z5 z5 k5 S5=>⟨Wd,k5 D _ (L D _ j),We,?_⟩);obtain⟨f1,g1,e1,r1,ab,ae⟩:=S5.rep;cases r1 with
    | @cons _ _ _ _ fy fn ry rn=>
     cases rn;rw[iz]at ab ae;have aw:fy.Nodup:=(ko.1 ab).2.1;have F:∀a∈fy,Z5 a=none/\k a=none:=λa f=>ae a (h5 _ f);have WV:∀a,Z3 a=none->(∃o,k a=some o)->Z5 a=none:=λa e ⟨o,e2⟩=>by
      cases q:Z5 a with
      | none=>rfl
      | some u=>
       have:=S5.new a u q e;rw[show k a=none from this]at e2;cases e2
     have yD:∀a∈fy,a≠D:=λa f e=>by
      subst e;rw[(F a f).2]at j;cases j
     have bc:H5 D=some (.lst Wd):=k5 D _ (L D _ j);have sD:aB H (upd H5 D (.lst (Wd++[yv]))):=λa o q=>by
      rw[aq (aP q hD)];exact k5 a o (L a o (s a o q))
     refine⟨Z5,Wd++[yv],fp++fy,sD,A.trans (P.trans z5),λa o q=>?_,WV D G ⟨_,j⟩,λa o q z=>?_,λa o q im=>?_,aR,?_,?_,?_,λa f=>?_,?_⟩
     .rw[aq (aP q (WV D G ⟨_,j⟩))];exact S5.zh a o q
     .cases e:Z3 a with
      | none=>exact s.free (S5.new a o q e)
      | some u=>
       have:=z5 a u (P a u e);rw[q]at this;cases this;exact aa a o e z
     .by_cases f:a=D
      .subst f;rw[aR]at q;cases q;cases im
      .rw[aq f]at q;exact S5.tp a o q im
     .rw[z8,nv,vu hp,vx,js];refine aW.app (l.mono (P.trans z5) λa f=>?_) (by
       have:=aW.cons (fp:=fy) (gp:=[]) (ry.mono Qb λa f=>aq (yD a f)) (aW.nil (H:=upd H5 D (.lst (Wd++[yv]))) (Z:=Z5))
       rwa [iz]at this)
      have:a≠D:=λe=>nD (e▸f);rw[aq this];obtain⟨o,e⟩:=l.there a f;rw[e];exact k5 a o (L a o e)
     .refine ko.2 ⟨nd,aw,λa f a' aT e=>?_⟩;subst e;obtain⟨o,e⟩:=l.there a f;rw[(F a aT).2]at e;cases e
     .intro h;obtain h|h:=hV.1 h
      .exact nD h
      .exact yD D h rfl
     .obtain h|h:=hV.1 f
      .exact⟨WV a (B a h).1 (l.there a h),(B a h).2⟩
      .exact⟨(F a h).1,s.free (F a h).2⟩
     .rw[j2,vr];lia
  .have e:i=ds.length:=by lia
   subst e;refine .inl ⟨pV H2 (R.trans zh),?_⟩;rw[lL]at T;obtain⟨Z',z',S'⟩:=S.back (H':=H2) (W:=W1) (W':=Z2) (t:=.lst ((ds.filter p).map g)) (v:=.ref D) (fp:=D::fp) hh zw R zh nw I (.lst E T) (ma.2 ⟨nD,nd⟩) (λa f=>by
    obtain h|h:=hR.1 f
    .subst h;exact⟨zD,hD⟩
    .exact own a h) (c.imp id λc=>by
     rw[yX];exact HK λd hd=>c d (j1.1 hd).1)
   exact⟨Z',z',hh,S'⟩
end
variable{δc:BB}{ds:BA}{p:D->Bool}{g:D->T}{parts:D->ES}
def NC{J:It}{tn:QhK}{H1:Hp}{RR:QiG}
  (sc:QdK) (G:QaC) (C:WT X CL b δ1 σ ts vs Z H ds J H1) (I:L2.Inv X pins σ H1 s) (M:Turn X.prog X.w X.K tg J fp it tn) (st:tn 0 s.heap) (hf:∀b∈fp,qf X pins H1 b)
  (L:(δc=HL δ1 ix/\∀d∈ds,(g d).clean=true)\/δc=HM δ1 ix) (inner:Qgi) (hlen:QbK)
  (k:∀D C s' H' Z',(∃m,s'.heap.Ns C m)->(∃o,s'.heap.get? C=some o/\∀v,o.data ≠ .cell v)->H' C=none->(C≠X.env.locals/\C∉X.fs/\X.h9.heap.objs.size<=C/\(∀y c,X.env.cells.lookup y=some c->c≠C)/\∀q∈X.pn++pins,q.1≠C)->(∀h',Heap.SameBut C s'.heap h'->L2.Inv X pins σ H' {s' with heap:=h'})->aB Z Z'->aB H H'->bC X.K CL b H' Z' δ1 σ (.lst ((ds.filter p).map g)::ts) Qdl->RR Qeg C (.ok .next) s') :
  wpAny QA X.A Qf7 (λacc h=>wpAny QA X.A Qio (λt f=>
   codeAny QA X.A (.compStart QdB 0 QbB acc {t with scope:=relabel scope X.env}) (RR acc t.locals) f) E h) E s:=by
 obtain⟨Z1,x,k1,a,go,l,j⟩:=C.ex;have lp:∀D,H1 D=none->∃W:Nat->Nat->Hp->Prop,(∃m,W 0 m (upd H1 D Qfe))/\∀i m H2,W i m H2->(J.stop i H2/\∃Z2,aB Z1 Z2/\aB H1 H2/\bC X.K CL b H2 Z2 δ1 σ (.lst ((ds.filter p).map g)::ts) Qdl) ∨
   (J.go i H2/\∃N:Hp->Prop,(∀H',N H'->∃r,r<m/\W (i+1) r H')/\∀n u,J.ph i H2 n u->∀C s0 P f0 os,os.length=xs.length->N0 (c7 X scope Nc C s0 P f0) tg elt ifs xs.length σ ix D N n os u):=by
  obtain⟨e,cl⟩|e:=L
  .subst e;exact AJ a a.zh Qb (λ_ _ q _=>q) (B5 a ix) inner (λi H2 s=>go i H2 (a.zh.trans s)) (λi Z2 H2 y H' s=>l i Z2 H2 y H' (a.zh.trans s)) (λH2 s=>j H2 (a.zh.trans s)) hlen (.inr cl)
  .subst e;exact AJ a Qb a.zh a.tp (HN a ix) inner go l j hlen Q4
 exact AI sc G I M st hf lp λD C s' H' m io B ch ci ⟨Z',z,F,O⟩=>k D C s' H' Z' m io B ch ci (x.trans z) (k1.trans F) O
def xN(sc:QdK)(I:Qbi):closureFor scope X.env=pure QbH:=
 nQ λy a e=>I.ok.has y.1 (sc.frees y a e).2
def HX(sc:QdK)(l:QaC)(h:Qft)(n:(δc=HL δ1 ix/\∀d∈ds,(g d).clean=true)\/δc=HM δ1 ix)(inner:Qgi)(hlen:QbK)
  (hs:Qcn:=by intro _;rfl):cL X CL b QdB δ (.lst ((ds.filter p).map g)) δ1:=λH Z σ ts vs Q S k pins s I=>by
 obtain⟨t,pi,hw⟩:=h;refine FX rfl hs (xN sc I) sc.kind sc.names ?_;refine gE (pi pins s σ H _ I (hw H Z σ ts vs _ S λJ H1 C=>C)) λv s1 h1=>gE h1 λi s2 zz=>?_;obtain⟨it,fp,tn,J,H1,e,r,o,st,hf,C⟩:=zz;subst e;refine NC sc l C r o st hf n inner hlen λD w s' H' Z' m io u ch ci c f q=>?_;obtain⟨m,j⟩:=m;exact⟨m,j,λh' a=>⟨.ref D,H',ci h' a,rfl,k _ H' Z' c f q⟩⟩
variable{y:Str}
def ajZ{D:gU}{py f:Pos}(i:Nat)(sc:QdK)(hc:QaC)(h:Qft)(t:(δc=HL δ1 ix/\∀d∈ds,(g d).clean=true)\/δc=HM δ1 ix)(inner:Qgi)(hlen:QbK)
  (k:D.nx (δ1.set i QlC)) (hl:Qb1) (hN:QbX) (hi:X.N[i]? = some y) (W:Loc X.env.scope y) (r:AM X y)
  (DF:swapsWith QdB (some QfN) f.line X.env=pure true)
  (hs:Qcn:=by intro _;rfl):WL X CL b (.Assign [.Name y py] QdB f) δ D:=λH Z σ ts vs E S M pins s I=>by
 obtain⟨wi,pi,hw⟩:=h;rw[exec_Assign_Name_used _ _ _ _ DF];refine hY (FR (hY ?_));show wpAny _ X.A (do let _ ← comprehension QdB scope X.env _ Qf7 false (eval iter X.env) (some QjU)) _ _ s;refine hY (m3 (FX (use:=some QjU) (Q:=λ_ s'=>SP X pins E .next s') rfl hs (xN sc I) sc.kind sc.names ?_) (λ_ s' c=>kn (kn c)) λ_ _ e=>e);refine gE (pi pins s σ H _ I (hw H Z σ ts vs (λJ H1=>WT X CL b δ1 σ ts vs Z H ds J H1) S λJ H1 C=>C)) λv s1 h1=>gE h1 λV s2 zz=>?_;obtain⟨it,fp,tn,J,H1,e,I1,Tn,st,hf,C⟩:=zz;subst e;refine NC (RR:=λacc C=>compPost QA X.A X.xe (some QjU) QlD acc C) sc hc C I1 Tn st hf t inner hlen λD' j s' H' Z' m io U ch ci R k' S'=>?_;obtain⟨m,Y⟩:=m;obtain⟨o,K,T⟩:=io;have O:L2.Inv X pins σ H' s':=ci s'.heap (.refl ..);have I2:L2.Inv X (pins++[(j,o)]) σ H' s':=O.yS λq c=>by
  obtain z|z:=hV.1 c
  .exact O.pin q (h5 _ z)
  .have e:q=(j,o):=by simpa using z
   subst e;exact⟨K,U,ch.1,ch.2.1,T⟩
 show wpAny _ X.A (assign QfN X.env QdX) _ _ s';have hg:PG X QfN (Nh i):=uX hN hi W r;refine gE (hg _ s' σ H' QdX QdX (λa P=>a=σ.set i Qih/\P=H') I2 rfl ⟨rfl,rfl⟩) λ_ G zz=>?_;obtain⟨a,P,B,e8,x⟩:=zz;subst e8;subst x;obtain⟨u,l,_⟩:=B.pin (j,o) (h5 _ (h5 _ Wp));refine⟨m,Y.at' λo' L=>by rw[K]at L;cases L;exact u,λh' n=>?_⟩;have I9:L2.Inv X pins (σ.set i Qih) _ G:=B.yS λq c=>B.pin q (h5 _ (ik _ c));have F:=I9.turned (it:=j) (h':=h') (t':=G.toks) (λb o t e=>(n.2 b t).trans e) l ch.1.symm.symm (.inr ch.2.2.1) ch.2.2.2.1 ch.2.2.2.2;exact⟨_,_,F,M.nx _ _ _ Z' R (S'.set hl) k⟩
variable{pos':Pos}
def apF{D:gU}(c:Gx X)(n:QcT)(sc:QdK)(h:Qft)
  (f:(δc=HL δ1 ix/\∀d∈ds,(g d).clean=true)\/δc=HM δ1 ix) (inner:Qgi) (hlen:QbK) (k:dh X CL b gS (δ1.set i QlC) D) (e:Qb1)
  (a:swapsWith Qiu (some Qb9) pos.line X.env=pure true\/swapsWith Qiu (some Qb9) pos.line X.env=pure false) (hs:Qcn:=by intro _;rfl) :
  dh X CL b (.Assign [.Name x pos'] Qiu pos::gS) δ D:=by
 obtain a|a:=a
 .exact cE (ajZ i sc c.calm h f inner hlen k e c.nd n.hi n.loc n.hf a hs)
 .exact cE (ae6 i (HX sc c.calm h f inner hlen hs) k e c.nd n.hi n.loc a n.hf)
noncomputable def Pt(scope:Scope)(xs a:At):Bool:=
 scope.kind == .function&&xs.all (λy=>scope.names.lookup y==some .local)&&a.all Qlg&&decide ((xs++a).Nodup) &&
  scope.names.all λy=>y.2 != .cell&&(y.2 != .local || scope.names.lookup y.1==some .local)&&(y.2 != .free || Qk0)
theorem aj0{d:At}(c:Fh X ix d)(ok:Pt scope xs d=true):vn X scope xs (xs++d) ix:=by
 unfold Pt at ok;simp only[km,ro,vT,tI]at ok;obtain⟨⟨⟨⟨h1,h2⟩,h⟩,g⟩,b⟩:=ok;have j:∀y∈d,X.env.kindOf y=some .cell\/X.env.kindOf y=some .free:=by
  clear h g b
  induction c with
  | nil=>intro y a;cases a
  | cons n k r f=>
   intro y a;obtain e|a:=hR.1 a
   .subst e;exact k
   simp_all
 refine⟨h1,λy a e=>?_,g,λy a e=>?_,h2,λy a e=>?_,?_,λi hi=>?_⟩
 .have:=(b y a).1.1;rw[e]at this;simp at this
 .have:=(b y a).1.2;rw[e]at this;simpa using this
 .have:=(b y a).2;simp_all
 .congr 1;clear h g b j
  induction c with
  | nil=>rfl
  | cons n k r f=>rw[mB,n.hi,← f]
 .clear g b j
  induction c with
  | nil=>cases hi
  | @cons l y ix ys n k r f=>
   obtain e|hi:=hR.1 hi
   .subst e;exact⟨y,n.hi,h y hU⟩
   .exact f (λz hz=>h z Qdv) hi
variable{C:Addr}
def WW(h1:Nc[i]? = some x)(h2:QgM)(hd:AD x:=by decide)(k9:AE x:=by decide):Ln Qbg i x:=
 ⟨ae9 h1 h2 hd k9,.inl (GG h2),.inr (GG h2)⟩
def Ite(K:Frag)(a:Addr):It:=
 ⟨λi H=>∃xs x,oj K H a xs/\xs[i]? = some x,λi H x H'=>∃T y,H T=none/\x=.ref T/\(∀xs,oj K H a xs->xs[i]? = some y)/\H'=upd H T (.tup [.int i,y]),λi H=>∃xs,oj K H a xs/\xs.length<=i⟩
variable{elts:Cf}{kk:Nat}{pt:Pos}
theorem acv(a e it:Addr)(T:e≠it):Turn P w K QhA (Ite K a) [e,it] e (λi h=>(∃old,PySem.IsEnum h e it i old)/\h.IsListIter it a i) where
 mem:=by simp
 obj:=λi h st b g=>by
  obtain⟨⟨old,he⟩,hit⟩:=st;obtain z|z:=hR.1 g
  .subst z;exact⟨_,he,λv z=>by
    have U:Data.fields _=Data.cell v:=z;cases U⟩
  .have z:b=it:=by simpa using z
   subst z;obtain⟨o,e,c,d⟩:=hit;exact⟨o,e,λv z=>by rw[d]at z;cases z⟩
 keep:=λi h h' st k=>by
  obtain⟨⟨old,he⟩,hit⟩:=st;exact⟨⟨old,k e Wp _ he⟩,hit.at λo q=>k it Wp o q⟩
 item:=by
  intro X O hw R f i pins s σ H E I hf st J;subst O hw R;obtain⟨xs,x,A,D⟩:=J;obtain⟨its,C,p,hz⟩:=I.list A;obtain⟨u,Y,V⟩:=C.get D;obtain⟨⟨old,he⟩,hit⟩:=st;have t:=hf e Wp;have fi:=hf it Wp;have l:H s.heap.objs.size=none:=I.gD.fresh (hW _);have B:=I.Lx (hW s.heap.objs.size) l;refine PySem.wpAny_pyNext_enum_item he hit p.isList (x:=u) (by simpa using Y) T λh' G S hT hsz Z=>⟨_,rfl,?_⟩;refine PySem.wpAny_letOwnedTupleGo_enum G λh2 L y=>?_;replace y:Heap.SameBut e h' h2:=y;have eT:e<s.heap.objs.size:=ij he;have keep:∀b o,b≠e->b≠it->s.heap.get? b=some o->h2.get? b=some o:=λb o h1 h3 q=>(y.2 b h1).trans (Z b o h1 h3 q);have N:h2.get? s.heap.objs.size=some {cls:=.type "tuple",data:=.seq #[.int i s.toks,u]}:=(y.2 _ (Nat.ne_of_gt eT)).trans hT;have j:∀b o,H b=some o->b≠e/\b≠it/\b≠s.heap.objs.size:=λb o q=>⟨λz=>(by rw[z,t.1]at q;cases q),λz=>(by rw[z,fi.1]at q;cases q),λz=>(by rw[z,l]at q;cases q)⟩;have I':L2.Inv X pins σ (upd H s.heap.objs.size (.tup [.int i,x])) {s with heap:=h2,toks:=s.toks+1}:=by
   refine I.step (g':=s.gens) (d':=s.drawn) (ch:=[e,it,s.heap.objs.size]) (λb g=>?_) (λb o _ _ f q _=>?_) (λb o _ _ f q _=>⟨o.slots,?_⟩) (λb o f q n=>?_) (λb o f q=>⟨o,?_⟩) (λb ys q=>?_) (λb o u q=>?_) (λb ps q=>⟨#[],?_⟩) (λm hm=>?_) (λb o q=>?_) I.bare
   .obtain z|g:=hR.1 g
    .subst z;exact⟨t.2.2.2.1,t.2.1,t.2.2.2.2.1,t.2.2.2.2.2⟩
    .obtain z|g:=hR.1 g
     .subst z;exact⟨fi.2.2.2.1,fi.2.1,fi.2.2.2.2.1,fi.2.2.2.2.2⟩
     .have z:b=s.heap.objs.size:=by simpa using g
      subst z;exact⟨B.2.2.2.1,B.2.1,B.2.2.2.2.1,B.2.2.2.2.2⟩
   .exact keep b o (λz=>f (by simp[z])) (λz=>f (by simp[z])) q
   .exact keep b o (λz=>f (by simp[z])) (λz=>f (by simp[z])) q
   .rw[aq (λz=>f (by simp[z]))];exact n
   .exact keep b o (λz=>f (by simp[z])) (λz=>f (by simp[z])) q
   .rw[aq (j b _ q).2.2];exact q
   .rw[aq (j b _ q).2.2];exact q
   .rw[aq (j b _ q).2.2,q];simp
   .obtain⟨o,es,ep,G,r⟩:=hm;exact⟨o,es,ep,keep _ o (mf t.2.1) (mf fi.2.1) G,r⟩
   .by_cases g:b=s.heap.objs.size
    .subst g;rw[aR]at q;cases q;exact⟨kv (cA Qbd),[.int i s.toks,u],.cons ⟨s.toks,rfl⟩ (.cons V .nil),⟨_,N,rfl,_,rfl⟩⟩
    .rw[aq g]at q;refine(I.gD b o q).Hq (λc v f z=>keep c v ?_ ?_ z) (λc z=>by rw[aq (j c _ z).2.2];exact z) (λc ys z=>by rw[aq (j c _ z).2.2];exact z) λc ys z=>by rw[aq (j c _ z).2.2];exact z
     .obtain z|z:=f
      .rw[z];exact(j b _ q).1
      .exact(j c _ z).1
     .obtain z|z:=f
      .rw[z];exact(j b _ q).2.1
      .exact(j c _ z).2.1
  have ei:((i+1:Nat):Int)=(i:Int)+1:=by lia
  refine⟨.ref s.heap.objs.size,_,I',rfl,⟨_,x,l,rfl,λys W=>by rw[I.Hs W A];exact D,rfl⟩,⟨⟨u,by rw[ei];exact L⟩,S.at λo q=>(y.2 it (mf T)).trans q⟩,λb g=>?_⟩;have M:=hf b g;obtain⟨o,F,_⟩:∃o,s.heap.get? b=some o/\True:=by
   obtain z|z:=hR.1 g
   .subst z;exact⟨_,he,trivial⟩
   .have z:b=it:=by simpa using z
    subst z;obtain⟨o,q,_⟩:=hit;exact⟨o,q,trivial⟩
  rw[aq (kr (ij F))];exact M.1
 done:=by
  intro X O hw R f i pins s σ H E I hf st J;subst O hw R;obtain⟨xs,A,D⟩:=J;obtain⟨its,C,p,hz⟩:=I.list A;obtain⟨⟨old,he⟩,hit⟩:=st;obtain⟨f0,f1,f2,f3,f4,f5⟩:=hf it Wp;have hl:=C.length;exact PySem.wpAny_pyNext_enum_end (I.ok.hd f) he hit p.isList W9 λh' eb=>⟨rfl,I.turned (t':=s.toks) (λb o g e=>eb b o g e) f0 f1 f3 f4 f5⟩
 self:=λ_ _ _ _ _ st h=>by
  obtain⟨⟨old,he⟩,_⟩:=st;exact PySem.wpAny_pyIter_enum he h
def aul(K:Frag)(ta:TA):TI:=λσ H R=>ta σ H λvs H1=>∃a xs,vs=[.ref a]/\oj K H1 a xs/\R (Ite K a) H1
theorem aj1{a:Expr}{ta:TA}{p:Pos}(k:Gl X "enumerate")(hm:Qka)(n:PA X [a] ta)(hs:AC X a []):PI X QhA (.Call (.Name "enumerate" p) [a] [] pos) (aul X.K ta):=by
 intro pins s σ H R I h;refine Call_ (qL I k hm boot_enumerate (we (gE Qjt λus s1 zz=>?_) hs rfl));obtain⟨vs,H1,c,f,g⟩:=zz;obtain⟨l,xs,e,i,q⟩:=g;subst e;cases f with
 | cons r d=>
  cases d;cases r;obtain⟨its,t,p,hz⟩:=c.list i;refine PySem.call_enumerate_list p.isList λh' he hit hsz j=>?_;have o:=c.kept (t':=s1.toks) j;refine PySem.wpAny_pyIter_enum he ?_;refine⟨ _,_,_,_,H1,rfl,o,acv l _ _ (Nat.succ_ne_self _),⟨⟨_,he⟩,hit⟩,λb m=>?_,q⟩;obtain z|z:=hR.1 m
  .subst z;exact c.Lx (oa _) (c.gD.fresh (oa _))
  .have z:=by simpa using z
   subst z;exact c.Lx (hW _) Qhw
noncomputable def HY(ds:BA):BA:=(List.range ds.length).map λ(i:Nat)=>.tup [.int i,ds.getD i .non]
def NF(ds:BA):(HY ds).length=ds.length:=by simp[HY]
def acw{ds:BA}{d:D}(h:ds[i]? = some d):(HY ds)[i]? = some (.tup [.int i,d]):=by
 have hi:=(l4.1 h).1;unfold HY;rw[la,o4 hi];show some (D.tup _)=_;rw[kf,h];rfl
variable{ds:BA}
theorem aj2(hm:Qka)(h:QgF)(q:Gl X "enumerate")(hs:Qaa:=by exact aS rfl):ub X CL b QhA Qls δ (HY ds) δ1:=by
 refine⟨_,aj1 q hm Qau hs,λH Z σ ts vs R S k=>h H Z σ ts vs _ S λv H1 Z1 m k1 g=>?_⟩;obtain⟨fp,gp,_,r,_,_⟩:=g.rep;cases r with
 | cons r _=>
  cases r with
  | sh r=>
   cases r with
   | @lst a us _ c j=>
    have p:=j.length;refine⟨a,us,rfl,g.zh.seq c,k _ _ ⟨Z1,m,k1,g.pop,λi H2 s hi=>?_,λi Z2 H2 x H' s1 s2 tp hi n=>?_,λH2 s=>?_⟩⟩
    .rw[NF]at hi;have f:i<us.length:=p▸hi;exact⟨us,_,s.seq c,kA f⟩
    .obtain⟨T,y,t,rfl,o,rfl⟩:=n;obtain⟨d,hd,rd⟩:=j.xw (o us ((s1.trans s2).seq c));have l:=Pp.tup (xs:=[.int i,y]) s2 tp t;exact⟨_,_,acw hd,l,.tup (Dz.of aR) (.cons Qbc (.cons ((rd.mono s1).mono l.z) .nil))⟩
    .rw[NF];exact⟨us,s.seq c,by simp_all ⟩
noncomputable def insI(x:Int):AT->AT
 | []=>[x]
 | y::l=>if x<=y then x::y::l else y::insI x l
def sortI:AT->AT
 | []=>[]
 | x::l=>insI x (sortI l)
theorem insI_perm(x:Int):∀l,(insI x l).Perm (x::l)
 | []=>.refl _
 | y::l=>by
  rw[insI];split
  .exact .refl _
  .exact((insI_perm x l).cons y).trans (.swap x y l)
theorem sortI_perm:∀l,(sortI l).Perm l
 | []=>.refl _
 | x::l=>(insI_perm x _).trans ((sortI_perm l).cons x)
def lg{x:Int}:x∈sortI l↔x∈l:=(sortI_perm l).mem_iff
def qE(l:AT):(sortI l).length=l.length:=(sortI_perm l).length_eq
theorem Fd(x:Int):∀{l:AT},l.Pairwise (· <= ·)->(insI x l).Pairwise (· <= ·)
 | [],_=>r3 _ _
 | y::l,h=>by
  rw[insI];obtain⟨h1,h2⟩:=ll.1 h;split
  .rename_i e;refine ll.2 ⟨λz hz=>?_,h⟩;obtain rfl|hz:=hR.1 hz
   .exact e
   .exact Int.le_trans e (h1 z hz)
  .refine ll.2 ⟨λz hz=>?_,Fd x h2⟩;obtain rfl|hz:=hR.1 ((insI_perm x l).mem_iff.1 hz)
   .lia
   simp_all
theorem iW:∀l,(sortI l).Pairwise (· <= ·)
 | []=>.nil
 | x::l=>Fd x (iW l)
theorem Fe:∀{a b:AT},a.Perm b->a.Pairwise (· <= ·)->b.Pairwise (· <= ·)->a=b
 | [],b,p,_,_=>(List.nil_perm.1 p).symm
 | x::a,[],p,_,_=>absurd p.length_eq Wp
 | x::a,y::b,p,d,c=>by
  obtain⟨a1,a2⟩:=ll.1 d;obtain⟨b1,b2⟩:=ll.1 c;have e:x=y:=by
   have h1:=p.mem_iff.1 hU;have h2:=p.mem_iff.2 hU;obtain e|h1:=hR.1 h1
   .exact e
   .obtain e|h2:=hR.1 h2
    .exact e.symm
    .exact Int.le_antisymm (a1 y h2) (b1 x h1)
  subst e;rw[Fe (List.Perm.cons_inv p) a2 b2]
def uq{z:AT}(p:z.Perm l)(s:z.Pairwise (· <= ·)):z=sortI l:=Fe (p.trans (sortI_perm l).symm) s (iW l)
def xO(s:l.Pairwise (· <= ·)):sortI l=l:=(uq Qb s).symm
theorem vo:∀{us:B2} {ns:AT},IntsAre us ns->Vals Qbz us
 | _,_,.nil=>.nil
 | _,_,.cons n t r=>.cons ⟨t,rfl⟩ (vo r)
theorem Pq:om X Qhv (λxs H Q=>∃p ns,xs=[.ref p]/\oj X.K H p (ns.map .int)/\ns.length<64/\∀l,H l=none->Q Qee (upd H l (.lst ((sortI ns).map .int)))):=by
 intro pins s σ H xs us Q I r h;obtain⟨p,ns,rfl,d,f,q⟩:=h;obtain⟨u,rfl,b⟩:=vals1 r;cases b;obtain⟨its,a,pl,hz⟩:=I.list d;have hlen:=a.length;rw[hP]at hlen;refine sorted_ints pl.isList (intsAre_of a) We λout c a1 a2 a3=>?_;obtain⟨e,he⟩:=sortedAll_at _ its out;have e2:=uq a2 a3;subst e2;refine⟨.ref _,_,I.laid (λ_ _=>sortedAll_old) (oa _) (show iC _ X.w _ _ _ Qdz from⟨?_,_,e,vo a1,?_⟩),rfl,q _ Qj6⟩
 .rw[hP,qE];simp_all
 omega
def vp:bootBuiltins "sorted" = some Qhv:=by decide +kernel
theorem ur(h:au K CL Z (l.map D.int) us):us=l.map V.int:=by
 refine au.ind (P:=λds us=>∀l,ds=l.map D.int->us=l.map V.int) ?_ ?_ h l rfl
 .simp_all
 .intro d v ds vs r _ i l e;cases l with
  | nil=>cases e
  | cons a l=>
   injection e with e1 e2;subst e1;rw[i l e2];cases r;rfl
theorem ints_rep{K:Frag}{Z:Hp}:∀(l:AT),au K CL Z (l.map D.int) (l.map V.int)
 | []=>.nil
 | _::l=>.cons Qbc (ints_rep l)
def m9(hm:QhQ)(h:QiW)(j:l.length<64)(m:Gl X "sorted")(hs:Qaa:=by exact aS rfl):cL X CL b (.Call Qkb [e] [] pos) δ (.lst (((sortI l).map D.int).map T.sh)) δ1:=λH Z σ ts vs Q S k=>
 cK (j6 Pq m hm vp Qau (he:=hs)) (h H Z σ ts vs _ S λv H1 Z1 d k1 o r=>by
  cases r with
  | @lst a us _ g f=>
   have:=ur f;subst this;refine⟨a,l,rfl,g,j,λp i=>?_⟩;obtain⟨c,n⟩:=(bC.pX (ints_rep _) o).kX (g0:=[]) Wp i;exact k _ _ _ d QcC n)
def acy(j:QaC):om X (.builtin "sum") (λxs H Q=>∃(p:Addr) (ns:AT),xs=[.ref p]/\oj X.K H p Qbz/\Q (.int ns.sum) H):=by
 intro pins s σ H xs us Q I r h;obtain⟨p,ns,rfl,g,q⟩:=h;obtain⟨u,rfl,d⟩:=vals1 r;cases d;obtain⟨its,f,pl,hz⟩:=I.list g;have hi:=intsAre_of f;obtain⟨xs,a⟩:=hi.allInts.items;have b:=hi.numsOf;have c:=pl.isList;rw[a]at c;refine sum_intListG (I.ok.hd j) c λh' tk t' i=>⟨ _,H,I.kept i,?_,q⟩;refine⟨t',?_⟩;have e:its=(intItems xs).toList:=by rw[← a]
 rw[e,nums_intItems]at b;rw[preSum_eq,List.take_of_length_le Wp,b]
def acz:bootBuiltins "sum" = some (.builtin "sum"):=by decide +kernel
def aj3(g:Gx X)(hm:X.mg "sum" = none)(h:QiW)(i:Gl X "sum")(hs:Qaa:=by exact aS rfl):cL X CL b (.Call (.Name "sum" pp) [e] [] pos) δ (.sh (.int l.sum)) δ1:=λH Z σ ts vs Q S k=>
 cK (j6 (acy g.calm) i hm acz Qau (he:=hs)) (h H Z σ ts vs _ S λv H1 Z1 c k1 j r=>by
  cases r with
  | @lst a us _ f d=>
   have:=ur d;subst this;exact⟨a,l,rfl,f,k _ H1 Z1 c k1 (j.push Qbc)⟩)
def WX:typeLookup (.type "list_reverseiterator") "__len__" = pure none:=by kernel_rfl
def afp:typeLookup (.type "list_reverseiterator") "__length_hint__" = pure (some (.builtin "list_reverseiterator.__length_hint__")):=by kernel_rfl
def afq{l:Addr}{i:Int}{Q:Bool->Shared->Prop}(e:s.heap.IsRevIter it l i)(h:Q false s):wpAny Qak A (Builtin.List.listLengthHint QbB) Q E s:=by
 unfold Builtin.List.listLengthHint;refine hY (wpAny_specialOf e.typeIs WX ?_);refine hY (wpAny_specialOf e.typeIs afp ?_);generalize a:("list_reverseiterator.__length_hint__":String)=d
 wp_delta
 rw[show splitId d=some ("list_reverseiterator","__length_hint__") from by subst a;decide +kernel];subst a;refine hY (wpAny_isInstance (T:="list_reverseiterator") (b:=true) e.typeIs (by rw[isSubtype_type];kernel_rfl) ?_);refine wpAny_ite_split (λc=>absurd c Wl) (λ_=>?_);refine wpAny_ite_split (λ_=>?_) (λc=>absurd Wg c);refine wpAny_ite_split (λc=>absurd c Wg) (λ_=>?_);exact kn h
variable{items:CS}
theorem WY{l:Addr}(E:QeQ)(p:Qix)(D:Qj2)(C:l≠it)(hlen:Qkl)(S:Addr)(res:Value)(c₀:Nat)
  (z:s.heap.get? S=some {cls:=.type "list",data:=.seq #[] c₀}) (g:S≠it) (m:S≠l)
  (G:∀h' tk n j,(∀b o,b≠S->b≠it->s.heap.get? b=some o->h'.get? b=some o)->h'.get? S=some {cls:=.type "list",dict:=none,data:=.seq n j,slots:=#[]} →
   ItemsOf (λi v=>items[items.size-1-i]? = some v) n items.size->R (.ok (.ret res)) {s with heap:=h',toks:=tk}) :
  wpAny Qak A.in1 (Builtin.List.listExtendWith (.ref S) QbB res)
   (λfin s'=>match fin with | .done f=>R (.ok f) s' | .again j=>j.quiet=true/\codeAny (model prog w) A j R s') (λe s'=>R (.error e) s') s:=by
 have W:=(Walks.listRev (prog:=prog) (w:=w) (A:=A.in1) E it l C items).toS;have x:S∉[it,l]:=λh=>by
  obtain e|h:=hR.1 h
  .exact g e
  .exact m (i4.1 h)
 have e0:(items.size:Int)-1=(items.size:Int)-1-((0:Nat):Int):=by lia
 have key:∀(h:Heap) (c₁ tk:Nat),(∀b o,b≠S->s.heap.get? b=some o->h.get? b=some o) →
   h.get? S=some {cls:=.type "list",data:=.seq #[] c₁}->codeAny Qak A (.builtin "list.extend.loop" ⟨[.ref S,.ref it,res],[]⟩) R {s with heap:=h,toks:=tk}:=by
  intro h c₁ tk t d;have hit:h.IsRevIter it l ((items.size:Int)-1-((0:Nat):Int)):=e0▸p.at λo q=>t it o (mf g) q;have r:h.IsList l items:=D.at λo q=>t l o (mf m) q;refine codeAny_extend_loopS W hlen S x res items.size 0 _ #[] c₁ rfl (i8 _) ⟨i8 _,hit,r⟩ d (ItemsOf.nil _) λs' n j hm y J=>?_;rw[Moved.eq_with hm];refine G s'.heap s'.toks n j (λb o k u e=>hm.heap b o (λB=>?_) (t b o k e)) y J;obtain I|B:=hR.1 B
  .exact k I
  .exact u (i4.1 B)
 unfold Builtin.List.listExtendWith;refine hY (wpAny_typeOf (T:="list_reverseiterator") p.typeIs ?_);have h1:Builtin.List.listSameRef (.ref S) QbB=false:=by simp[Builtin.List.listSameRef,g]
 have h2:(Value.type "list_reverseiterator" == Value.type "list")=false:=by decide
 have H:(Value.type "list_reverseiterator" == Value.type "tuple")=false:=by decide
 simp only[h1,h2,H,Bool.or_false,og,oe];refine hY (wpAny_pyIter_revIter p ?_);refine hY (zd (afq p ?_));refine wpAny_ite_split (λ_=>?_) (λ_=>kn ⟨plainId_quiet F.plain_extend_loop _,key _ c₀ _ (λb o _ e=>e) z⟩);refine hY (wpAny_rule ?_);refine hY ?_;show wpAny _ _ (updateSeq S (·.push .none) >>= λ_=>updateSeq S (·.pop)) _ _ _;refine hY (wpAny_updateSeq z rfl ?_);have a:=LH (Obj.mapSeq (·.push Value.none)) z rfl;refine wpAny_updateSeq (hz:=by seq_fits) a rfl ?_;have c:=LH (Obj.mapSeq (·.pop)) a rfl;refine kn ⟨plainId_quiet F.plain_extend_loop _,key _ _ _ (λb o k e=>?_) c⟩;exact(GS _ _ (mf k)).trans ((GS _ _ (mf k)).trans e)
def LQ{l:Addr}(x:QeQ)(r:Qix)(t:Qj2)(p:l≠it)(hlen:Qkl)(S:Addr)
  (n:s.heap.get? S=some {cls:=.type "list",data:=.seq #[]}) (g:S≠it) (d:S≠l)
  (y:∀h' tk h c,(∀b o,b≠S->b≠it->s.heap.get? b=some o->h'.get? b=some o)->h'.get? S=some {cls:=.type "list",dict:=none,data:=.seq h c,slots:=#[]} →
   ItemsOf (λi v=>items[items.size-1-i]? = some v) h items.size->R (.ok (.ret .none)) {s with heap:=h',toks:=tk}) :
  wpAny Qak A.in1 (Builtin.«list.__init__» ⟨[.ref S,.ref it],[]⟩)
   (λfin s'=>match fin with | .done f=>R (.ok f) s' | .again c=>c.quiet=true/\codeAny (model prog w) A c R s') (λe s'=>R (.error e) s') s:=by
 refine hY ?_;unfold Builtin.List.listItems;refine hY (wpAny_seqItems n rfl (kn ?_));refine hY (wpAny_updateSeq n rfl ?_);have a:=LH (Obj.mapSeq (λ_=>(#[]:CS))) n rfl;have LR:∀b o,b≠S->s.heap.get? b=some o->(s.heap.update S (Obj.mapSeq (λ_=>(#[]:CS)))).get? b=some o:=
  λb o j e=>(GS _ _ (mf j)).trans e
 refine hY (wpAny_letGo ?_);refine WY x (r.at λo q=>LR it o (mf g) q) (t.at λo q=>LR l o (mf d) q) p hlen S .none _ a g d λh' tk h c u m z=>?_;exact y h' tk h c (λb o j k e=>u b o j k (LR b o j e)) m z
def LV{Q:Bi}{l:Addr}(r:QeQ)(h:Qix)(j:Qj2)(m:l≠it)(hlen:Qkl)
  (hQ:∀h' tk d g,(∀b o,b≠it->s.heap.get? b=some o->h'.get? b=some o) →
   h'.get? s.heap.objs.size=some {cls:=.type "list",dict:=none,data:=.seq d g,slots:=#[]}->ItemsOf (λi v=>items[items.size-1-i]? = some v) d items.size->Q Qex {s with heap:=h',toks:=tk}) :
  wpAny Qak A (call QeM [.ref it]) Q E s:=by
 refine callType_codes (Q₁:=λobj a=>obj=.ref s.heap.objs.size/\a={s with heap:=s.heap.push _}) F.called_list (F.typeCall_list_1 _) F.entry_list_init
  (code_list_new _ ⟨rfl,rfl⟩) λobj a c=>?_
 obtain⟨rfl,rfl⟩:=c;have k:(s.heap.push _).get? s.heap.objs.size=some {cls:=.type "list",data:=.seq #[]}:=lG _ rfl;have hit:it<s.heap.objs.size:=by obtain⟨o,e,_⟩:=h;exact ij e
 have n:l<s.heap.objs.size:=by obtain⟨o,e,_⟩:=j;exact ij e
 refine⟨⟨_,k,rfl⟩,F.args_list_init_2 _ _,LQ (A:=A.in1) r (h.at λo q=>ka _ q) (j.at λo q=>ka _ q) m hlen _ k (Nat.ne_of_gt hit) (Nat.ne_of_gt n) λh' tk d g p f u=>?_⟩;exact⟨rfl,hQ h' tk d g (λb o t e=>p b o Qf9 t (ka _ e)) f u⟩
theorem acA{acc:CS}(h:ItemsOf (λi v=>items[items.size-1-i]? = some v) acc items.size):acc.toList=items.toList.reverse:=by
 obtain⟨h1,h2⟩:=h;apply v3;intro j;by_cases a:j<items.size
 .rw[List.getElem?_reverse (‹_›)];simp_all
 simp_all
theorem Vals.rev:∀{xs:BY} {us:B2},Vals xs us->Vals xs.reverse us.reverse
 | [],_,.nil=>.nil
 | _::_,_,.cons r a=>by
  rw[mn,mn];exact Vals.append (Vals.rev a) (.cons r .nil)
def tLR(K:Frag)(ta:TA):TE:=λσ H Q=>ta σ H λvs H1=>∃a xs,vs=[.ref a]/\oj K H1 a xs/\∀l,H1 l=none->Q Qee (upd H1 l (.lst xs.reverse))
def WZ{x:Expr}{ta:TA}{p q:Pos}(C:QaC)(i:Qfa)(G:QeI)(g:Qh6)(d:Qhz)(D:PA X [x] ta)(hs:AC X x [])
  (t:starEach [.Call Qhq [x] [] pq] X.env=(false,eval (.Call Qhq [x] [] pq) X.env)::starEach [] X.env):PE X (.Call (.Name "list" p) [.Call Qhq [x] [] pq] [] pos) (tLR X.K ta):=by
 intro pins s σ H Q I h;refine tc (qL I i G bH ?_ Wl Wl);refine we ?_ t rfl;rw[t];show wpAny _ _ (spliced ((false,eval (.Call Qhq [x] [] pq) X.env)::backTo pos QfD)) _ _ s;refine Calls.spliced_cons ?_;refine Call_ (qL I g d boot_reversed (we (gE (D pq pins s σ H _ I h) λus s1 zz=>?_) hs rfl));obtain⟨vs,H1,a,y,z⟩:=zz;obtain⟨l,xs,e,A,q⟩:=z;subst e;cases y with
 | cons r v=>
  cases v;cases r;obtain⟨its,m,p,hz⟩:=a.list A;have f:=m.length;refine PySem.call_reversed_list p.isList ?_;refine Calls.spliced_nil ?_;have E:l<s1.heap.objs.size:=by obtain⟨o,e,_⟩:=p.isList;exact ij e
  have st:PySem.Heap.IsRevIter (s1.heap.push Qgo) s1.heap.objs.size l ((its.toArray.size:Int)-1):=⟨_,lG _ rfl,rfl,rfl⟩;refine LV (s:={s1 with heap:=s1.heap.push Qgo}) (a.ok.hd C) st (p.isList.at λo q=>ka _ q) (kr E) (by rw[nt,← f];exact hz) λh' tk c n B k J=>?_;have hsz:(s1.heap.push Qgo).objs.size=s1.heap.objs.size+1:=Heap.size_push ..;have j:h'.get? (s1.heap.objs.size+1)=some {cls:=.type "list",dict:=none,data:=.seq c n,slots:=#[]}:=hsz▸k;have F:c.toList=its.reverse:=by simpa using acA J
  show EP X pins σ Q (.ref (s1.heap.push Qgo).objs.size) _;rw[hsz];refine⟨.ref (s1.heap.objs.size+1),_,a.laid (t':=tk) (λb u e=>B b u Qf9 (ka _ e)) (oa _) (show iC X.prog X.w _ _ _ (.lst xs.reverse) from⟨by rw[rF];exact hz,its.reverse,n,Vals.rev m,?_⟩),rfl,q _ (a.gD.fresh (oa _))⟩;have e2:c=its.reverse.toArray:=by rw[← F]
  rw[← e2];exact j
variable{ds:BA}
theorem au.rev{ds:BA}(r:QeL):au K CL Z ds.reverse us.reverse:=by
 have go:∀{ds:BA} {us:BY} {es:BA} {ws:BY},au K CL Z ds us->au K CL Z es ws->au K CL Z (ds.reverse++es) (us.reverse++ws):=by
  intro ds us es ws r
  induction ds generalizing us es ws with
  | nil=>cases r;simp_all
  | cons d ds c=>
   cases r with
   | cons b a=>
    intro q;rw[mn,mn,hZ,hZ];exact c a (.cons b q)
 simpa using go r .nil
def HZ(g:Gx X)(s:QeI)(a:Qhz)(h:Qb5)(hi:QbZ)(f:Qfa)(d:Qh6)(hs:Qaa:=by exact aS rfl)
  (p:starEach [.Call QjP [e] [] pr] X.env=(false,eval (.Call QjP [e] [] pr) X.env)::starEach [] X.env:=by exact aS rfl):cL X CL b (.Call (.Name "list" pp) [.Call QjP [e] [] pr] [] pos) δ (.lst (ds.reverse.map T.sh)) δ1:=λH Z σ ts vs Q S k=>
 cK (WZ g.calm f s d a Qau hs p) (h H Z σ ts vs _ S λv H1 Z1 m k1 j r=>by
  cases r with
  | lst n i=>
   refine⟨_,_,rfl,n,λl o=>?_⟩;obtain⟨c,q⟩:=(bC.pX (au.rev (au.u9 j.tp hi i)) j).kX (g0:=[]) (by simp[i.length]) o;exact k _ _ _ m QcC q)
theorem jZ{f:α->β}{l:Q1}{d:β}(h:(l.map f)[j]? = some d):∃x,d=f x/\l[j]? = some x/\x∈l/\j<l.length/\l.drop j=x::l.drop QP/\l.take QP=l.take j++[x]:=by
 rw[la]at h;cases a:l[j]? with
 | none=>rw[a]at h;cases h
 | some x=>
  rw[a]at h;cases h;have b:=(l4.1 a).1;have e:=(l4.1 a).2;exact⟨x,rfl,rfl,l7 a,b,by rw[LA b,e],by rw[rr,a];rfl⟩
noncomputable def D.o1:L3.D->L3.D
 | .tup (a::_)=>a
 | d=>d
noncomputable def D.at2:L3.D->L3.D
 | .tup (_::a::_)=>a
 | d=>d
def acB(f:α->L3.D)(z:α)(l:Q1):HY Qdu=(List.range l.length).map λ(i:Nat)=>L3.D.tup [.int i,f (l.getD i z)]:=by
 unfold HY;rw[hP];apply oo;intro i hi;have hi:=ml.1 hi;have:(l.map f).getD i .non=f (l.getD i z):=by
  rw[kf,kf,la,kA hi];rfl
 rw[this]
def Ue{f:α->L3.D}{l:Q1}(z:α)(hm:Qka)(h:cL X CL b e δ (.sh (.lst Qdu)) δ1)(a:Gl X "enumerate")(hs:Qaa:=by exact aS rfl) :
  ub X CL b QhA Qls δ ((List.range l.length).map λ(i:Nat)=>L3.D.tup [.int i,f (l.getD i z)]) δ1:=by
 have:=aj2 (elts:=elts) (kk:=kk) (pt:=pt) (pr:=pr) (pc:=pc) hm h a hs
 rwa [acB f z l]at this
theorem Ff:∀(l r:AT),PyData.eqvAll (D.xK (l.map L3.D.int)) (D.xK (r.map L3.D.int))=decide (l=r)
 | [],[]=>rfl
 | [],_::_=>rfl
 | _::_,[]=>rfl
 | x::l,y::r=>by
  rw[kc,kc,D.xK,D.xK,PyData.eqvAll,Ff l r,D.toPy,D.toPy,PyData.eqv];by_cases e:x=y
  .subst e;simp
  simp_all
def afs(l r:AT):T8 Qii (.lst (r.map .int))=decide (l=r):=by
 unfold T8;rw[D.toPy,D.toPy,PyData.eqv,Ff]
variable{tl2:Bn}
theorem bC.extend(S:bC K CL b H Z δ σ (.lst tl2::ts) QaO)(hi:δ[i]? = some Qcy) :
  ∃a us a2 d,σ[i]? = some Qf6/\H a=some QbR/\us.length=tl.length/\v=.ref a2/\H a2=some (.lst d)/\d.length=tl2.length/\bC K CL b (upd H a (.lst (us++d))) Z (δ.set i (some (.lst (tl++tl2)))) σ ts vs:=by
 obtain⟨fp,gp,e,r,nd,k⟩:=S.rep;obtain⟨v0,f1,f2,l,hv,s,rt,put,_⟩:=e.get hi;subst s;cases rt with
 | @lst a us _ g q rs=>
  cases r with
  | @cons _ _ _ _ x j w u=>
   cases w with
   | @lst a2 d _ g2 o m=>
    have ne:∀c∈Qe3++(g2++j),c≠a:=λc f e=>by
     subst e;have n:((f1++((c::g)++l))++((a2::g2)++j)).Perm (c::(Qe3++((a2::g2)++j))):=by simp
     refine(ma.1 (n.nodup_iff.1 nd)).1 ?_;obtain z|z:=hV.1 f
     .exact ik _ z
     simp_all
    refine⟨a,us,a2,d,hv,q,rs.length.symm,rfl,o,m.length.symm,?_⟩;have t:b9 K CL (upd H a (.lst (us++d))) Z (.lst (tl++tl2)) Qao (a::(g++g2)):=
     .lst aR (aW.app (rs.mono Qb λc f=>aq (ne c (by simp[f]))) (m.mono Qb λc f=>aq (ne c (by simp[f]))))
    have e2:=put (H':=upd H a (.lst (us++d))) Qb (λc f=>aq (ne c (by
     obtain h|h:=hV.1 f
     .simp[h]
     .simp[h]))) t
    rw[eX hv]at e2;have n:((f1++((a::(g++g2))++l))++j).Perm (QhW++(g2++j)):=by
     simp only[mi,hZ];refine mD f1 (List.Perm.cons a (mD g ?_));rw[← hZ,← hZ];exact l9.append_right j
    have p:(QhW++(g2++j)).Sublist (QhW++((a2::g2)++j)):=
     nz (my _) Wp
    exact S.write nd k (hU) ⟨_,q⟩ e2 (u.mono Qb λc f=>aq (ne c (by simp[f]))) (n.nodup_iff.2 (nd.sublist p)) λc f=>p.subset (n.mem_iff.1 f)
section
variable{D:gU}
def Fg(n:QaK)(h0:δ[i]? = some QhM)(h:cL X CL b e δ (.lst tl2) δ1)(h1:δ1[i]? = some Qcy)(s:tl.length+tl2.length<=1000000)(k:dh X CL b gS (δ1.set i (some (.lst (tl++tl2)))) D)
  (p:Qlb:=by rfl)
  (m:AB X pb e:=by rfl)
  (c:Qeu:=by rfl) (hs:Qaa:=by exact aS rfl)
  (y:Qlo:=by rfl) :
  dh X CL b (.Expr Qiq pos::gS) δ D:=cE λH Z σ ts vs E S M=>
 qP (yT (HB yI OK OH ab5 Qcu Qau p m c hs rfl) y) (by
  obtain⟨v0,e0,o⟩:=S.look h0;refine⟨v0,e0,?_,?_⟩
  .cases o with
   | lst r _=>exact .inl ⟨rfl,_,r⟩
  .refine h H Z σ ts vs _ S λv H1 Z1 l k1 w=>?_;obtain⟨a,us,a2,d,j,t,q,rfl,g,f,u⟩:=w.extend h1;rw[e0]at j;cases j;exact⟨a,a2,us,d,rfl,rfl,t,g,by rw[q,f];exact kv (p8 s Wl),M.nx _ σ _ Z1 l u k⟩)
end
variable{ds:BA}
def aur(K:Frag):R2:=λx y H Q=>∃l k xs,x=.ref l/\y=.int k/\oj K H l xs /\ -(2 ^ 63)<=k/\k<2 ^ 63/\xs.length*k.toNat<=sizeLine ∧
 ∀p,H p=none->Q Qdx (upd H p (.lst (List.replicate k.toNat xs).flatten))
theorem aj5:BP X (binaryOp .Mult) (aur X.K):=by
 intro pins s σ H x y v u Q I j i h;obtain⟨l,k,xs,rfl,rfl,p,h1,h2,hz,q⟩:=h;cases j;obtain⟨t,rfl⟩:=i;obtain⟨its,r,pl,_⟩:=I.list p;have B:=r.length;obtain⟨⟨C,dd,w,sl⟩,e,o,n,hd⟩:=pl.isList;cases o;cases hd;have hlen:its.toArray.size*k.toNat<=sizeLine:=by simp_all
 have c:¬ its.toArray.size*k.toNat > (2 ^ 63-1) / 8:=by
  have:(sizeLine:Nat)<=(2 ^ 63-1) / 8:=by decide
  lia
 have b:¬ (!Builtin.List.listFitsIndex k)=true:=by
  rw[fitsIndex_both h1 h2];grind
 have z:¬ Builtin.List.listTooLong (its.toArray.size*k.toNat)=true:=by
  rw[BZ hlen];grind
 have d:List.foldl (λg f=>g++f) #[] (List.replicate (if its.toArray.isEmpty=true then 0 else k.toNat) its.toArray)=(List.replicate k.toNat its).flatten.toArray:=by
  have f0:=λm=>by
   have:=foldl_rep its m [];rw[ri]at this;exact this
  rw[f0];cases its with
  | nil=>simp
  | cons a A=>rw[cq Wp]
 refine wpAny_binaryOp_repeat_ref (T:="list") (U:="int") Wl ⟨_,e,rfl⟩ (λs'=>typeIs_int s' k t) noFill_list_mul F.fills_int_mul F.slot_int_rmul repeat_list F.slot_int_index.lookup
  (tw F.slot_int_rmul (typeIs_int s k t) F.entry_int_rmul (F.args_int_rmul_2 _ _) (lm_int_rmul_list_any k t l its.toArray n dd sl)
   ⟨e,rfl,⟨_,e,rfl⟩,tw F.slot_list_mul ⟨_,e,rfl⟩ F.entry_list_mul (F.args_list_mul_2 _ _) (lm_list_mul_any l its.toArray n dd sl k t b c z) ⟨e,?_⟩⟩)
 rw[d];exact⟨.ref _,_,I.Sr (r.rep k.toNat) (by rw[len_rep,Nat.mul_comm];exact hz),rfl,q _ I.fresh⟩
theorem au.rep{K:Frag}{Z:Hp}{ds:BA}{vs:BY}(r:QeK):∀k:Nat,au K CL Z (List.replicate k ds).flatten (List.replicate k vs).flatten
 | 0=>.nil
 | k+1=>au.app r (au.rep r k)
theorem aj7(h1:Qi8)(h2:Qfo)(i1:QbZ)(k1:-(2 ^ 63)<=k)(k2:k<2 ^ 63)(hz:ds.length*k.toNat<=sizeLine) :
  cL X CL b (.BinOp e1 .Mult e2 pos) δ (.lst ((List.replicate k.toNat ds).flatten.map T.sh)) δ2:=λH Z σ ts vs Q S kk=>
 cK (TL aj5 dD dD) (h1 H Z σ ts vs _ S λv1 H1 Z1 i m q l=>h2 H1 Z1 σ ts vs _ q λv2 H2 Z2 h f g j=>by
  have d:=l.mono f;cases d with
  | lst e a=>
   cases j with
   | int=>
    refine⟨_,_,_,rfl,rfl,e,k1,k2,a.length▸hz,λp n=>?_⟩;have rc:=au.rep (au.u9 g.tp i1 a) k.toNat;obtain⟨c,o⟩:=(bC.pX rc g).kX (g0:=[]) (by rw[hP,rc.length]) n;exact kk _ _ _ (i.trans h) (m.trans Qch) o)
theorem au.Xm{K:Frag}{Z:Hp}:∀l:At,au K CL Z (l.map .str) Qf2
 | []=>.nil
 | x::l=>.cons Qbm (au.Xm l)
def GT(X:Cx)(x:Str)(l:At):Prop:=∃a,X.mg x=some Qao/\∀H:Hp,Dz X.K H a Qf2
def Ug{l:At}(hm:GT X x l)(c:Qam)(hd:AD x:=by decide):cL X CL b Qal δ (.sh (.tup (l.map .str))) δ:=λH Z σ ts vs Q S kk=>by
 obtain⟨a,hm,hs⟩:=hm;exact cK (OV (v:=.ref a) c hm rfl hd) (kk _ H Z Qb Qb (S.push (.tup (hs Z) (au.Xm l))))
noncomputable def aus{l:At}{od:Dx}{its:CS}{sl:Cn}(h1:X.mg x=some Qao)(h2:QkU)(c:its.size<=sizeLine)(b:Vals Qf2 its.toList):GT X x l:=
 ⟨a,h1,λH=>.inr ⟨_,its,n,h2,rfl,rfl,c,b⟩⟩
def c0{k:Nat}{A:Type}{arg:QaA}{Pre:Qab}{res:Qaj}(a:A)(F:Qfu)(j:Qam)(o:arg a=[])(h:Pre a)(l:QdO)(i:Qb0:=by rfl)
  (g:AD x:=by decide):cL X CL b (.Call QaL [] [] pos) δ (res a) δ:=by
 obtain⟨f,fd,ps,s,m,kk,p⟩:=F.ex;intro H Z σ ts vs Q S k;refine cK (aeK s F.room j m kk p .nil xD g) ?_;refine⟨H,a,.refl _,λ_ _ q _=>q,by rw[o];exact .nil,i,h,S.T5,λv H' W' fp c ww e nw tp rt nd own=>?_⟩;obtain⟨Z',d,r⟩:=S.back c S.zh ww e nw tp rt nd own (.inr l);exact k v H' Z' d c r
noncomputable def x1:Key->D
 | .inl i=>.int i
 | .inr x=>.str x
noncomputable def E2(kvs:CO)(k:Key):Option D:=(kvs.find? λa=>decide (a.1=k)).map (·.2)
noncomputable def NK(kvs:CO)(k:Key)(d:D):CO:=
 if Qfl=true then kvs.map QkR else kvs++[(k,d)]
variable{d:D}{kvs:CO}
theorem cT.length{kvs:CO}(h:cT K CL Z kvs gs):kvs.length=gs.length:=
 cT.ind (P:=λkvs gs=>kvs.length=gs.length) rfl Qg2 h
theorem cT.keys{kvs:CO}(h:cT K CL Z kvs gs):kvs.map (·.1)=gs.map (·.1):=
 cT.ind (P:=λkvs gs=>kvs.map _=gs.map _) rfl (λ{x _ _ _ _} _ _ i=>congrArg _ i) h
theorem cT.val{k:Key}:∀{kvs:CO} {gs:Cl},cT K CL Z kvs gs->(E2 kvs k=none/\xE gs k=none)\/∃d v,E2 kvs k=some d/\xE gs k=some v/\cB K CL Z d v
 | _,_,.nil=>.inl ⟨rfl,rfl⟩
 | _,_,.cons (x:=x) (d:=d) (v:=v) h r=>by
  by_cases e:x=k
  .exact .inr ⟨d,v,by simp[E2,e],uh e,h⟩
  .obtain⟨h1,h2⟩|⟨d',v',h1,h2,a⟩:=cT.val r
   .exact .inl ⟨by simpa [E2,e] using h1,by rw[qN e];exact h2⟩
   .exact .inr ⟨d',v',by simpa [E2,e] using h1,by rw[qN e];exact h2,a⟩
theorem cT.any{k:Key}:∀{kvs:CO} {gs:Cl},cT K CL Z kvs gs->Qfl=(gs.any λa=>decide (a.1=k))
 | _,_,.nil=>rfl
 | _,_,.cons _ r=>by rw[p7,p7,cT.any r]
theorem cT.mx{k:Key}(q:Qdh):∀{kvs:CO} {gs:Cl},cT K CL Z kvs gs->cT K CL Z (kvs.map QkR) (gs.map QkQ)
 | _,_,.nil=>.nil
 | _,_,.cons (x:=x) h r=>by
  rw[kc,kc];by_cases e:x=k
  .rw[hO e,hO e];exact .cons q (cT.mx q r)
  .rw[cq e,cq e];exact .cons h (cT.mx q r)
theorem cT.snoc{k:Key}(q:Qdh):∀{kvs:CO} {gs:Cl},cT K CL Z kvs gs->cT K CL Z (kvs++[(k,d)]) (gs++[(k,v)])
 | _,_,.nil=>.cons q .nil
 | _,_,.cons h r=>.cons h (cT.snoc q r)
theorem cT.put{k:Key}(q:Qdh)(r:cT K CL Z kvs gs):cT K CL Z (NK kvs k d) (putK gs k v):=by
 unfold NK putK;rw[r.any];split
 .exact r.mx q
 .exact r.snoc q
theorem cB.key{k:Key}(r:cB K CL Z (x1 k) v):v=kV k:=by
 cases k with
 | inl i=>exact r.sc rfl
 | inr x=>exact r.sc rfl
theorem aj8(k:Key):cB K CL Z (x1 k) (kV k):=by
 cases k with
 | inl i=>exact .int i
 | inr x=>exact .str x
theorem Uh{Z:Hp}:∀ks:Do,au K CL Z (ks.map x1) (ks.map kV)
 | []=>.nil
 | k::ks=>.cons (aj8 k) (Uh ks)
theorem bC.apJ{p:Addr}(S:Qan)(d:H p=none):aB H QhI/\bC K CL b QhI Z δ σ (.um []::ts) (.ref p::vs):=by
 obtain⟨fp,gp,e,r,nd,k⟩:=S.rep;have f:=S.zh.free d;have sh:aB H QhI:=aB.upd d;have keep:∀a∈fp++gp,a≠p:=λa c=>by
  have:∃o,H a=some o:=by
   obtain h|h:=hV.1 c
   .exact e.there a h
   .exact r.there a h
  obtain⟨o,q⟩:=this;exact aP q d
 refine⟨sh,⟨⟨fp,_,e.mono Qb QiS,.cons (.um aR .nil) (r.mono Qb λa c=>aq (keep a (by simp[c]))),?_,λa c=>?_⟩,S.bh.trans sh,S.zz,S.zh.trans sh,S.new,λa o q i=>?_,S.tab⟩⟩
 .refine(List.perm_middle).nodup_iff.2 (ma.2 ⟨λh=>keep p h rfl,nd⟩)
 .obtain h|h:=hR.1 ((List.perm_middle).mem_iff.1 c)
  .subst h;exact⟨f,S.bh.free d⟩
  .exact k a h
 .by_cases c:a=p
  .subst c;rw[aR]at q;cases q;cases i
  .rw[aq c]at q;exact S.tp a o q i
theorem bC.apK(k:Key)(S:bC K CL b H Z δ σ (.sh d::ts) QaO)(hi:δ[i]? = some (some (.um kvs))) :
  ∃a gs,σ[i]? = some Qf6/\H a=some (.dK gs)/\gs.length=kvs.length/\bC K CL b (upd H a (.dK (putK gs k v))) Z (δ.set i (some (.um (NK kvs k d)))) σ ts vs:=by
 obtain⟨fp,gp,e,r,nd,kk⟩:=S.rep;obtain⟨v0,f1,f2,l,hv,m,rt,put,_⟩:=e.get hi;subst m;cases rt with
 | @um a gs _ q rs=>
  cases r with
  | @cons _ _ _ _ s j g o=>
   cases g with
   | sh g=>
    have ne:∀c∈(f1++l)++j,c≠a:=λc f e=>by
     subst e;have p:((f1++([c]++l))++([]++j)).Perm (c::((f1++l)++j)):=by simp
     exact(ma.1 (p.nodup_iff.1 nd)).1 f
    refine⟨a,gs,hv,q,rs.length.symm,?_⟩;have n:b9 K CL (upd H a (.dK (putK gs k v))) Z _ _ [a]:=.um aR (rs.put g);have e2:=put Qb (λc f=>aq (ne c (by
     obtain h|h:=hV.1 f
     .simp[h]
     .simp[h]))) n
    rw[eX hv]at e2;exact S.Ph rfl kk Wp e2 (o.mono Qb λc f=>aq (ne c (by simp[f]))) nd λc f=>f
def Ic(B:QaC):om X QeM (λxs H Q=>∃p kvs,xs=[.ref p]/\H p=some Qck/\∀l,H l=none->Q Qee (upd H l (.lst ((kvs.map (·.1)).map kV)))):=by
 intro pins s σ H xs us Q I r h;obtain⟨p,kvs,rfl,o,q⟩:=h;obtain⟨u,rfl,g⟩:=vals1 r;cases g;obtain⟨z,hd,ws,rel,dd⟩:=To I.gD o;obtain⟨ep,D⟩:=dd.dictAt;refine PySem.W.kdl_call (PySem.W.kdl_dict (knd:=iy X.prog X.w) (kvs:=ws) (ep:=ep) hd) (I.ok.hd B) D (by rw[← rel.length];exact z) λh' tk a C A e d=>?_;have v:a.toList.length=ws.length:=by rw[Array.length_toList];exact d.1
 have hv:Vals ((kvs.map (·.1)).map kV) a.toList:=by
  rw[rel.keys];have gen:∀(l:List (Key×Value)) (m:B2),m.length=l.length->(∀(j:Nat) (x:Value),m[j]? = some x->∃k y,l[j]? = some (k,y)/\(iy X.prog X.w).is k x=true)->Vals ((l.map (·.1)).map kV) m:=by
   intro l
   induction l with
   | nil=>intro m hm _;cases m with
    | nil=>exact .nil
    | cons _ _=>simp at hm
   | cons p l n=>
    intro m hm c;cases m with
    | nil=>simp at hm
    | cons x m=>
     obtain⟨k,y,e1,e2⟩:=c 0 x rfl;simp at e1;subst e1;refine .cons ?_ (n m (by simpa using hm) λj f b=>by simpa using c QP f (by simpa using b));obtain⟨i,t,h1,h2⟩|⟨i,t,h1,h2⟩:=gj e2
     .subst h1 h2;exact⟨t,rfl⟩
     .subst h1 h2;exact⟨t,rfl⟩
  exact gen ws a.toList v λj x b=>d.2 j x (by rw[← LG];exact b)
 refine⟨.ref s.heap.objs.size,_,I.laid (t':=tk) A (Nat.le_refl _) (show iC X.prog X.w _ h' _ (.lst ((kvs.map (·.1)).map kV)) from⟨by simpa using z,a.toList,C,hv,by simpa using e⟩),rfl,q _ (I.gD.fresh (Nat.le_refl _))⟩
section
variable{d:L3.D}{D:gU}{kvs:List (Key×L3.D)}{k:Key}
def aj9:cL X CL b (.Dict [] [] pos) δ (.um []) δ:=λH Z σ ts vs Q S kk=>cK aeY λp a=>by
 obtain⟨c,d⟩:=S.apJ a;exact kk _ _ Z Qb c d
theorem apL(k:Key)(s:QfM)(n:QaK)(h:Qg3)(h2:dI X CL b e2 δ1 (x1 k) δ1)(h1:δ1[i]? = some (some (.um kvs)))(m:kvs.length<=1000000)(kk:dh X CL b gS (δ1.set i (some (.um (NK kvs k d)))) D)
  (hs:swapsWith e (some Qjz) pos.line X.env=pure false:=by rfl) :
  dh X CL b Qlv δ D:=cE λH Z σ ts vs E S M=>
 qP (ajD We Qcu dD dD hs) (h H Z σ ts vs _ S λv H1 Z1 j k1 f=>by
  obtain⟨v0,e0,_⟩:=f.look h1;refine⟨v0,e0,h2 H1 Z1 σ _ _ _ f λv2 H2 Z2 g k2 r l=>?_⟩;obtain⟨a,gs,c,p,o,q⟩:=r.apK k h1;rw[e0]at c;cases c;exact⟨a,_,rfl,l.key▸FF.k p (by rw[o];exact p8 m Wl),M.nx _ σ _ Z2 (j.trans g) q kk⟩)
def afv(g:Gx X)(hm:QeI)(h:dI X CL b e δ (.um kvs) δ1)(j:Qfa)(hs:Qaa:=by exact aS rfl):cL X CL b QiK δ (.lst (((kvs.map (·.1)).map x1).map T.sh)) δ1:=λH Z σ ts vs Q S k=>
 cK (jQ (Ic g.calm) j hm bH Qau (he:=hs)) (h H Z σ ts vs _ S λv H1 Z1 d k1 o r=>by
  cases r with
  | @um a gs _ m f=>
   refine⟨a,gs,rfl,m,λl i=>?_⟩;rw[← f.keys];obtain⟨c,n⟩:=(bC.pX (Uh _) o).kX (g0:=[]) Wp i;exact k _ _ _ d QcC n)
end
variable{w:V}{fs2:BN}
theorem dS.Ia{b:BS}(rt:b9 K CL H Z t v b):∀{W0:BN} {gs:CI} {fp:BS},dS K CL H Z QjB gs fp->∃a,dS K CL H Z (W0++(f,t)::fs2) gs a/\a.Perm (fp++b)
 | [],_,_,r=>by
  cases r with
  | @cons _ _ v' _ _ f1 gp h r=>
   cases h with
   | sh h=>
    cases h;exact⟨ _,.cons rt r,l9⟩
 | (y,u)::W0,_,_,r=>by
  cases r with
  | @cons _ _ v' _ _ f1 gp h r=>
   obtain⟨a,c,p⟩:=dS.Ia rt r;refine⟨ _,.cons h c,?_⟩;rw[hZ];exact p.append_left f1
theorem bC.Ia{W0:BN}(S:bC K CL b H Z δ σ (.ins c QjB::t::ts) (w::v::vs)):bC K CL b H Z δ σ (.ins c (W0++(f,t)::fs2)::ts) (w::vs):=by
 obtain⟨fp,gp,e,r,nd,k⟩:=S.rep;cases r with
 | @cons _ _ _ _ g1 g2 o n=>
  cases n with
  | @cons _ _ _ _ g3 g m l=>
   cases o with
   | @ins a dx _ gs _ h s j=>
    obtain⟨i,d,p⟩:=dS.Ia m j;have pm:(fp++((a::i)++g)).Perm (fp++((a::h)++(g3++g))):=by
     refine mD fp ?_;rw[← hZ];refine List.Perm.append_right g ?_;simp_all
    exact⟨⟨fp,_,e,.cons (.ins s d) l,pm.nodup_iff.2 nd,λc q=>k c (pm.mem_iff.1 q)⟩,S.bh,S.zz,S.zh,S.new,S.tp,S.tab⟩
def LP(X:Cx)(CL:BC)(b:Bx)(es:Cf)(δ:BB)(dv:V->BA)(t:T)(δ':BB):Prop:=
 ∀(H Z:Hp) (σ:L2.St) (ts:Bn) (vs:BY) (Q:EO),bC X.K CL b H Z δ σ ts vs →
  (∀us H' Z' v,aB Z Z'->aB H H'->bC X.K CL b H' Z' δ' σ (t::ts) QaO->au X.K CL H' (dv v) us->Q us H')->WG X es σ H Q
theorem T.Ig{f:Str}{v:V}{fs2:BN}(h2:T.f7 fs2=true):∀{W0:BN},T.f7 W0=true->T.f7 QjB=true
 | [],_=>‹_›
 | (x,t)::W0,h=>by
  rw[T.f7,km]at h;rw[mi,T.f7,h.1,T.Ig h2 h.2];rfl
variable{ds:BA}{d:D}{dv:V->BA}
def afw(h:QaH)(r:nZ X CL b es δ1 ds δ2)(hs:notStar e=true:=by rfl):LP X CL b Qae δ (λv=>.val v::ds) t δ2:=λH Z σ ts vs Q S k=>
 LJ (bE dD LC (aS hs)) (h H Z σ ts vs _ S λv H1 Z1 c k1 g=>r H1 Z1 σ _ _ _ g λus H2 Z2 a k2 f d=>k _ H2 Z2 v Qcg Qaq f (.cons (.val v) d))
def Ui(h:QdH)(r:LP X CL b es δ1 dv t δ2)(hs:notStar e=true:=by rfl):LP X CL b Qae δ (λv=>d::dv v) t δ2:=λH Z σ ts vs Q S k=>
 LJ (bE dD LC (aS hs)) (h H Z σ ts vs _ S λv H1 Z1 c k1 j g=>r H1 Z1 σ ts vs _ j λus H2 Z2 v2 a k2 i f=>k _ H2 Z2 v2 Qcg Qaq i (.cons (g.mono k2) f))
variable{A:Type}{k:Nat}{arg:QaA}{Pre:Qab}
theorem mkP{res:A->BN}(a:V->A){W0:BN}(F:QjA)(B:Qam)(h:LP X CL b Qae δ dv t δ1)(G:∀v,arg (a v)=dv v)(w:∀v,Pre (a v))(i:∀v,res (a v)=W0++(f,.sh (.val v))::fs2)(C:T.f7 W0=true)(d:T.f7 fs2=true)(z:∀v,(arg (a v)).length+1=n:=by exactλ_=>rfl)
  (s:AD x:=by decide) (he:Qah:=by exact aS rfl) (hpl:Qaw:=by rfl) :
  cL X CL b Qby δ (.ins x (W0++(f,t)::fs2)) δ1:=λH Z σ ts vs Q S kk=>by
 obtain⟨I,fd,ps,M,E,hm,D⟩:=F.ex;exact cK (OY M E F.room B hm D .nil xD LC s he hpl) (h H Z σ ts vs _ S λus H1 Z1 v m k1 g r y dx u c ne=>by
  rw[iz];refine⟨H1,H1,a v,y,dx,us,rfl,u,c,ne,rfl,.refl _,λ_ _ q _=>q,W7,z v,w v,g.T5,λH' W' fp j ww p nw tp rt nd own=>⟨rfl,?_⟩⟩;obtain⟨Z',o,l⟩:=g.back j g.zh ww p nw tp rt nd own (.inr (by rw[i];exact T.Ig d C));rw[i]at l;exact kk _ H' Z' (m.trans o) (k1.trans j) l.Ia)
theorem Uj(f:Bool->Bool->Bool)(bs:Qeb):(List.range bs.length).all (λi=>bs.getD i true)=bs.all id:=by
 induction bs with
 | nil=>rfl
 | cons x bs a=>
  rw[k8,List.range_succ_eq_map,vw,vw,List.all_map];have:((λi=>(x::bs).getD i true)∘Nat.succ)=λi=>bs.getD i true:=by funext i;simp
  rw[this,a];rfl
theorem Pr(bs:Qeb):(List.range bs.length).any (λi=>bs.getD i true)=bs.any id:=by
 induction bs with
 | nil=>rfl
 | cons x bs a=>
  rw[k8,List.range_succ_eq_map,p7,List.any_map];have:((λi=>(x::bs).getD i true)∘Nat.succ)=λi=>bs.getD i true:=rfl;rw[this,a];rfl
def Uk{bs:Qeb}{its:B2}(r:Vals (bs.map V.bl) its){v:Value}(h:its.toArray[i]? = some v):v=.bool (bs.getD i true):=by
 have h':=by simpa using h
 have d:=r.length;have hi:=d▸(l4.1 h').1;obtain⟨u,c,b⟩:=r.get (kA hi);rw[h']at c;cases c;have a:=by simpa using hi
 have e:bs.getD i true=bs[i]:=by simp[a]
 rw[e];rw[List.getElem_map]at b;exact b
def acD(l:QaC):om X (.builtin "all") (λxs H Q=>∃(p:Addr) (bs:Qeb),xs=[.ref p]/\oj X.K H p (bs.map V.bl)/\Q (.bl (bs.all id)) H):=by
 intro pins s σ H xs us Q I r h;obtain⟨p,bs,rfl,j,q⟩:=h;obtain⟨u,rfl,f⟩:=vals1 r;cases f;obtain⟨its,d,pl,hz⟩:=I.list j;have c:=pl.isList;have g:p<s.heap.objs.size:=by obtain⟨o,e,_⟩:=id c;exact ij e
 have hlen:its.toArray.size=bs.length:=by rw[nt,← d.length,hP]
 refine call_all_walk (wpAny_pyIter_list c ⟨_,_,_,_,_,_,λi=>bs.getD i true,rfl,Walks.list (A:=X.A.in1) (show X.A.in1.handled=none from I.ok.hd l) _ p (kr g) its.toArray,⟨⟨_,lG _ rfl,rfl,rfl⟩,c.at λo e=>ka _ e⟩,λi v s Q E m hQ=>?_,λh' tk k=>?_⟩)
 .rw[Uk d m];exact wb hQ
 .rw[hlen,Uj (λa _=>a)];refine⟨.bl _,H,I.kept (t':=tk) (λb o e=>k b o (λz=>?_) (ka _ e)),rfl,q⟩;have:=i4.1 z;subst this;exact absurd (ij e) (tq _)
def acE(k:QaC):om X (.builtin "any") (λxs H Q=>∃(p:Addr) (bs:Qeb),xs=[.ref p]/\oj X.K H p (bs.map V.bl)/\Q (.bl (bs.any id)) H):=by
 intro pins s σ H xs us Q I r h;obtain⟨p,bs,rfl,g,q⟩:=h;obtain⟨u,rfl,d⟩:=vals1 r;cases d;obtain⟨its,c,pl,hz⟩:=I.list g;have a:=pl.isList;have f:p<s.heap.objs.size:=by obtain⟨o,e,_⟩:=id a;exact ij e
 have hlen:its.toArray.size=bs.length:=by rw[nt,← c.length,hP]
 refine call_any_walk (wpAny_pyIter_list a ⟨_,_,_,_,_,_,λi=>bs.getD i true,rfl,Walks.list (A:=X.A.in1) (I.ok.hd k) _ p (kr f) _,⟨⟨_,lG _ rfl,rfl,rfl⟩,a.at λo e=>ka _ e⟩,λi v s Q E l hQ=>?_,λh' tk j=>?_⟩)
 .rw[Uk c l];exact wb hQ
 .rw[hlen,Pr];refine⟨.bl _,H,I.kept (λb o e=>j b o (λz=>?_) (ka _ e)),rfl,q⟩;have:=i4.1 z;subst this;exact absurd (ij e) (tq _)
def acF:bootBuiltins "all" = some (.builtin "all"):=by decide +kernel
def acG:bootBuiltins "any" = some (.builtin "any"):=by decide +kernel
theorem Ih{K:Frag}{CL:BC}{H:Hp}:∀{l:Qeb} {us:BY},au K CL H (l.map D.bl) us->us=l.map V.bl
 | [],_,r=>by
  have a:=r;cases a;rfl
 | y::l,_,r=>by
  have a:=r;cases a with
  | cons c b=>rw[c.sc rfl,Ih b];rfl
variable{l:Qeb}
def apM(g:Gx X)(hm:X.mg "all" = none)(h:QlE)(i:Gl X "all")(hs:Qaa:=by exact aS rfl):cL X CL b (.Call (.Name "all" pp) [e] [] pos) δ (.sh (.bl (l.all id))) δ1:=λH Z σ ts vs Q S k=>
 cK (j6 (acD g.calm) i hm acF Qau (he:=hs)) (h H Z σ ts vs _ S λv H1 Z1 c k1 j r=>by
  cases r with
  | @lst a us _ f d=>
   have:=Ih d;subst this;exact⟨a,l,rfl,f,k _ H1 Z1 c k1 QhX⟩)
def apN(g:Gx X)(hm:X.mg "any" = none)(h:QlE)(i:Gl X "any")(hs:Qaa:=by exact aS rfl):cL X CL b (.Call (.Name "any" pp) [e] [] pos) δ (.sh (.bl (l.any id))) δ1:=λH Z σ ts vs Q S k=>
 cK (j6 (acE g.calm) i hm acG Qau (he:=hs)) (h H Z σ ts vs _ S λv H1 Z1 c k1 j r=>by
  cases r with
  | @lst a us _ f d=>
   have:=Ih d;subst this;exact⟨a,l,rfl,f,k _ H1 Z1 c k1 QhX⟩)
namespace Rv
def acH:PySem.Slot "reversed" "__init__" "object.__init__":=
 .of (owner:="object") (n:="__init__") (by rw[typeLookup_type,builtinLookup_eq_fast];kernel_rfl) Wg Wg Wg
  (by first|exact .inl Wg|exact .inr Wg) (by rw[isSubtype_type];kernel_rfl)
noncomputable def called:TypeCalled "reversed" "reversed.__new__" "object.__init__":=
 ⟨Wg,Wg,⟨_,_,PySem.F.mro_reversed⟩,PySem.F.made_reversed,Wg,PySem.F.sub_reversed_self,acH⟩
noncomputable def obj(t:Addr)(i:Int):Obj:={cls:=.type "reversed",data:=.fields #[.ref t,rawInt i]}
end Rv
noncomputable def constInt:Expr->CU
 | .Constant (.int i) _ _=>some i
 | .UnaryOp .USub (.Constant (.int i) _ _) _=>some (-i)
 | _=>none
def DK:Cf->Option AT
 | []=>some []
 | e::es=>(constInt e).bind λx=>(DK es).map (x::·)
def acI{x:Int}(h:constInt e=some x):cL X CL b e δ (.sh Qdy) δ:=by
 unfold constInt at h;split at h
 .cases h;exact bB
 .cases h;exact gV (ay bB)
 .cases h
def Ul{x:Int}(h:constInt e=some x):notStar e=true:=by
 unfold constInt at h;split at h
 .rfl
 .rfl
 .cases h
theorem aav:∀{es:Cf} {l:AT},DK es=some l->Nv X CL b es δ ((l.map D.int).map T.sh) δ
 | [],l,h=>by
  have e:l=[]:=(k4 h).symm;subst e;exact bD
 | e::es,l,h=>by
  rw[DK]at h;obtain⟨x,a,h⟩:=Option.bind_eq_some_iff.1 h;obtain⟨d,c,rfl⟩:=yA.1 h;exact aO (acI a) (aav c) (aS (Ul a))
def afx(l q:Addr)(xs ys:CS)(n m:Nat)(i:Dx)(b:Cn)(k:QkC)(e:xs.size<=sizeLine)(c:xs.size+ys.size<=sizeLine+1) :
  PySem.Meets (Builtin.«list.extend» ⟨[.ref l,.ref q],[]⟩) (λ_ R s=>s.heap.get? l=some {cls:=.type "list",dict:=none,data:=.seq xs n,slots:=#[]}/\s.heap.get? q=some {cls:=.type "tuple",dict:=i,data:=.seq ys m,slots:=b} ∧
   R (.ok (.ret Value.none)) {s with heap:=s.heap.update l (Obj.mapSeq λx=>x++ys),toks:=s.toks}):=
 PySem.Meets.of_wp λprog w A R s h=>by
  obtain⟨j,g,d,tk,os⟩:=s;obtain⟨a,f,h⟩:=h;have f1:=AutoSeq1.idx_int;have p:=AutoSeq1.sub_list_list;have f4:=AutoSeq1.sub_tuple_list;have o:=AutoSeq1.sub_list_tuple;have hz:(xs++ys).size<=sizeLine+1:=by
   rw[Array.size_append];exact c
  wp_walk using QkV,wpAny_loadPart' a,wpAny_loadPart' f
  exact⟨_,rfl,h⟩
def aut(K:Frag):V->BY->Hp->VK->Prop:=λx vs H Q=>∃l q xs zs,x=.ref l/\vs=[.ref q]/\H l=some QaY/\Dz K H q zs/\xs.length+zs.length<=sizeLine/\Q .non Qjx
theorem akb:He X "list.extend" (aut X.K):=by
 intro pins s σ H x vs v us Q I f g h;obtain⟨l,q,xs,zs,rfl,rfl,c,o,hz,k⟩:=h;cases f;obtain⟨u,rfl,i⟩:=g.one;cases i;obtain⟨z,its,n,r,y,e⟩:=I.x3 c;obtain⟨d,b,⟨⟨A,d2,p,s2⟩,e2,a,j,hd2⟩,w⟩:=I.tuple o;cases a;cases hd2;have m:=b.length;have hsz:its.toArray.size+d.toArray.size<=sizeLine:=by grind
 have t:¬ (!its.toArray.isEmpty&&Builtin.List.listTooLong (its.toArray.size+d.toArray.size))=true:=by
  rw[BZ hsz,Bool.and_false];decide
 refine tw F.slot_list_extend ⟨_,e,rfl⟩ F.entry_list_extend Qjm (afx l q _ _ n j d2 s2 t W8 We) ⟨e,e2,?_⟩;refine⟨.non,_,I.FK c e Wp (r.append b) ?_,rfl,k⟩;simp_all
variable{ds:BA}
theorem bC.akc(S:Qan)(n:QeL)(hi:δ[i]? = some Qcy) :
  ∃a ws,σ[i]? = some Qf6/\H a=some (.lst ws)/\ws.length=tl.length/\bC K CL b (upd H a (.lst (ws++us))) Z (δ.set i (some Qhd)) σ ts vs:=by
 obtain⟨fp,gp,e,r,nd,k⟩:=S.rep;obtain⟨v0,f1,f2,f,hv,m,rt,put,_⟩:=e.get hi;subst m;cases rt with
 | @lst a ws _ g l rs=>
  have ne:∀c∈(f1++(g++f))++gp,c≠a:=λc d e=>by
   subst e;have o:((f1++((c::g)++f))++gp).Perm (c::((f1++(g++f))++gp)):=by simp
   exact(ma.1 (o.nodup_iff.1 nd)).1 d
  refine⟨a,ws,hv,l,rs.length.symm,?_⟩;have j:b9 K CL _ Z _ _ _:=
   .lst aR (aW.app (rs.mono Qb λc d=>aq (ne c (by simp[d]))) (aW.Mc n))
  rw[iz]at j;have e2:=put Qb (λc d=>aq (ne c (by
   obtain h|h:=hV.1 d
   .simp[h]
   .simp[h]))) j
  rw[eX hv]at e2;exact S.write nd k (hU) ⟨_,l⟩ e2 (r.mono Qb λc d=>aq (ne c (by simp[d]))) nd λc d=>d
section
variable{ds:BA}{D:gU}
def W2(n:QaK)(h0:δ[i]? = some QhM)(h:dI X CL b e δ (.tup ds) δ1)(u:L3.D.bS ds=true)(h1:δ1[i]? = some Qcy)(s:tl.length+ds.length<=1000000)(k:dh X CL b gS (δ1.set i (some Qhd)) D)
  (p:Qlb:=by rfl)
  (m:AB X pb e:=by rfl)
  (c:Qeu:=by rfl) (hs:Qaa:=by exact aS rfl)
  (y:Qlo:=by rfl) :
  dh X CL b (.Expr Qiq pos::gS) δ D:=cE λH Z σ ts vs E S M=>
 qP (yT (HB yI OK OH akb Qcu Qau p m c hs rfl) y) (by
  obtain⟨v0,e0,o⟩:=S.look h0;refine⟨v0,e0,?_,?_⟩
  .cases o with
   | lst d _=>exact .inl ⟨rfl,_,d⟩
  .refine h H Z σ ts vs _ S λv H1 Z1 l k1 j r=>?_;cases r with
   | tup d f=>
    obtain⟨a,ws,g,t,q,w⟩:=j.akc (au.u9 j.tp u f) h1;rw[e0]at g;cases g;have hz:=f.length;exact⟨a,_,ws,_,rfl,rfl,t,d,by rw[q,← hz];exact kv (p8 s Wl),M.nx _ σ _ Z1 l w k⟩)
end
section
abbrev _root_.ET:=Array Keyed
variable{a₀ xs:ET}{ι:D2}
structure Tag(a₀ xs:ET)(ι:D2)(n:Nat):Prop where
 pl:∀k,k<a₀.size->xs[k]? = a₀[ι k]?
 lo:∀k,k<n->ι k<n
 hi:∀k,n<=k->ι k=k
def xP(xs:ET)(ι:D2)(n:Nat):Prop:=∀i j,i<j->j<n->PyProof.Rows.K xs i<PyProof.Rows.K xs j\/(PyProof.Rows.K xs i=PyProof.Rows.K xs j/\ι i<ι j)
def LW(xs:ET)(ι:D2)(n:Nat):Prop:=∀i j,i<j->j<n->PyProof.Rows.K xs j<PyProof.Rows.K xs i\/(PyProof.Rows.K xs j=PyProof.Rows.K xs i/\ι j<ι i)
theorem Tag.grow(h:Qh3):Tag a₀ xs ι (n+1):=⟨h.pl,λk a=>by
  by_cases e:k<n
  .have:=h.lo k e;lia
  .have:=h.hi k We;lia,λk a=>h.hi k We⟩
theorem Tag.ayw(h:Qh3){m:Nat}(hm:n<=m):Tag a₀ xs ι m:=⟨h.pl,λk a=>by
  by_cases e:k<n
  .have:=h.lo k e;lia
  .have:=h.hi k We;lia,λk a=>h.hi k We⟩
noncomputable def turned(ι:D2)(i j:Nat):Nat->Nat:=λk=>if i<=k/\k<j then ι (i+j-1-k) else ι k
theorem Tag.turn(h:Qh3)(c:j<=n)(b:n<=a₀.size)(hs:xs.size=a₀.size):Tag a₀ (mirror xs i j ((j-i) / 2)) (turned ι i j) n:=by
 refine⟨λk a=>?_,λk a=>?_,λk a=>?_⟩
 .rw[getElem?_mirror_all We];unfold turned;split
  .exact h.pl _ We
  .exact h.pl _ a
 .unfold turned;split
  .exact h.lo _ We
  .exact h.lo _ a
 .unfold turned;rw[cq We];exact h.hi k a
noncomputable def xJ(ι:D2)(k l:Nat):Nat->Nat:=λp=>if p=l then ι k else if l<p/\p<=k then ι (p-1) else ι p
theorem Tag.sink(h:Qh3){l:Nat}(d:l<=n)(c:n<a₀.size)(hs:xs.size=a₀.size):Tag a₀ (bubble xs n (n-l)) (xJ ι n l) (n+1):=by
 have b:=h.grow;refine⟨λk a=>?_,λk a=>?_,λk a=>?_⟩
 .rw[getElem?_bubble We _ We,show n-(n-l)=l by lia];unfold xJ;split
  .exact h.pl _ We
  .split
   .exact h.pl _ We
   .exact h.pl _ a
 .unfold xJ;split
  .exact b.lo _ We
  .split
   .exact b.lo _ We
   .exact b.lo _ a
 .unfold xJ;rw[cq We,cq We];exact b.hi k a
theorem xP.le(h:xP xs ι n)(b:i<=j)(a:j<n):PyProof.Rows.K xs i<=PyProof.Rows.K xs j:=by
 by_cases e:i=j
 .subst e;grind
 .obtain z|z:=h i j We a<;>lia
end
section
variable{w:World}{A:QaF}{a₀:ET}
theorem Uo{st:SortSt}{ι:D2}{a b:Nat}{Q:AscSt->SortSt->Prop}(h0:Qd0)(u:b<=a₀.size)(y:1<=a)(p:a<=b)(r:Qdj)
  (m:Tag a₀ (arrOf st) ι a) (hs:xP QaW ι a)
  (h:∀n,a<=n->n<=b->Tag a₀ (arrOf st) ι n->xP QaW ι n->(n=b\/PyProof.Rows.K QaW n<PyProof.Rows.K QaW QcI)->Q (none,n) st) :
  wpS Qak A E s (ascLoop a b) Q st:=by
 unfold ascLoop;refine x7 (I:=λx c z=>z=st/\c=(none,x)/\Tag a₀ (arrOf st) ι x/\xP QaW ι x) ?one ?all ⟨rfl,rfl,m,hs⟩
 case all=>
  rintro c z ⟨rfl,rfl,t,o⟩;grind
 case one=>
  rintro x c z g l ⟨rfl,rfl,t,o⟩;dsimp only;refine ku (wpS_ltK r h0 We We ?_);by_cases d:PyProof.Rows.K Qai x<PyProof.Rows.K Qai (x-1)
  .simp only[d,decide_true,o3];exact l8 (h x g We t o (.inr d))
  .simp only[d,decide_false,og,oe];refine l8 ⟨rfl,rfl,t.grow,λi j k v=>?_⟩;by_cases f:j<x
   .exact o i j k f
   .have e:j=x:=by lia
    subst e;have q:=o.le (i:=i) (j:=j-1) We We;have l1:=t.lo i k;have l2:=t.hi j (hW _);lia
theorem Up{st:SortSt}{ι:D2}{b:Nat}{Q:Qjo}(h0:Qd0)(f:b<=a₀.size)(h1:1<=n)(c:n<=b)(d:Qdj)
  (e:Tag a₀ (arrOf st) ι n) (hs:LW QaW ι n)
  (h:∀m z κ,SBase a₀ z->1<=m->m<=b->Tag a₀ (arrOf z) κ m->xP Qai κ m->Q (some m) z) :
  wpS Qak A E s (tail3 n b) Q st:=by
 have hz:n<=(arrOf st).size:=by rw[d.size];lia
 have a:SBase a₀ (setArr st (mirror _ 0 n ((n-0) / 2))):=d.setArr Qhj;refine ku (wpS_reverse ?_);refine ku (Uo h0 f h1 c a (e.turn (hW _) We d.size) ?_ λm m1 m2 t o _=>l8 (h m _ _ a We m2 t o));intro i j k g;rw[K_mirror hz,K_mirror hz,hO We,hO We];unfold turned;rw[hO We,hO We];exact hs _ _ We We
structure F4(xs:ET)(ι:D2)(p x:Nat):Prop where
 f:LW xs ι p
 l:∀i j,i<p->p<=j->j<x->PyProof.Rows.K xs j<PyProof.Rows.K xs i
 e:∀i j,p<=i->i<j->j<x->PyProof.Rows.K xs i=PyProof.Rows.K xs j/\ι i<ι j
theorem F4.one{xs:ET}{ι:D2}{p:Nat}(h:F4 xs ι p (p+1)):LW xs ι (p+1):=λi j b a=>by
 by_cases e:j<p
 .exact h.f i j b e
 .exact .inl (h.l i j We We a)
theorem F4.turn{xs:ET}{ι:D2}{p x:Nat}(h:F4 xs ι p x)(a:x<=xs.size):LW (mirror xs p x ((x-p) / 2)) (turned ι p x) x:=by
 intro i j c d;rw[K_mirror a,K_mirror a];unfold turned;by_cases hi:p<=i
 .rw[hO We,hO We,hO We,hO We];have q:=h.e (p+x-1-j) (p+x-1-i) We We We;simp_all
 .rw[cq (show ¬ (p<=i/\i<x) by lia),cq (show ¬ (p<=i/\i<x) by lia)];by_cases b:p<=j
  .rw[hO We];exact .inl (h.l _ _ We We We)
  .rw[cq We,cq We];exact h.f i j c We
theorem LW.le{xs:ET}{ι:D2}(h:LW xs ι n)(b:i<=j)(a:j<n):PyProof.Rows.K xs j<=PyProof.Rows.K xs i:=by
 by_cases e:i=j
 .subst e;grind
 .obtain z|z:=h i j We a<;>lia
theorem LW.half{xs:ET}{ι:D2}{x:Nat}(h:LW xs ι x)(a:0<x)(b:PyProof.Rows.K xs x<PyProof.Rows.K xs (x-1)):F4 xs ι x (x+1):=
 ⟨h,λi j hi h1 h2=>by
  have e:j=x:=by lia
  subst e;have:=h.le (i:=i) (j:=j-1) We We;lia,λi j h1 h2 c=>by lia⟩
theorem acK{st:SortSt}{ι:D2}{b:Nat}{Q:DescSt->SortSt->Prop}(h0:Qd0)(D:b<=a₀.size)(g:n+1<=b)(C:Qdj)
  (B:Tag a₀ (arrOf st) ι (n+1)) (hs:F4 QaW ι n (n+1))
  (h:∀m a z κ,SBase a₀ z->n+1<=m->m<=b->a+1<=m->Tag a₀ (arrOf z) κ m->F4 Qai κ (m-(a+1)) m->Q (none,m,a) z) :
  wpS Qak A E s (descLoop (n+1) b) Q st:=by
 unfold descLoop;refine x7 (I:=λx c z=>∃a κ,c=(none,x,a)/\SBase a₀ z/\a+1<=x/\Tag a₀ (arrOf z) κ x/\F4 Qai κ (x-(a+1)) x) ?one ?all ⟨0,ι,rfl,C,We,B,hs⟩
 case all=>
  rintro c z ⟨a,κ,rfl,b2,q,t,o⟩;have e:max (n+1) b=b:=by lia
  rw[e]at q t o ⊢;exact h b a z κ b2 g (hW _) q t o
 case one=>
  rintro x c z r v ⟨a,κ,rfl,b2,q,t,o⟩;dsimp only;have hz:x<=(arrOf z).size:=by rw[b2.size];lia
  refine ku (wpS_ltK b2 h0 We We ?_);by_cases d:PyProof.Rows.K Qai x<PyProof.Rows.K Qai (x-1)
  .simp only[d,decide_true,o3];by_cases u:a > 0
   .rw[hO u];have hm:∀k,PyProof.Rows.K (mirror Qai (x-(a+1)) x ((x-(x-(a+1))) / 2)) k=PyProof.Rows.K Qai k:=K_mirror_equal hz λk k1 k2=>by
     by_cases e:k=x-1
     .rw[e]
     .exact(o.e k (x-1) k1 We We).1
    refine ku (wpS_reverse (l8 ⟨0,turned κ (x-(a+1)) x,rfl,b2.setArr Qhj,We,(t.turn (hW _) We b2.size).grow,?_⟩));have hf:=o.turn hz;refine hf.half We ?_;rw[hm,hm];exact d
   .rw[cq u];have e0:a=0:=by lia
    subst e0;obtain⟨y,rfl⟩:∃y,x=y+1:=⟨x-1,We⟩;have hf:LW Qai κ (y+1):=F4.one o;exact l8 ⟨0,κ,rfl,b2,We,t.grow,hf.half We d⟩
  .simp only[d,decide_false,og,oe];refine ku (wpS_ltK b2 h0 We We ?_);by_cases p:PyProof.Rows.K Qai (x-1)<PyProof.Rows.K Qai x
   .simp only[p,decide_true,o3];exact l8 (h x a z κ b2 r We q t o)
   .simp only[p,decide_false,og,oe];have he:PyProof.Rows.K Qai x=PyProof.Rows.K Qai (x-1):=Int.le_antisymm (Int.not_lt.1 p) (Int.not_lt.1 d);refine l8 ⟨a+1,κ,rfl,b2,We,t.grow,?_⟩;rw[show x+1-(a+1+1)=x-(a+1) by lia];refine⟨o.f,λi j hi h1 h2=>?_,λi j h1 h2 F=>?_⟩
    .by_cases e:j=x
     .rw[e,he];exact o.l i (x-1) hi We We
     .exact o.l i j hi h1 We
    .by_cases e:j=x
     .subst e;have l1:=t.lo i h2;have l2:=t.hi j (hW _);refine⟨?_,We⟩;rw[he];by_cases e2:i=j-1
      .rw[e2]
      .exact(o.e i (j-1) h1 We We).1
     .exact o.e i j h1 h2 We
theorem NP{st:SortSt}{ι:D2}{a:Nat}{Q:Qjo}(h0:Qd0)(c:a<=a₀.size)(b:n+1<=a)(g:Qdj)
  (e:Tag a₀ (arrOf st) ι (n+1)) (hs:F4 QaW ι n (n+1))
  (h:∀m z κ,SBase a₀ z->1<=m->m<=a->Tag a₀ (arrOf z) κ m->xP Qai κ m->Q (some m) z) :
  wpS Qak A E s (descPart n a) Q st:=by
 refine ku (wpS_lift (wpAny_rule ⟨rfl,?_⟩));refine ku (acK h0 c b g e hs λm d z κ b2 m1 m2 q t o=>?_);dsimp;have hz:m<=(arrOf z).size:=by rw[b2.size];lia
 by_cases f:d > 0
 .rw[hO f];exact ku (wpS_reverse (Up h0 c We m2 (b2.setArr Qhj) (t.turn (hW _) We b2.size) (o.turn hz) h))
 .have e0:d=0:=by lia
  subst e0;obtain⟨y,rfl⟩:∃y,m=y+1:=⟨m-1,We⟩;exact Up h0 c We m2 b2 t (F4.one o) h
theorem afy{st:SortSt}{d:Nat}{Q:Qjo}(h0:Qd0)(g:d<=a₀.size)(h1:1<=d)(a:Qdj)(v:Tag a₀ (arrOf st) id 0)
  (h:∀m z κ,SBase a₀ z->1<=m->m<=d->Tag a₀ (arrOf z) κ m->xP Qai κ m->Q (some m) z) :
  wpS Qak A E s (countRun' 0 d) Q st:=by
 rw[countRun0_eq];refine ku (Uo (ι:=id) h0 g (hW 1) h1 a (v.ayw We) (λi j B r=>by lia) λn n1 p t o f=>?_);dsimp only;by_cases b:n=d
 .rw[if_pos (by simpa using b)];exact l8 (h n st id a n1 p t o)
 .rw[if_neg (by simpa using b)];have l:=f.resolve_left b;have hz:n<=(arrOf st).size:=by rw[a.size];lia
  by_cases e:n > 1
  .rw[hO e];refine ku (wpS_ltK a h0 We We ?_);by_cases q:PyProof.Rows.K QaW 0<PyProof.Rows.K QaW QcI
   .simp only[q,decide_true,o3];exact l8 (h n st id a n1 p t o)
   .simp only[q,decide_false,og,oe];have c:∀k,0<=k->k<n->PyProof.Rows.K QaW k=PyProof.Rows.K QaW QcI:=λk _ x=>by
     have a1:=o.le (i:=0) (j:=k) We x;have a2:=o.le (i:=k) (j:=n-1) We We;lia
    have hm:=K_mirror_equal (i:=0) hz c;refine ku (wpS_reverse (NP (ι:=turned id 0 n) h0 g We (a.setArr Qhj) (t.turn (hW _) We a.size).grow ?_ h));have y:F4 QaW id 0 n:=⟨λi j _ r=>by lia,λi j hi=>by lia,λi j i1 i2 u=>⟨by rw[c i We We,c j We u],i2⟩⟩;refine(y.turn hz).half We ?_;rw[hm,hm];exact l
  .rw[cq e];have e1:n=1:=by lia
   subst e1;exact NP h0 g We a t.grow ((show LW QaW id 1 fromλi j B r=>by lia).half We l) h
theorem apO{l r x:Nat}(h1:l<=r)(h2:r<=k)(a:r-l<=k-x)(c:¬ l ≥ r):l<=(l+r) / 2/\(l+r) / 2<=k/\(l+r) / 2-l<=k-(x+1)/\(l+r) / 2+1<=r/\r-((l+r) / 2+1)<=k-(x+1)/\(l+r) / 2<k:=by
 have c:=Nat.lt_of_not_le c;have d:l<=(l+r) / 2:=by clear h1 h2 a;lia
 have b:(l+r) / 2<r:=by clear h1 h2 a;lia
 exact⟨d,kq (kv b) h2,Nat.le_pred_of_lt (l6 (Nat.sub_lt_sub_right d b) a),b,Nat.le_pred_of_lt (l6 (Nat.sub_lt_sub_left c (Nat.lt_succ_of_le d)) a),l6 b h2⟩
theorem afz{st:SortSt}{ι:D2}{ok:Nat}{Q:Bool->SortSt->Prop}(h0:Qd0)(J:n<=a₀.size)(gD:ok<=n)(C:1<=ok)(H:Qdj)(B:Tag a₀ (arrOf st) ι ok)(hs:xP QaW ι ok)
  (h:∀z κ,SBase a₀ z->Tag a₀ (arrOf z) κ n->xP Qai κ n->Q true z):wpS Qak A E s (binarySort' 0 n ok) Q st:=by
 rw[binarySort'_eq];simp only[Nat.zero_add];refine ku (wpS_mono (x7 (I:=λk c z=>c=(none,())/\SBase a₀ z/\∃κ,Tag a₀ (arrOf z) κ k/\xP Qai κ k)
  (Q:=λc z=>c=(none,())/\SBase a₀ z/\∃κ,Tag a₀ (arrOf z) κ n/\xP Qai κ n) ?one ?all ?new) ?post)
 case post=>
  rintro c z ⟨rfl,b2,κ,t,o⟩;exact l8 (h z κ b2 t o)
 case new=>
  rw[show max ok 1=ok by lia];exact⟨rfl,H,ι,B,hs⟩
 case all=>
  rintro c z ⟨F,b2,κ,t,o⟩;rw[show max (max ok 1) n=n by lia]at t o;exact⟨F,b2,κ,t,o⟩
 case one=>
  rintro k c z G D ⟨rfl,b2,κ,t,o⟩;have p:k<a₀.size:=by lia
  refine ku (wpS_mono (x7 (I:=λx c y=>y=z/\∃l r,c=(none,l,r)/\l<=r/\r<=k/\r-l<=k-x/\(∀i,i<l->PyProof.Rows.K Qai i<=PyProof.Rows.K Qai k)/\(∀i,r<=i->i<k->PyProof.Rows.K Qai k<PyProof.Rows.K Qai i))
   (Q:=λc y=>y=z/\∃l r,c=(none,l,r)/\l<=k/\(∀i,i<l->PyProof.Rows.K Qai i<=PyProof.Rows.K Qai k)/\(∀i,l<=i->i<k->PyProof.Rows.K Qai k<PyProof.Rows.K Qai i)) ?two ?fin ?beg) ?aft)
  case beg=>exact⟨rfl,0,k,rfl,We,We,We,λi hi=>by lia,λi g1 g2=>by lia⟩
  case fin=>
   rintro c y ⟨rfl,l,r,rfl,g1,g2,g3,f,d⟩;have e:l=r:=by lia
   subst e;exact⟨rfl,l,l,rfl,g2,f,d⟩
  case two=>
   rintro x c y _ v ⟨rfl,l,r,rfl,g1,g2,g3,f,d⟩;dsimp only;by_cases b:l ≥ r
   .rw[hO b];have e:l=r:=by lia
    subst e;exact l8 ⟨rfl,l,l,rfl,g2,f,d⟩
   .rw[cq b];have M:=apO g1 g2 g3 b;refine ku (wpS_ltK b2 h0 p (Nat.lt_trans M.2.2.2.2.2 p) ?_);by_cases m:PyProof.Rows.K (arrOf y) k<PyProof.Rows.K (arrOf y) ((l+r) / 2)
    .simp only[m,decide_true,o3];exact l8 ⟨rfl,l,(l+r) / 2,rfl,M.1,M.2.1,M.2.2.1,f,λi i1 i2=>Int.lt_of_lt_of_le m (o.le i1 i2)⟩
    .simp only[m,decide_false,og,oe];exact l8 ⟨rfl,(l+r) / 2+1,r,rfl,M.2.2.2.1,g2,M.2.2.2.2.1,λi i1=>Int.le_trans (o.le (i:=i) (j:=(l+r) / 2) (Nat.lt_succ_iff.1 i1) M.2.2.2.2.2) (Int.not_lt.1 m),d⟩
  case aft=>
   rintro c y ⟨rfl,l,r,rfl,g2,f,d⟩;show wpS _ _ _ _ (do moveDown' k l;pure (ForInStep.yield (none,()))) _ _;rw[moveDown'_eq];have g:k<(arrOf y).size:=by rw[b2.size];exact p
   refine ku (wpS_modify (l8 ⟨rfl,b2.setArr (bubble_perm _ _ _),xJ κ k l,t.sink g2 p b2.size,?_⟩));intro i j N L;show PyProof.Rows.K QgT i<PyProof.Rows.K QgT j\/(PyProof.Rows.K QgT i=PyProof.Rows.K QgT j/\_);rw[K_bubble g We,K_bubble g We,show k-(k-l)=l by lia];unfold xJ;have tk:=t.hi k (hW _);by_cases u:i=l
   .rw[hO u,hO u,cq (show ¬ j=l by lia),cq (show ¬ j=l by lia),hO We,hO We];exact .inl (d _ We We)
   .rw[cq u,cq u];by_cases q:j=l
    .rw[hO q,hO q,cq We,cq We];have:=f i We;have:=t.lo i We;lia
    .rw[cq q,cq q];by_cases hi:l<i/\i<=k
     .rw[hO hi,hO hi,hO We,hO We];exact o _ _ We We
     .rw[cq hi,cq hi];by_cases a:l<j/\j<=k
      .rw[hO a,hO a];exact o _ _ We We
      .rw[cq a,cq a];exact o _ _ We We
def Oy(a₀:ET)(st:SortSt):Prop:=failedOf st=none/\pendingOf st=#[(0,a₀.size,0)]/\∃κ,Tag a₀ (arrOf st) κ a₀.size/\xP QaW κ a₀.size/\(arrOf st).size=a₀.size
noncomputable def U2{st:SortSt}{κ:D2}(a:Qdj)(t:Tag a₀ (arrOf st) κ a₀.size)(o:xP QaW κ a₀.size):Oy a₀ (setPending st ((pendingOf st).push (0,a₀.size,0))):=
 ⟨a.failed,by rw[a.pend];rfl,κ,t,o,a.size⟩
theorem acM{st:SortSt}{Q:Unit->SortSt->Prop}(h0:Qd0)(e:Qdj)(v:Tag a₀ (arrOf st) id 0)(h2:2<=a₀.size)(C:a₀.size<64)
  (h:∀z κ,failedOf z=none->Tag a₀ (arrOf z) κ a₀.size->xP Qai κ a₀.size->(arrOf z).size=a₀.size->Q () z):wpS Qak A E s sortRuns' Q st:=by
 rw[sortRuns'_eq];refine ku (wpS_get ?_);dsimp only;have a:minRun' a₀.size a₀.size 0=a₀.size:=by
  obtain⟨f,hf⟩:∃f,a₀.size=f+1:=⟨a₀.size-1,We⟩;have q:minRun' (f+1) a₀.size 0=a₀.size:=by
   rw[minRun'_succ,hO C];rfl
  rwa [← hf]at q
 rw[e.size,a];refine ku (wpS_mono (x7 (I:=λx c z=>(x=0/\c=(none,0)/\SBase a₀ z/\Tag a₀ (arrOf z) id 0)\/(1<=x/\c=(none,a₀.size)/\Oy a₀ z))
  (Q:=λc z=>c=(none,a₀.size)/\Oy a₀ z) ?one ?all (.inl ⟨rfl,rfl,e,v⟩)) ?aft)
 case all=>
  rintro c z (⟨u,_⟩|⟨_,B,hD⟩)
  .lia
  .exact⟨B,hD⟩
 case one=>
  rintro x c z _ u (⟨rfl,rfl,b2,t0⟩|⟨r,rfl,hD⟩)
  .dsimp only;rw[cq We];rw[Nat.sub_zero,Nat.min_self,Nat.zero_add];refine ku (afy h0 (hW _) We b2 t0 λm k κ b3 m1 m2 t o=>?_);dsimp only;by_cases d:m<a₀.size
   .rw[hO d];refine ku (wpS_lift (wpAny_rule ⟨rfl,?_⟩));refine ku (afz h0 (hW _) m2 m1 b3 t o λj i g n p=>?_);simp only[Bool.not_true,og,oe];refine ku (wpS_get ?_);have b:(pendingOf j).back? = none:=by rw[g.pend];rfl
    rw[b];dsimp only;exact ku (wpS_modify (l8 (.inr ⟨We,by first|rfl|rw[Nat.zero_add],U2 g n p⟩)))
   .rw[cq d];have hm:m=a₀.size:=by lia
    subst hm;refine ku (wpS_get ?_);have b:(pendingOf k).back? = none:=by rw[b3.pend];rfl
    rw[b];dsimp only;exact ku (wpS_modify (l8 (.inr ⟨We,by first|rfl|rw[Nat.zero_add],U2 b3 t o⟩)))
  .dsimp only;rw[hO (hW _)];exact l8 ⟨rfl,hD⟩
 case aft=>
  rintro c z ⟨rfl,hD⟩;dsimp only;refine ku (wpS_mono (x7 (I:=λ_ c y=>y=z/\c=(none,())) (Q:=λc y=>y=z/\c=(none,())) ?_ (λ_ _ q=>q) ⟨rfl,rfl⟩) ?_)
  .rintro x c y _ _ ⟨rfl,rfl⟩;refine ku (wpS_get ?_);rw[hO (by rw[hD.2.1];exact hW 1)];exact l8 ⟨rfl,rfl⟩
  .rintro c y ⟨rfl,rfl⟩;obtain⟨κ,t,o,l⟩:=hD.2.2;exact l8 (h _ κ hD.1 t o l)
end
def Pu{a c:AT}(p:a.Perm c)(s:a.Pairwise (· ≥ ·)):a=(sortI c).reverse:=by
 have h:=uq ((List.reverse_perm a).trans p) (List.pairwise_reverse.2 (s.imp λh=>h));rw[← h,List.reverse_reverse]
def tSR(K:Frag)(t:TA):TE:=λσ H Q=>t σ H λvs H1=>∃p ns,vs=[.ref p]/\oj K H1 p (ns.map .int)/\ns.length<64/\∀l,H1 l=none->Q Qee (upd H1 l (.lst ((sortI ns).reverse.map .int)))
theorem W4{t:TA}{p p1:Pos}(m:Gl X "sorted")(hm:QhQ)(n:PA X [e] t)(hs:Qaa) :
  PE X (.Call (.Name "sorted" p) [e] [⟨some "reverse",.Constant QfL kj p1,p2⟩] pos) (tSR X.K t):=by
 intro pins s σ H Q I h;have l:PK X [⟨some "reverse",.Constant QfL kj p1,p2⟩] _:=ZY TU aeN;refine tc (qL I m hm vp ?_);refine callWith_kw (gE Qjt λus s1 zz=>?_) (by rw[hs];rfl) (by rw[hs];rfl) rfl rfl;obtain⟨vs,H1,x,g,i⟩:=zz;refine gE (l pos pins s1 σ H1 (λzs H2=>zs=[.bl true]/\H2=H1) x ⟨rfl,rfl⟩) λws s2 zz=>?_;obtain⟨zs,H2,a,c,e1,e2⟩:=zz;subst e1;subst e2;obtain⟨u,rfl,f⟩:=c.one;cases f;obtain⟨q,ns,rfl,k,y,kk⟩:=i;obtain⟨v,rfl,d⟩:=g.one;cases d;obtain⟨its,b,pl,hz⟩:=a.list k;have hlen:=b.length;rw[hP]at hlen;refine sorted_ints_rev pl.isList (intsAre_of b) We λout j a1 a2 a3=>?_;obtain⟨o,he⟩:=sortedAll_at s2.heap its out;have r:=Pu a2 a3;subst r;refine⟨.ref (s2.heap.objs.size+1),_,a.laid (t':=s2.toks) (λ_ _=>sortedAll_old) (oa _) (show iC X.prog X.w _ _ _ Qdz from⟨?_,out.toList,o,vo a1,?_⟩),rfl,kk _ (a.gD.fresh (oa _))⟩
 .rw[hP,rF,qE];simp_all
 .simpa using he
variable{p1:Pos}
def W5{l:AT}(hm:QhQ)(h:QiW)(j:l.length<64)(m:Gl X "sorted")(hs:Qaa:=by exact aS rfl) :
  cL X CL b (.Call Qkb [e] [⟨some "reverse",.Constant QfL kj p1,p2⟩] pos) δ (.lst (((sortI l).reverse.map .int).map T.sh)) δ1:=λH Z σ ts vs Q S k=>
 cK (W4 m hm Qau hs) (h H Z σ ts vs _ S λv H1 Z1 d k1 o r=>by
  cases r with
  | @lst a us _ g f=>
   have:=ur f;subst this;refine⟨a,l,rfl,g,j,λp i=>?_⟩;obtain⟨c,n⟩:=(bC.pX (ints_rep _) o).kX (g0:=[]) Wp i;exact k _ _ _ d QcC n)
def Pm(hi:X.N[i]? = some x)(h:X.env.scope.names.lookup x=some .local)(hf:X.fn x=true)(hd:AD x:=by decide)(a:AE x:=by decide):Ln X i x:=⟨⟨hi,.inl h,hd,a⟩,.inl h,.inl hf⟩
def mkC(hi:X.N[i]? = some x)(h:X.env.scope.names.lookup x=some .cell)(hf:X.fn x=true)(hd:AD x:=by decide)(a:AE x:=by decide):Ln X i x:=⟨⟨hi,.inr (.inl h),hd,a⟩,.inr h,.inl hf⟩
def IS{w:World}{f:Addr}{ps:At}{sp:Sp}(G:d7 P w K mg base mX k f fd ps sp)(m:mg x=some Qad)(q:keepIn K Qad=true)(b:Binds K fd ps []) :
  ∃f fd ps,d7 P w K mg base mX k f fd ps sp/\mg x=some Qad/\keepIn K Qad=true/\Binds K fd ps []:=⟨_,_,_,G,m,q,b⟩
variable{px:Pos}{p:L3.D->Bool}{g:L3.D->T}{ds:BA}
def Fu(sc:QeG):vn X scope [y] Nc ix:=⟨sc.kind,sc.DE,sc.nd,sc.names,(λx a=>by rw[i4]at a;subst a;exact sc.own),sc.frees,sc.hd,sc.so⟩
noncomputable def MW(sc:QeG)(h:QlF)(h1:AD y)(h2:AE y):DJ X CL scope Nc [y].length (.Name y px) part1 ifs elt δc ds p g:=λC s0 b f0 a=>
 ⟨afi sc.nd (WW (by rw[sc.hd];rfl) sc.own h1 h2),λd hd=>⟨[d],rfl,rfl,(h C s0 b f0 a d hd).1,(h C s0 b f0 a d hd).2⟩⟩
def lH(sc:QeG)(a:QaC)(h:QlJ)(c:(δc=HL δ1 ix/\∀d∈ds,(g d).clean=true)\/δc=HM δ1 ix)(inner:QlF)(hlen:QbK)
  (hs:Qcn:=by intro _;rfl) (h1:AD y:=by decide) (h2:AE y:=by decide):cL X CL b QkH δ (.lst ((ds.filter p).map g)) δ1:=
 HX (Fu sc) a (Xt h) c (MW sc inner h1 h2) hlen hs
def vq{D:gU}{gg:L3.D->T}(g:Gx X)(n:QcT)(sc:QeG)(h:QlJ)(c:(δc=HL δ1 ix/\∀d∈ds,(gg d).clean=true)\/δc=HM δ1 ix)(inner:Block X CL scope Nc ifs elt δc ds p gg)
  (hlen:QbK) (k:dh X CL b gS (δ1.set i (some (.lst ((ds.filter p).map gg)))) D) (a:Qb1)
  (e:swapsWith Qit (some Qb9) pos.line X.env=pure true\/swapsWith Qit (some Qb9) pos.line X.env=pure false) (hs:Qcn:=by intro _;rfl)
  (h1:AD y:=by decide) (h2:AE y:=by decide):dh X CL b (.Assign [.Name x pos'] Qit pos::gS) δ D:=
 apF g n (Fu sc) (Xt h) c (MW sc inner h1 h2) hlen k a e hs
variable{d:L3.D}
def aC(n:QcT)(h:δ[i]? = some Qcb:=by rfl):dI X CL b Qal δ d δ:=ay (v_ n.1 h)
structure bL(X:Cx):Prop where
 g:Gx X
 u:X.A.units+64<cLine
noncomputable abbrev bI:NameKind:=.globalImplicit
noncomputable abbrev cG:NameKind:=.local
def jt{P:At}{sc:Scope}(h1:sc.kind=.function:=by rfl)(h2:sc.isCoroutine=false:=by rfl)(e:sc.isGenerator=false:=by rfl)(d:N.Nodup:=by decide +kernel)(c:N.take P.length=P:=by rfl)(b:∀x∈P,sc.names.lookup x=some .local\/sc.names.lookup x=some .cell:=by decide +kernel)(a:∀y∈sc.names,y.2 ≠ .free:=by decide +kernel):dz N P sc:=⟨h1,h2,e,d,c,b,a⟩
variable{tb:DO}
def ow(c:Qkc)(j:Nat)(a:tb[j]? = some (x,.local):=by rfl)(hi:X.N[i]? = some x:=by rfl)(hf:X.fn x=true:=by rfl)(hd:AD x:=by decide)(b:AE x:=by decide):Ln X i x:=Pm hi (bU c j a) hf hd b
def zV(c:Qkc)(j:Nat)(a:tb[j]? = some (x,.cell):=by rfl)(hi:X.N[i]? = some x:=by rfl)(hf:X.fn x=true:=by rfl)(hd:AD x:=by decide)(b:AE x:=by decide):Ln X i x:=mkC hi (bU c j a) hf hd b
def oZ(c:Qkc)(j:Nat)(a:tb[j]? = some (x,.globalImplicit):=by rfl):Gl X x:=bU c j a
def di{m:Nat}{arg:QaA}{Pre:Qab}{res:Qaj}(F:∃f fd ps,d7 X.prog X.w X.K X.mg X.base mX k f fd ps Qjs/\X.mg x=some Qad/\keepIn X.K Qad=true/\Binds X.K fd ps [])(r:fO m X.A)(h:k<=m:=by decide):Fc X CL x k n arg Pre res:=⟨F,r.mono h⟩
variable{δ':BB}{σ':L2.St}{y:Addr}
theorem bC.auv(S:Qan)(hi:δ[i]? = some QfK):σ[i]? = some (some Qeh)/\bC K CL b H Z (δ.set i Qas) σ ts vs:=by
 obtain⟨fp,gp,e,r,nd,k⟩:=S.rep;obtain⟨v0,f1,f2,c,hv,a,rt,put,_⟩:=e.get hi;subst a;cases rt with
 | pin rt=>
  have e2:=put Qb QcB rt;rw[eX hv]at e2;exact⟨hv,⟨⟨_,gp,e2,r,nd,k⟩,S.bh,S.zz,S.zh,S.new,S.tp,S.tab⟩⟩
noncomputable def AK(H:Hp)(gp:BS):Hp:=λc=>if c∈gp then none else H c
def lI{c:Addr}(h:c∉gp):AK H gp c=H c:=cq h
def vt{c:Addr}(h:c∈gp):AK H gp c=none:=hO h
def qF{c:Addr}(h:AK H gp c=some o):c∉gp/\H c=some o:=by
 by_cases a:c∈gp
 .rw[vt a]at h;cases h
 .rw[lI a]at h;exact⟨a,h⟩
theorem bC.cut(S:bC K CL b H Z δ σ (tl++ts) (us++vs))(l:tl.length=us.length):∃gp,aW K CL H Z tl us gp/\gp.Nodup/\bC K CL b (AK H gp) Z δ σ ts vs:=by
 obtain⟨fp,g,e,r,nd,k⟩:=S.rep;obtain⟨g1,g2,rfl,j,i⟩:=aW.split l r;have f:(fp++(g1++g2)).Perm (g1++(fp++g2)):=by
  rw[← hZ,← hZ];exact l9.append_right g2
 have d:=ko.1 (f.nodup_iff.1 nd);have ne:∀c∈fp++g2,c∉g1:=λc a h=>d.2.2 c h c a rfl;have own:∀c∈g1,Z c=none/\b.B c=none:=λc a=>k c (h5 _ (ik _ a));refine⟨g1,j,d.1,⟨⟨fp,g2,e.mono Qb (λc a=>lI (ne c (ik _ a))),i.mono Qb (λc a=>lI (ne c (h5 _ a))),d.2.1,λc a=>k c (f.mem_iff.2 (h5 _ a))⟩,λc o q=>?_,S.zz,λc o q=>?_,S.new,λc o q im=>S.tp c o (qF q).2 im,S.tab⟩⟩
 .rw[lI (λh=>by rw[(own c h).2]at q;cases q)];exact S.bh c o q
 .rw[lI (λh=>by rw[(own c h).1]at q;cases q)];exact S.zh c o q
theorem bC.Of{W':Hp}(S:Qan)(k:aB H H')(ww:aB Z W')(l:aB W' H')(new:∀a o,W' a=some o->Z a=none->H a=none)
  (tp:∀a o,H' a=some o->m5 o=true->W' a=some o) (r:aW K CL H' W' tl us fp) (nd:fp.Nodup) (own:∀a∈fp,W' a=none/\H a=none):bC K CL b H' W' δ σ (tl++ts) (us++vs):=by
 obtain⟨f0,g0,e0,g,f,k0⟩:=S.rep;have old:∀a∈f0++g0,∃o,H a=some o:=λa d=>(hV.1 d).elim (e0.there a) (g.there a);have keep:∀a∈f0++g0,H' a=H a:=λa d=>by
  obtain⟨o,e⟩:=old a d;rw[e];exact k a o e
 have j:(f0++(fp++g0)).Perm (fp++(f0++g0)):=by
  rw[← hZ,← hZ];exact l9.append_right g0
 have wn:∀a∈f0++g0,W' a=none:=λa d=>by
  cases q:W' a with
  | none=>rfl
  | some o=>
   obtain⟨u,e⟩:=old a d;rw[new a o q (k0 a d).1]at e;cases e
 refine⟨⟨f0,fp++g0,e0.mono ww (λa d=>keep a (ik _ d)),aW.app r (g.mono ww λa d=>keep a (h5 _ d)),?_,λa d=>?_⟩,S.bh.trans k,S.zz.trans ww,l,λa o q z=>?_,tp,S.tab⟩
 .refine j.nodup_iff.2 (ko.2 ⟨nd,f,λa d c m e=>?_⟩);subst e;obtain⟨o,q⟩:=old a m;rw[(own a d).2]at q;cases q
 .obtain h|h:=hV.1 (j.mem_iff.1 d)
  .exact⟨(own a h).1,WK S.bh (own a h).2⟩
  .exact⟨wn a h,(k0 a h).2⟩
 .cases i:Z a with
  | none=>exact WK S.bh (new a o q i)
  | some u=>
   exact S.new a u i z
def HU:Bn->Bn->Prop
 | [],[]=>True
 | .sh d::l,.sh e::m=>d=e/\HU l m
 | .pin x _::l,.pin z _::m=>x=z/\HU l m
 | _,_=>False
def Keeps(δ:BB)(ol:Bn):Prop:=∀(j:Nat) (y:Addr) (t:T),ol[j]? = some (T.pin y t)->δ[j]? = some (some (T.pin y t))
theorem Keeps.tail{o:QcP}{d:T}{ol:Bn}(k:Keeps (o::δ) (d::ol)):Keeps δ ol:=λj y t h=>k QP y t h
theorem f6.outs{W W':Hp}(ww:aB W W'):∀{al ol:Bn} {vs:BY} {g0:BS} {δ:BB} {σ:L2.St} {fp:BS},HU al ol->aW K CL H W al vs g0->f6 K CL H' W' δ σ fp->Keeps δ ol->∃g,aW K CL H' W' ol vs g/\g.Sublist fp:=by
 intro al
 induction al with
 | nil=>
  intro ol vs g0 δ σ fp b f _ _;cases f;cases ol with
  | nil=>exact⟨[],.nil,List.nil_sublist _⟩
  | cons _ _=>cases b
 | cons a al c=>
  intro ol vs g0 δ σ fp b f re k;cases f with
  | cons r rs=>
  cases ol with
  | nil=>cases a<;>cases b
  | cons o ol=>
  cases a with
  | sh d=>
   cases o with
   | sh e=>
    obtain⟨h1,h2⟩:=b;subst h1;cases r with
    | sh r=>
    cases re with
    | nil=>
     obtain⟨g,q,s⟩:=c h2 rs (.nil (H:=H') (Z:=W')) (λj y t h=>by have:=k QP y t h;simp at this);exact⟨[]++g,.cons (.sh (r.mono ww)) q,s⟩
    | skip re=>
     obtain⟨g,q,s⟩:=c h2 rs re k.tail;exact⟨[]++g,.cons (.sh (r.mono ww)) q,s⟩
    | cons rt re=>
     obtain⟨g,q,s⟩:=c h2 rs re k.tail;exact⟨[]++g,.cons (.sh (r.mono ww)) q,s.trans (wd _ _)⟩
   | _=>cases b
  | pin x t0=>
   cases o with
   | pin z t=>
    obtain⟨h1,h2⟩:=b;subst h1;have h0:=k 0 x t rfl;cases r with
    | pin r=>
    cases re with
    | nil=>simp at h0
    | skip re=>simp at h0
    | cons rt re=>
     simp at h0;subst h0;obtain⟨g,q,s⟩:=c h2 rs re k.tail;cases rt with
     | pin rt=>exact⟨_,.cons (.pin rt) q,nz (my _) s⟩
   | _=>cases b
  | _=>cases o<;>cases b
noncomputable def vv(N:At)(al:Bn):BB:=al.map some++List.replicate (N.length-al.length) none
theorem Fi:∀{al:Bn} {vs:BY} {gp:BS} (n:Nat),aW K CL H Z al vs gp->f6 K CL H Z (al.map some++List.replicate n none) (vs.map some++List.replicate n none) gp
 | _,_,_,n,.nil=>m8 (ds:=[]) (vs:=[]) n .nil
 | _,_,_,n,.cons r t=>.cons r (Fi n t)
def mI(K:Frag)(CL:BC)(n:Nat)(arg:QaG)(Pre:Qab)(res:Qaj)(out:QaG):Sp:=λvs H Q _=>
 ∃(W:Hp) (a:A) (gp:BS),aB W (AK H gp)/\(∀c o,H c=some o->m5 o=true->W c=some o)/\aW K CL H W (arg a) vs gp/\gp.Nodup/\(arg a).length=n/\Pre a/\u6 CL W ∧
  ∀v H' W' fp,aB (AK H gp) H'->aB W W'->aB W' H'->(∀c o,W' c=some o->W c=none->AK H gp c=none)->(∀c o,H' c=some o->m5 o=true->W' c=some o) →
   aW K CL H' W' (res a::out a) QaO fp->fp.Nodup->(∀c∈fp,W' c=none/\AK H gp c=none)->Q v H'
def AO{w:World}{f:Addr}{ps:At}{arg:QaG}{Pre:Qab}{res:Qaj}{out:QaG}(F:Qc3)(S:QdR)(B:∀a,Pre a->HU (arg a) (out a))
  (L:∀(iR:Value) (l:QaF) (outer:EM) (s:Qr) (H:Hp) (E:XK) (b:Bx) (a:A),fO k (l.deeper QdC)->Pre a →
   dh (BR mX P w K mg base N qual Qcj f iR l outer s H E).nc CL b Qcp (vv N (arg a)) {nx:=λδ=>res a=.sh .non/\Keeps δ (out a),rt:=λt δ=>t=res a/\Keeps δ (out a)}) :
  d7 P w K mg base mX QaZ f fd ps (mI K CL ps.length arg Pre res out):=by
 refine F.ok S (λvs H Q E h=>?_) (λiR l outer s H vs Q E J h=>?_)
 .obtain⟨W,a,gp,_,_,r,_,C,_⟩:=h;rw[← r.length];exact C
 .obtain⟨W,a,gp,u,tp,r,nd,C,m,tb,kk⟩:=h;have wn:∀c∈gp,W c=none:=λc i=>by
   cases q:W c with
   | none=>rfl
   | some o=>exact absurd i (qF (u c o q)).1
  refine⟨_,n4,L iR l outer s H E ⟨AK H gp,W⟩ a J m H W _ [] [] _ ⟨⟨gp,[],?_,.nil,by rw[iz];exact nd,λc i=>?_⟩,λc o q=>(qF q).2,.refl _,λc o q=>(qF (u c o q)).2,λc o q z=>?_,tp,tb⟩ ⟨λδ' σ' H' Z' s' d e=>?_,λt v H' Z' δ' σ' s' d e=>?_,λ_ _ _ _ _ _ e=>e.elim,λ_ _ _ _ _ _ e=>e.elim⟩⟩
  .unfold vv L2.start;rw[← r.length];exact Fi _ r
  .rw[iz]at i;exact⟨wn c i,vt i⟩
  .have G:W c=some o:=q;have p:W c=none:=z;rw[G]at p;cases p
  .obtain⟨e1,e2⟩:=e;obtain⟨fp,M,re,y,n,own⟩:=d.rep;obtain⟨g,q,j⟩:=f6.outs d.zz (B a m) r re e2;have I:=(ko.1 n).1;exact kk .non H' Z' ([]++g) d.bh d.zz d.zh d.new d.tp (.cons (by rw[e1];exact .sh .non) q) (I.sublist j) λc i=>own c (ik _ (j.subset i))
  .obtain⟨e1,e2⟩:=e;subst e1;obtain⟨fp,M,re,y,n,own⟩:=d.rep;obtain⟨g,q,j⟩:=f6.outs d.zz (B a m) r re e2;cases y with
   | @cons _ _ _ _ f1 f2 D O=>
    have sub:(g++f1).Sublist (fp++(f1++f2)):=nz j (OF _ _);have pm:(f1++g).Perm (g++f1):=l9;exact kk v H' Z' (f1++g) d.bh d.zz d.zh d.new d.tp (.cons D q) (pm.nodup_iff.2 (n.sublist sub)) λc i=>own c (sub.subset (pm.mem_iff.1 i))
def L1(σ:L2.St):Cc->BS->Prop
 | [],[]=>True
 | i::is,y::ys=>σ[i]? = some (some Qeh)/\L1 σ is ys
 | _,_=>False
def z9:Bn->BS->Bn->Prop
 | [],[],[]=>True
 | .sh _::ol,ys,ns=>z9 ol ys ns
 | .pin y t::ol,z::ys,n::ns=>y=z/\(n=t\/n=.pin y t)/\z9 ol ys ns
 | _,_,_=>False
noncomputable def xI:BB->Cc->Bn->BB
 | δ,i::is,n::ns=>xI (δ.set i (some n)) is ns
 | δ,_,_=>δ
theorem bC.P2:∀{ol:Bn} {us:BY} {is:Cc} {ys:BS} {ns:Bn} {δ:BB},bC K CL b H Z δ σ (ol++ts) (us++vs)->ol.length=us.length->L1 σ is ys->z9 ol ys ns->(∀i∈is,i<δ.length)->bC K CL b H Z (xI δ is ns) σ ts vs:=by
 intro ol
 induction ol with
 | nil=>
  intro us is ys ns δ S e c a hi;cases us with
  | cons _ _=>cases e
  | nil=>
   cases ys with
   | cons _ _=>cases a
   | nil=>
    cases is with
    | cons _ _=>cases c
    | nil=>
     rw[xI.eq_def];exact S
 | cons o ol k=>
  intro us is ys ns δ S e c a hi;cases us with
  | nil=>cases e
  | cons u us=>
  cases o with
  | sh d=>exact k S.pop (Nat.succ.inj e) c a hi
  | pin y t=>
   cases ys with
   | nil=>cases a
   | cons z ys=>
   cases ns with
   | nil=>cases a
   | cons n ns=>
   cases is with
   | nil=>cases c
   | cons i is=>
   obtain⟨h1,m,a⟩:=a;subst h1;obtain⟨g,c⟩:=c;have l:u=.ref y:=by
    obtain⟨_,_,_,r,_,_⟩:=S.rep;cases r with
    | cons r _=>cases r;rfl
   subst l;have f:=hi i hU;have h:=S.set f;rw[eX g]at h;have q:bC K CL b H Z (δ.set i (some n)) σ (ol++ts) (us++vs):=by
    obtain rfl|rfl:=m
    .have:=(h.auv (yB f)).2
     rwa [List.set_set]at this
    .exact h
   exact k (δ:=δ.set i (some n)) q (Nat.succ.inj e) c a λj p=>by rw[m4];exact hi j (hX _ p)
  | _=>cases a
section
variable{D:gU}{is:Cc}{fx:BS->Prop}{al:BS->Bn}
def ng(X:Cx)(CL:BC)(b:Bx)(e:Expr)(δ:BB)(t:T)(δ':BB):Prop:=
 ∀(H Z:Hp) (σ:L2.St) (ts:Bn) (vs:BY) (Q:VK),bC X.K CL b H Z δ σ ts vs->(∀v H' Z',aB Z Z'->bC X.K CL b H' Z' δ' σ (t::ts) QaO->Q v H')->Lz X e σ H Q
theorem cL.m(h:QaH):ng X CL b e δ t δ1:=λH Z σ ts vs Q S k=>h H Z σ ts vs Q S λv H' Z' z _ a=>k v H' Z' z a
def akf(h:QbJ)(k:D.rt t δ1):WL X CL b QjN δ D:=λH Z σ ts vs E S M=>qP (aes dD) (h H Z σ ts vs _ S λv H1 Z1 a c=>M.rt t v H1 Z1 δ1 σ a c k)
def afD(h:QbJ)(k:D.nx δ1)(hs:QiD:=by rfl):WL X CL b (.Expr e pos) δ D:=λH Z σ ts vs E S M=>qP (yT dD hs) (h H Z σ ts vs _ S λv H1 Z1 a c=>M.nx δ1 σ H1 Z1 a c.pop k)
def akg(i:Nat)(h:QbJ)(k:D.nx (δ1.set i Qas))(d:Qb1:=by decide)(f:QbX:=by assumption)(hi:X.N[i]? = some x:=by rfl)(c:Qda:=by first|exact .inl rfl|exact .inr rfl)
  (hs:Qfh:=by rfl) (hf:AM X x:=by first|exact .inl rfl|exact .inr rfl|assumption):WL X CL b Qi6 δ D:=λH Z σ ts vs E S M=>
 qP (aex f hi c dD hs hf) (h H Z σ ts vs _ S λv H1 Z1 a g=>M.nx _ _ H1 Z1 a (g.set d) k)
def pd(X:Cx)(CL:BC)(b:Bx)(es:Cf)(δ:BB)(is:Cc)(fx:BS->Prop)(al:BS->Bn)(δ':BB):Prop:=
 ∀(H Z:Hp) (σ:L2.St) (ts:Bn) (vs:BY) (Q:EO),bC X.K CL b H Z δ σ ts vs →
  (∀ys us H' Z',ys.length=is.length->L1 σ is ys->fx ys->us.length=(al ys).length->aB Z Z'->aB H H'->bC X.K CL b H' Z' δ' σ ((al ys).reverse++ts) QdL->Q us H')->WG X es σ H Q
def dm:pd X CL b [] δ [] (λ_=>True) (λ_=>[]) δ:=λH Z σ ts vs Q S k=>LJ cV (k [] [] H Z rfl trivial trivial rfl Qb Qb S)
def e7(h1:Qg3)(h2:pd X CL b es δ1 is fx al δ2)(hs:Qah:=by exact aS rfl):pd X CL b Qae δ is fx (λys=>.sh d::al ys) δ2:=λH Z σ ts vs Q S k=>
 LJ (bE dD LC hs) (h1 H Z σ ts vs _ S λv H1 Z1 c k1 j=>h2 H1 Z1 σ _ _ _ j λys us H2 Z2 f h hf g a k2 i=>k ys (v::us) H2 Z2 f h hf (by simp[g]) Qcg Qaq (by
  rw[mn,mn,hZ,hZ];exact i))
noncomputable def T.isRef:T->Bool
 | .lst _=>true
 | .ins _ _=>true
 | .um _=>true
 | .dct _=>true
 | _=>false
theorem bC.apQ(S:Qb3)(h:t.isRef=true):∃y,v=.ref y/\bC K CL b H Z δ σ (.pin y t::ts) (.ref y::vs):=by
 obtain⟨fp,gp,e,r,nd,k⟩:=S.rep;cases r with
 | cons r rs=>
  cases r with
  | sh r=>cases h
  | tup r _=>cases h
  | pin r=>cases h
  | E8 r _ _=>cases h
  | lst r q=>exact⟨_,rfl,⟨⟨fp,_,e,.cons (.pin (.lst r q)) rs,nd,k⟩,S.bh,S.zz,S.zh,S.new,S.tp,S.tab⟩⟩
  | ins r q=>exact⟨_,rfl,⟨⟨fp,_,e,.cons (.pin (.ins r q)) rs,nd,k⟩,S.bh,S.zz,S.zh,S.new,S.tp,S.tab⟩⟩
  | um r q=>exact⟨_,rfl,⟨⟨fp,_,e,.cons (.pin (.um r q)) rs,nd,k⟩,S.bh,S.zz,S.zh,S.new,S.tp,S.tab⟩⟩
  | dct r q=>exact⟨_,rfl,⟨⟨fp,_,e,.cons (.pin (.dct r q)) rs,nd,k⟩,S.bh,S.zz,S.zh,S.new,S.tp,S.tab⟩⟩
def gu(n:QaK)(h:δ[i]? = some QfK)(h2:pd X CL b es (δ.set i none) is fx al δ2)(hs:starEach (.Name x pos::es) X.env=(false,eval Qal X.env)::starEach es X.env:=by exact aS rfl) :
  pd X CL b (.Name x pos::es) δ (i::is) (λys=>ys.headD 0=y/\fx ys.tail) (λys=>.pin y t::al ys.tail) δ2:=λH Z σ ts vs Q S k=>by
 obtain⟨v,e,a⟩:=S.move h;have hv:v=.ref y:=by
  obtain⟨_,_,_,r,_,_⟩:=a.rep;cases r with
  | cons r _=>cases r;rfl
 subst hv;exact LJ (bE Qcu LC hs) ⟨_,e,h2 H Z σ _ _ _ a λys us H2 Z2 d g hf f c k2 j=>k (y::ys) (.ref y::us) H2 Z2 (by simp[d]) ⟨e,g⟩ ⟨rfl,hf⟩ (by simp[f]) c k2 (by
  show bC _ _ _ _ _ _ _ ((T.pin y t::al ys).reverse++ts) _;rw[mn,mn,hZ,hZ];exact j)⟩
def afF{f:Addr}{ps:At}{arg:QaG}{Pre:Qab}{res:Qaj}{out:QaG}(a:BS->A)(ns:Bn)(F:QkW)(M:QbG)(hm:QfR)(O:QfB)(U:Qc6)
  (h:pd X CL b Qae δ is fx al δ1) (V:∀ys,ys.length=is.length->fx ys->arg (a ys)=al ys/\(arg (a ys)).length=n/\Pre (a ys)/\res (a ys)=t/\z9 (out (a ys)) ys ns) (Pw:∀i∈is,i<δ1.length) (R:Qam)
  (J:AD x:=by decide) (he:Qah:=by exact aS rfl) (hpl:Qaw:=by rfl) :
  ng X CL b Qby δ t (xI δ1 is ns):=λH Z σ ts vs Q S kk=>
 cK (OX F M R hm O U .nil xD LC J he hpl) (h H Z σ ts vs _ S λys us H1 Z1 o Ie hf p G k1 y=>by
  rw[iz];obtain⟨s,q,N,l,m⟩:=V ys o hf;obtain⟨g,r,nd,u⟩:=y.cut (by simp[p]);obtain⟨g',B,pm⟩:=r.rev;have W:AK H1 g=AK H1 g':=funext λc=>by
   by_cases d:c∈g
   .rw[vt d,vt (pm.mem_iff.2 d)]
   .rw[lI d,lI (λz=>d (pm.mem_iff.1 z))]
  rw[W]at u;rw[← s]at B;refine⟨Z1,a ys,g',u.zh,y.tp,B,pm.nodup_iff.2 nd,q,N,y.WH,λv H' W' fp P ww I nw tp rt Y own=>?_⟩;cases rt with
  | @cons _ _ _ _ f1 f2 L C=>
   have j:(f2++(f1++[])).Perm (f1++f2):=by rw[iz];exact l9
   have E:=u.Of P ww I nw tp (aW.app C (.cons L .nil)) (j.nodup_iff.2 Y) λc d=>own c (j.mem_iff.1 d);rw[hZ,hZ]at E;have D:=E.P2 C.length Ie m Pw;rw[l]at D;exact kk v H' W' (G.trans ww) D)
structure W6(X:Cx)(CL:BC)(x:Str)(k n:Nat){A:Type}(arg:QaG)(Pre:Qab)(res:Qaj)(out:QaG):Prop where
 ex:∃f fd ps,d7 X.prog X.w X.K X.mg X.base mX k f fd ps QgA/\X.mg x=some Qad/\keepIn X.K Qad=true/\Binds X.K fd ps []
 room:fO k X.A
def cM1{arg:QaG}{Pre:Qab}{res:Qaj}{out:QaG}(a:Addr->A)(c:T)(F:Qjb)(p:Qam)(h:pd X CL b Qae δ [i] fx al δ1)(g:∀y,fx [y]->Pre (a y))(v:∀y,fx [y]->res (a y)=t)(u:∀y,fx [y]->z9 (out (a y)) [y] [c])
  (s:∀y,fx [y]->arg (a y)=al [y]:=by intros;rfl) (hlen:∀y,(arg (a y)).length=n:=by intros;rfl) (w:Qb1:=by exact h7 rfl)
  (d:AD x:=by decide) (he:Qah:=by exact aS rfl) (hpl:Qaw:=by rfl) :
  ng X CL b Qby δ t (δ1.set i (some c)):=by
 obtain⟨⟨f,fd,ps,G,m,q,bd⟩,r⟩:=F;exact afF (λys=>a (ys.headD 0)) [c] G r m q bd h (λys l hf=>match ys,l,hf with | [y],_,hf=>⟨s y hf,hlen y,g y hf,v y hf,u y hf⟩) (λj o=>by cases i4.1 o;exact w) p d he hpl
def iE(g:Gx X)(n:QcT)(h:QbJ)(k:dh X CL b gS (δ1.set i Qas) D)(a:Qb1:=by exact h7 rfl)(hs:Qfh:=by rfl) :
  dh X CL b (.Assign [.Name x pos'] e pos::gS) δ D:=cE (akg i h k a g.nd n.hi n.loc hs n.hf)
def xQ(h:QbJ)(k:D.rt t δ1):dh X CL b (.Return (some e) pos::gS) δ D:=cE (akf h k)
def akh(h:QbJ)(k:dh X CL b gS δ1 D)(hs:QiD:=by rfl):dh X CL b (.Expr e pos::gS) δ D:=cE (afD h k hs)
end
noncomputable def Ca{α:Type}(g:α->Int)(x:α):List α->List α
 | []=>[x]
 | y::l=>if g x<=g y then x::y::l else y::Ca g x l
def e9{α:Type}(g:α->Int):List α->List α
 | []=>[]
 | x::l=>Ca g x (e9 g l)
variable{g:α->Int}
theorem DL(x:α):∀l,(Ca g x l).Perm (x::l)
 | []=>.refl _
 | y::l=>by
  rw[Ca];split
  .exact .refl _
  .exact((DL x l).cons y).trans (.swap x y l)
theorem jI:∀l:List α,(e9 g l).Perm l
 | []=>.refl _
 | x::l=>(DL x _).trans ((jI l).cons x)
def nh{l:Q1}{x:α}:x∈e9 g l↔x∈l:=(jI l).mem_iff
def zf(l:Q1):(e9 g l).length=l.length:=(jI l).length_eq
theorem Uq(f:β->α)(x:β):∀l,Ca g (f x) Qdu=(Ca (λy=>g (f y)) x l).map f
 | []=>rfl
 | y::l=>by
  rw[kc,Ca,Ca];split
  .rfl
  .rw[kc,Uq f x l]
theorem qG(f:β->α):∀l:List β,e9 g Qdu=(e9 (λy=>g (f y)) l).map f
 | []=>rfl
 | x::l=>by rw[kc,e9,e9,qG f l,Uq]
def Xa(g:Qd9)(i j:Nat):Prop:=g i<g j\/(g i=g j/\i<j)
theorem Xa.trans{g:Qd9}(a:Xa g i j)(b:Xa g j k):Xa g i k:=by
 unfold Xa at *;lia
theorem Xa.Po{g:Qd9}(a:Xa g i i):False:=by unfold Xa at a;lia
theorem Ur{g:Qd9}{x:Nat}:∀{l:Cc},l.Pairwise (Xa g)->(∀y∈l,x<y)->(Ca g x l).Pairwise (Xa g)
 | [],_,_=>r3 _ _
 | y::l,h,a=>by
  obtain⟨h1,h2⟩:=ll.1 h;rw[Ca];split
  .refine ll.2 ⟨λz hz=>?_,h⟩;have a1:Xa g x y:=by have:=a y hU;unfold Xa;lia
   obtain rfl|hz:=hR.1 hz
   .exact a1
   .exact a1.trans (h1 z hz)
  .refine ll.2 ⟨λz hz=>?_,Ur h2 λz hz=>a z Qdv⟩;obtain rfl|hz:=hR.1 ((DL x l).mem_iff.1 hz)
   .left;lia
   grind
theorem DM{g:Qd9}:∀{l:Cc},l.Pairwise (· < ·)->(e9 g l).Pairwise (Xa g)
 | [],_=>.nil
 | x::l,h=>by
  obtain⟨h1,h2⟩:=ll.1 h;exact Ur (DM h2) λy a=>h1 y (nh.1 a)
theorem Px{g:Qd9}:∀{S A:Cc},S.Pairwise (Xa g)->A.Pairwise (Xa g)->(∀a∈A,a∈S)->A.length<=S.length/\(A.length=S.length->A=S)
 | [],A,_,_,h=>by
  cases A with
  | nil=>exact⟨hW _,λ_=>rfl⟩
  | cons a A=>exact absurd (h a hU) Wp
 | s::S,[],_,_,_=>⟨i8 _,λe=>by simp at e⟩
 | s::S,a::A,d,c,h=>by
  obtain⟨s1,s2⟩:=ll.1 d;obtain⟨a1,a2⟩:=ll.1 c;by_cases e:a=s
  .subst e;have q:=Px s2 a2 λz hz=>(hR.1 (h z Qdv)).resolve_left λe=>by subst e;exact(a1 _ hz).Po
   simp_all
  .have b:=(hR.1 (h a hU)).resolve_left e;have q:=Px s2 c λz hz=>by
    obtain rfl|hz:=hR.1 hz
    .exact b
    .refine(hR.1 (h z Qdv)).resolve_left λe2=>?_;subst e2;exact((s1 a b).trans (a1 _ hz)).Po
   grind
theorem afG{l r:Q1}{κ:D2}(h:r.length=l.length)(pl:∀k,k<l.length->r[k]? = l[κ k]?)(lo:∀k,k<l.length->κ k<l.length)
  (st:∀i j x y,i<j->r[i]? = some x->r[j]? = some y->g x<g y\/(g x=g y/\κ i<κ j)):r=e9 g l:=by
 cases l with
 | nil=>cases r with
  | nil=>rfl
  | cons a r=>simp at h
 | cons d e=>
  generalize t:d::e=l at *
  let f:Nat->α:=λi=>(l[i]?).getD d
  have hf:∀i,i<l.length->l[i]? = some (f i):=λi hi=>by
   show _=some ((l[i]?).getD d);simp_all
  have p:l=(List.range l.length).map f:=v3 λi=>by
   rw[la];by_cases hi:i<l.length
   .rw[hf i hi,o4 hi];rfl
   simp_all
  have o:r=((List.range l.length).map κ).map f:=v3 λi=>by
   rw[la,la];by_cases hi:i<l.length
   .rw[pl i hi,hf _ (lo i hi),o4 hi];rfl
   .rw[List.getElem?_eq_none We,List.getElem?_eq_none (by simpa using hi)];rfl
  have c:=λk b=>(pl k b).trans (hf _ (lo k b));have q:(List.range l.length).map κ=e9 (λi=>g (f i)) (List.range l.length):=by
   refine(Px (DM (Lq)) (List.pairwise_map.2 ?_) λa n=>?_).2 ?_
   .refine Lu (R:=(· < ·)) (λ{i j} hi m s=>?_) Lq;exact st i j _ _ s (c i (ml.1 hi)) (c j (ml.1 m))
   .obtain⟨k,b,rfl⟩:=ip.1 n;exact nh.2 (ml.2 (lo k (ml.1 b)))
   .rw[hP,zf]
  rw[o,q,← qG,← p]
theorem Xb{c f:Value}(l:B2)(h:TriplesOk l)(e:codeAmong pos (l++[rawInt pos'.line,rawInt pos'.col,c])=some f):codeAmong pos l=some f\/f=c:=by
 fun_induction TriplesOk l with
 | case1=>
  simp[codeAmong,rawInt]at e;simp_all
 | case2 a t b u x rest g=>
  simp only[mi,codeAmong]at e ⊢;split at e
  .rename_i d;rw[hO d];exact .inl e
  .rename_i d;rw[cq d];exact g h e
 | case3 l h1 h2=>exact h.elim
def Fs(f:Addr)(q:Str)(ps:Arguments)(body:Expr)(sc:Scope)(cl:List QeR)(c:Addr):Heap->Prop:=λh=>
 ∃pm a,h.get? f=some (kla_obj "<lambda>" q ps body sc cl pm c a)
structure xC(X:Cx)(CL:BC)(x q:Str):Prop where
 code:∃c,X.env.code=.ref c/\CodeHd X.base c (CL x)
 blt:∃bm o,X.mg "__builtins__" = some (.ref bm)/\bm≠builtinsNs/\bm≠mainGlobals/\X.base.get? bm=some o/\o.cls=.type "module" /\ o.dict=some builtinsNs/\o.data=.plain
 qual:X.env.qual++"<lambda>" = q
 tab:Nu x=true/\CL x≠0/\O2 x=q
variable{q:Str}{params:Arguments}{body:Expr}
def apR{Q:Bi}(L:xC X CL x q)(I:Qbi)(B:H (CL x)=some (.tabs q))(Tw:∀y∈scope.names,y.2=.free->∃c,X.env.cells.lookup y.1=some c)
  (R:defaultsOf params X.env=([],[]))
  (k:∀f c H' s',L2.Inv X pins σ H' s'->aB H H'->H' f=some QiB->H' c=some Qco->(∀b o,H' b=some o->m5 o=true->H b=some o)->Q Qad s') :
  wpAny QA X.A (eval (.Lambda params body scope pos) X.env) Q X.xe s:=by
 obtain⟨c,V,hd⟩:=L.code;obtain⟨bm,ob,b1,b2,b3,b4,b5,b6,b7⟩:=L.blt;obtain⟨ps,N,tr,cs⟩:=I.gD _ _ B;have T:∀{b:Addr} {o:Obj},X.base.get? b=some o->b≠CL x:=λ{b o} e z=>by
  have:=(I.bs _ _ e).2;rw[z,B]at this;cases this
 have U:s.heap.Ns mainGlobals X.mg:=by
  obtain⟨o,es,ep,e,r⟩:=I.mod.glob;exact⟨o,es,ep,I.bk _ _ e,r⟩
 have J:mainGlobals≠CL x:=by
  obtain⟨o,_,_,e,_⟩:=I.mod.glob;exact T e
 have Y:s.heap.BuiltinsAt X.mg (CL x):=⟨bm,ob,b1,b2,b3,T b4,I.bk _ _ b4,b5,b6,b7⟩;refine PySem.W.kla_eval R ?_;rw[L.qual];cases hf:codeAmong pos ps.toList with
 | none=>
  refine PySem.W.kla_makeFunction (nQ Tw) I.ok.glob U V (hd.keeps I.bk) N tr hf J Y λg j h' tk E C nR P p=>?_;obtain⟨c₂,oc,vs,t,e2,G,K,hv⟩:=P;cases e2;have i:H g=none:=I.gD.fresh C;have m:∀{b:Addr},H b=none->b≠CL x:=λ{b} e z=>by rw[z,B]at e;cases e
  have ne':∀{b:Addr} {o:Obj},s.heap.get? b=some o->b≠g:=λ{b o} e=>kr (l6 (ij e) C);have cP:CL x≠g:=ne' N;have un:Un X.fs [] H (upd H g Qco) s.heap h':=by
   refine⟨λb o e n _ _=>E b o (m n) e,λb o e n _ _=>⟨o.slots,E b o (m n) e⟩,λb o e n _=>by rw[aq (ne' e)];exact n,λb o e _=>?_,λb xs e=>by rw[aq (aP e i)];exact e,λb o u e=>by rw[aq (aP e i)];exact e,λb ps e=>⟨#[],by rw[aq (aP e i),e];simp⟩⟩;by_cases z:b=CL x
   .exact⟨_,z▸p⟩
   .exact⟨o,E b o z e⟩
  have gD:BL X.prog X.w (upd H g Qco) h':=λb u e=>by
   by_cases z:b=g
   .subst z;rw[aR]at e;cases e;exact⟨oc,vs,t,G,K,hv⟩
   .rw[aq z]at e;by_cases h:b=CL x
    .subst h;rw[B]at e;cases e;refine⟨_,p,?_,λpos' O Z=>?_⟩
     .rw[Array.toList_append];exact TriplesOk_snoc _ _ _ _ tr
     .rw[Array.toList_append]at Z;obtain F|F:=Xb _ tr Z
      .obtain⟨c3,e3,e4⟩:=cs pos' O F;exact⟨c3,e3,by rw[aq (aP e4 i)];exact e4⟩
      .exact⟨g,F,aR⟩
    .refine(I.gD b u e).Hq (λd v M r=>E d v ?_ r) (λd r=>by rw[aq (aP r i)];exact r) (λd xs r=>by rw[aq (aP r i)];exact r) λd z r=>by rw[aq (aP r i)];exact r
     rintro rfl;obtain w|w:=M
     .exact h w.symm
     .rw[B]at w;cases w
  have I1:=I.un (t':=tk) un gD;have f1:(upd H g Qco) h'.objs.size=none:=gD.fresh (hW _);have S:=I1.laid (t':=tk) (a:=h'.objs.size) (o:=.ext Qk1) (h':=h'.push Qku)
   (λb u e=>ka _ e) (hW _) ⟨⟨_,_,lG _ rfl⟩,⟨_,lG _ rfl⟩,λh1 h2 ⟨pm,ct,e⟩ kk=>⟨pm,ct,kk _ e⟩⟩
  refine k _ g _ _ S (λb o e=>?_) aR ?_ λb o e im=>?_
  .have l:=aP e i;have h:b≠h'.objs.size:=λz=>by
    rw[← z,aq l,e]at f1;cases f1
   rw[aq h,aq l];exact e
  .rw[aq (kr nR),aR]
  .by_cases h:b=h'.objs.size
   .subst h;rw[aR]at e;cases e;cases im
   .rw[aq h]at e;by_cases l:b=g
    .subst l;rw[aR]at e;cases e;cases im
    .rw[aq l]at e;exact e
 | some O=>
  obtain⟨g,rfl,D⟩:=cs pos O hf;refine PySem.W.kla_makeFunctionHit (nQ Tw) I.ok.glob U V (hd.keeps I.bk) N tr hf Y λj h' tk hk hsz=>?_;have S:=I.laid (t':=tk) (a:=h'.objs.size) (o:=.ext Qk1) (h':=h'.push Qku)
   (λb u e=>ka _ (hk _ _ e)) hsz ⟨⟨_,_,lG _ rfl⟩,⟨_,lG _ rfl⟩,λh1 h2 ⟨pm,ct,e⟩ kk=>⟨pm,ct,kk _ e⟩⟩
  have f1:H h'.objs.size=none:=I.gD.fresh hsz;refine k _ g _ _ S (λb o e=>by rw[aq (aP e f1)];exact e) aR (by rw[aq (aP D f1)];exact D) λb o e im=>?_;by_cases h:b=h'.objs.size
  .subst h;rw[aR]at e;cases e;cases im
  .rw[aq h]at e;exact e
def Fj(X:Cx)(A:QaF)(q:Str)(scope:Scope)(Nc:At)(f c:Addr)(s:Qr)(H:Hp):Cx where
 prog:=X.prog
 w:=X.w
 K:=X.K
 mg:=X.mg
 base:=X.base
 A:=A.deeper (envX q scope s.heap.objs.size f (.ref c) QbH)
 N:=Nc
 h9:=s
 nN:=H
 env:=envX q scope s.heap.objs.size f (.ref c) QbH
 outer:=X.stack
 stack:=envX q scope s.heap.objs.size f (.ref c) QbH::X.stack
 ex:=[]
 fn:=λ_=>false
 calm:=true
 pn:=[]
 xe:=λ_ _=>False
variable{A:QaF}{f c:Addr}
def acP(sc:QeF)(I:Qbi)(hA:A.frames=some X.stack)(hh:QeQ){h':Heap}{tk:Nat}{u:Value}(r:QdA)
  (Z:h'.Ns s.heap.objs.size (λy=>([(x,u)]:D1).reverse.lookup y)) (C:∀b o,s.heap.get? b=some o->h'.get? b=some o) :
  L2.Inv Qfr [] (AF σ ix Qax) H {s with heap:=h',toks:=tk}:=by
 have frees:∀y∈scope.names,y.2=.free->∃c,X.env.cells.lookup y.1=some c:=λy G e=>I.ok.has y.1 (sc.frees y G e).2;have sub:∀{y:Str} {c:Addr},(fq X.env scope.names []).lookup y=some c->X.env.cells.lookup y=some c:=λ{y c} e=>vg frees (λ_ _ z=>by cases z) e;have hlen:(AF σ ix Qax).length=Nc.length:=by
  have all:∀l:Cc,(∀i∈l,∃y,X.N[i]? = some y/\scope.names.lookup y=some .free)->(l.filterMap (X.N[·]?)).length=l.length:=by
   intro l
   induction l with
   | nil=>intro _;rfl
   | cons i r E=>
    intro h;obtain⟨y,e,_⟩:=h i hU;rw[mB,e];show _+1=_+1;rw[E λj t=>h j (hX _ t)]
  unfold AF;rw[sc.hd,k8,k8,hP,all ix sc.so]
 have nil:∀b:Addr,b∉(Fj X A q scope Nc f c s H).ex:=λb z=>absurd (show b∈([]:BS) from z) Wp;refine⟨⟨I.ok.mod,sc.kind,rfl,rfl,hW _,λy z c h1 h2=>I.ok.inj y z c (sub h1) (sub h2),λy G=>?_,λy c hf _=>(by cases (show false=true from hf)),λ_=>hh,Around.frames_deeper hA,.inr ⟨rfl,rfl⟩,λb L=>absurd L (nil b),I.bs,kq I.ok.p5 I.sz,λb o _=>nil b,λb L=>absurd L (nil b),I.stack,I.OU⟩,
  rfl,I.bare,Un.kept C,⟨_,Z,λi y w h1 h2 h3=>?_⟩,λy c e=>?_,I.gD.fresh (hW _),λy c e=>I.xu y c (sub e),λp W=>absurd (show p∈([]:BM) from W) Wp,I.gD.kept C,hlen⟩
 .have F:scope.names.lookup y=some .cell\/scope.names.lookup y=some .free:=G;obtain z|z:=F
  .exact absurd rfl (sc.DE _ (r0 z))
  .exact qR z
 .unfold AF at h2;cases i with
  | zero=>
   have d:some Qax=some (some w):=h2;cases d;have e:y=x:=by
    have g:Nc[0]? = some y:=h1;rw[sc.hd]at g;exact(k4 g).symm
   subst e;refine⟨u,r,.inl ⟨sc.own,?_⟩⟩;simp
  | succ i=>
   rw[List.getElem?_cons_succ,la]at h2;cases D:ix[i]? with
   | none=>rw[D]at h2;cases h2
   | some j=>
    rw[D]at h2;have d:(σ[j]?).getD none=some w:=k4 h2;have t:σ[j]? = some (some w):=by
     cases q:σ[j]? with
     | none=>rw[q]at d;cases d
     | some o=>rw[q]at d;exact congrArg some d
    obtain⟨m,n,k⟩:=sc.so j (l7 D);have M:Nc[i+1]? = some m:=by
     have all:∀(l:Cc) (i:Nat),(∀j∈l,∃y,X.N[j]? = some y/\scope.names.lookup y=some .free)->l[i]? = some j->(l.filterMap (X.N[·]?))[i]? = some m:=by
      intro l
      induction l with
      | nil=>intro i _ h;simp at h
      | cons a r E=>
       intro i h hi;obtain⟨ya,O,_⟩:=h a hU;rw[mB,O];cases i with
       | zero=>
        simp at hi;subst hi;rw[n]at O;cases O;rfl
       | succ i=>exact E i (λj t=>h j (List.mem_cons_of_mem _ t)) (by simpa using hi)
     rw[sc.hd,List.getElem?_cons_succ];exact all ix i sc.so D
    have ey:m=y:=by
     have g:Nc[i+1]? = some y:=h1;rw[M]at g;exact k4 g
    subst ey;have S:=(sc.frees (m,.free) (r0 k) rfl).2;have P:tJ X.env.scope m:=S.elim (λz=>.inr QcQ) (λz=>.inr (.inr z));obtain⟨m0,Y,K⟩:=I.loc;obtain⟨U,V,lk⟩:=K j m w n t P;refine⟨U,V,?_⟩;obtain⟨kk,_⟩|⟨_,c',hc,T⟩:=lk
    .obtain z|z:=S
     .rw[kk]at z;cases z
     .rw[kk]at z;cases z
    .obtain⟨R,B⟩:=qR (env:=X.env) (cs:=[]) k;have:R=c':=by
      have:=sub B;rw[hc]at this;exact(k4 this).symm
     subst this;obtain⟨o,J,hd⟩:=T;exact .inr ⟨.inr k,R,B,o,C _ _ J,hd⟩
 .obtain⟨v,o,J,hd⟩:=I.cell y c (sub e);exact⟨v,o,C _ _ J,hd⟩
def afI{u:Value}{Q:VK}(sc:QeF)(I:Qbi)(G:A.frames=some X.stack)(E:QeQ)(k:A.depth<recursionLimit)
  (hf:H f=some QiB) (F:H c=some Qco) (r:QdA)
  (M:∀cl pm cd ct u,bindArgs QkJ ⟨[u],[]⟩=pure [(x,u)]) (j:scope.isCoroutine=false) (l:scope.isGenerator=false)
  (h:Lz Qfr body (AF σ ix Qax) H Q):wpAny QA A Qh2 Qa5 QbL s:=by
 obtain⟨⟨pm,L,C⟩,_⟩:=I.gD _ _ hf;obtain⟨oc,vs,t,e1,e2,K⟩:=I.gD _ _ F;refine wpAny_call (PySem.W.kla_callFunE k C rfl j l rfl ⟨c,oc,vs,t,rfl,e1,e2,K⟩ ?_);rw[M];refine kn (wpAny_newFunctionEnv sc.DE (λy p=>?_) (λa i g=>?_) sc.kind)
 .rw[i4.1 p];exact sc.own
 .have m:∀b o,s.heap.get? b=some o->a.get? b=some o:=λb o e=>(g.2 b Qf9).trans (ka _ e);refine⟨I.nolimit.keeps m,?_⟩;have J:=acP (q:=q) (f:=f) (c:=c) (tk:=s.toks+([(x,u)]).length) sc I G E r i m;refine PySem.W.kla_codeExpr (m3 (h [] _ J) (λw s' D=>?_) λe s' z=>False.elim z);obtain⟨v',H',d,n,B⟩:=D;exact I.after ⟨v',H',d.os,d.bare,d.base,d.gD,n,B⟩
theorem acQ(I:Qbi)(fp:Qf5)(new:iC X.prog X.w QbO s.heap a o):L2.Inv X pins σ (upd H a o) s:=by
 have d:=fp.1;refine I.step (ch:=[a]) (λb g=>?_) (λb o _ _ _ e _=>e) (λb o _ _ _ e _=>⟨ _,e⟩) (λb o f _ n=>by rw[aq λz=>f (by simp[z])];exact n)
  (λb o _ e=>⟨o,e⟩) (λb xs e=>aq (aP e d)▸e) (λb o u e=>aq (aP e d)▸e) (λb ps e=>⟨#[],by rw[aq (aP e d),e];simp⟩) (λm hm=>hm) (λb u e=>?_) I.bare
 .have e:=by simpa using g
  subst e;exact⟨fp.2.2.2.1,fp.2.1,fp.2.2.2.2.1,fp.2.2.2.2.2⟩
 .by_cases z:b=a
  .subst z;rw[aR]at e;grind
  .rw[aq z]at e;exact(I.gD b u e).Hq (λ_ _ _ q=>q) (λc q=>aq (aP q d)▸q) (λc xs q=>aq (aP q d)▸q) λc z q=>aq (aP q d)▸q
def Aa(kz:AT)(xs:BY):BY:=(e9 Prod.fst (kz.zip xs)).map Prod.snd
section
variable{Fq:α->β->Prop}{g1:α->Int}{g2:β->Int}
theorem Ut(b:∀p q,Fq p q->g1 p=g2 q){x:α}{y:β}(a:Fq x y){l1:Q1}{l2:List β}(h:Paired Fq l1 l2):Paired Fq (Ca g1 x l1) (Ca g2 y l2):=by
 induction h with
 | nil=>exact .cons a .nil
 | @cons p q l1 l2 r t i=>
  rw[Ca,Ca,b x y a,b p q r];split
  .exact .cons a (.cons r t)
  .exact .cons r i
theorem Cb(a:∀p q,Fq p q->g1 p=g2 q){l1:Q1}{l2:List β}(h:Paired Fq l1 l2):Paired Fq (e9 g1 l1) (e9 g2 l2):=by
 induction h with
 | nil=>exact .nil
 | cons r _ i=>exact Ut a r i
end
theorem Ii:∀{ks us:B2} {kz:AT} {xs:BY},IntsAre ks kz->Vals xs us->Paired (λ(p:Int×V) (q:Value×Value)=>p.1=numOf q.1/\RelV p.2 q.2) (kz.zip xs) (ks.zip us)
 | _,_,_,_,.nil,_=>.nil
 | _,_,_,_,.cons n t h,.nil=>.nil
 | _,_,_,_,.cons n t h,.cons r a=>.cons ⟨rfl,r⟩ (Ii h a)
theorem afJ{ps:List (Int×V)}{a:List (Value×Value)}(h:Paired (λ(p:Int×V) (q:Value×Value)=>p.1=numOf q.1/\RelV p.2 q.2) ps a):Vals (ps.map Prod.snd) (a.map Prod.snd):=by
 induction h with
 | nil=>exact .nil
 | cons r _ i=>exact .cons r.2 i
theorem Uu{keys:CS}{us:B2}{xs:BY}{kz:AT}(a:IntsAre keys.toList kz)(r:Qdr){arr:ET}{κ:D2}
  (t:Tag QeC arr κ (keys.zip us.toArray).size) (o:xP arr κ (keys.zip us.toArray).size) (hz:arr.size=(keys.zip us.toArray).size):Vals Qfb (arr.map (·.2)).toList:=by
 have g:=ksk_zip keys us;have d:(keys.toList.zip us).length=(keys.zip us.toArray).size:=by simp
 have e:arr.toList=e9 (λp=>numOf p.1) (keys.toList.zip us):=by
  refine afG (κ:=κ) W7 (λk a=>?_) (λk a=>?_) λi j x y l c b=>?_
  .rw[d]at a;rw[LG,t.pl k a,← g,LG]
  .rw[d]at a ⊢;exact t.lo k a
  .rw[LG]at c b;have f:=(Array.getElem?_eq_some_iff.1 b).1;have q:=o i j l (hz▸f);unfold PyProof.Rows.K at q;rw[c,b]at q;exact q
 rw[Array.toList_map,e];exact afJ (Cb (λp q h=>h.1) (Ii a r))
section
variable{kS l:Addr}{us:B2}{xs:BY}{kz:AT}{J:Hp->Prop}{e1:Nat}{P:PySem.Fin->Shared->Prop}
def GH(I:Qbi)(fp:qf X pins H it)(g:Obj->Obj):L2.Inv X pins σ H {s with heap:=s.heap.update it g}:=by
 have s1:=Heap.SameBut.update s.heap it g;exact I.turned (λb o n q=>(s1.2 b n).trans q) fp.1 fp.2.1 fp.2.2.2.1 fp.2.2.2.2.1 fp.2.2.2.2.2
theorem aaz{st:SortSt}{keys:CS}{e:Nat}(I:Qbi)(l:qf X pins H kS)(m:Qf5)(d:kS≠a)(ok:s.heap.get? kS=some (seqObj "list" keys e))(j:s.heap.get? a=some (seqObj "list" #[] e1))
  (k:keys.size<64) (hsz:(arrOf st).size<64) (f:failedOf st=none)
  (h:∀s' c,L2.Inv X pins σ H s'->s'.heap.get? a=some (seqObj "list" ((arrOf st).map (·.2)) c)->P Qhr s') :
  wpAny QA A (ksk_tail a false e1 (.ref kS) st) P E s:=by
 have s1:=Heap.SameBut.update s.heap kS (Obj.mapSeq λ_=>(#[]:CS));have o:=GH I l (Obj.mapSeq λ_=>(#[]:CS));have b:(s.heap.update kS (Obj.mapSeq λ_=>(#[]:CS))).get? a=some (seqObj "list" #[] e1):=(s1.2 a d.symm).trans j;have n:=GH o m (Obj.mapSeq λ_=>(arrOf st).map (·.2));obtain⟨i,g⟩:∃i,((s.heap.update kS (Obj.mapSeq λ_=>(#[]:CS))).update a (Obj.mapSeq λ_=>(arrOf st).map (·.2))).get? a=some (seqObj "list" ((arrOf st).map (·.2)) i):=
  ⟨_,get?_update_seq b λ_=>(arrOf st).map (·.2)⟩
 unfold ksk_tail
 try dsimp only
 refine hY (listUpdate_at ok rfl ?_ (by rw[lh];lia) (i8 _));refine hY (wpAny_letGo ?_);refine hY (seqEpoch_at b rfl ?_);refine hY (listUpdate_at b rfl ?_ (i8 _) (by simp only[og,oe,Array.size_map];rw[lh];lia));rw[f];simp only[bne_self_eq_false,og,oe];exact kn (h _ i n g)
theorem apV{keys:CS}{e:Nat}(I:Qbi)(m:qf X pins H kS)(p:Qf5)(f:kS≠a)(ok:s.heap.get? kS=some (seqObj "list" keys e))(l:s.heap.get? a=some (seqObj "list" #[] e1))
  (g:IntsAre keys.toList kz) (hlen:kz.length=us.length) (v:us.length<64) (r:Qdr)
  (h:∀s' out c,L2.Inv X pins σ H s'->s'.heap.get? a=some QjQ->Vals Qfb out.toList->P Qhr s') :
  wpAny QA A (ksk_end a false us.toArray e1 (.ref kS) keys) P E s:=by
 have hsz:keys.size=us.length:=by
  have h1:=g.length;rw[Array.length_toList]at h1;lia
 have d:(keys.zip us.toArray).size=us.length:=by rw[Array.size_zip,hsz,nt,Nat.min_self]
 have t0:∀n,Tag QeC QeC id n:=λn=>⟨λ_ _=>rfl,λ_ q=>q,λ_ _=>rfl⟩;unfold ksk_end
 try dsimp only
 simp only[og,oe];by_cases h2:us.toArray.size<2
 .rw[hO h2,hO h2];refine hY (kn ?_);rw[StateT.run_pure];refine hY (kn ?_)
  try dsimp only
  rw[nt]at h2;refine aaz (st:=SortSt.mk' general' QeC #[] 7 none) I m p f ok l We (by show(keys.zip us.toArray).size<64;lia) rfl λs' c k o'=>h s' _ c k o' ?_;exact Uu g r (arr:=keys.zip us.toArray) (κ:=id) (t0 _) (λi j y x=>by lia) rfl
 .rw[cq h2,cq h2];rw[nt]at h2;rw[ksk_kind g (by rw[hsz];lia)];refine hY (kn ?_);refine hY (m3 (acM (a₀:=keys.zip us.toArray) (st:=SortSt.mk' oneType' QeC #[] 7 none)
   (Q:=λ_ b=>failedOf b=none/\∃κ,Tag QeC (arrOf b) κ (keys.zip us.toArray).size/\xP (arrOf b) κ (keys.zip us.toArray).size/\(arrOf b).size=(keys.zip us.toArray).size)
   (ksk_intKeys g) ⟨Array.Perm.refl _,rfl,rfl,rfl⟩ (t0 _) (by rw[d];lia) (by rw[d];exact v) λz κ a1 a2 a3 a4=>⟨a1,κ,a2,a3,a4⟩) ?_ λ_ _ e=>e)
  rintro⟨⟨⟩,b⟩ s' ⟨rfl,hf,κ,t,o,hz⟩
  try dsimp only
  have u:(arrOf b).size=(keys.zip us.toArray).size:=hz;exact aaz I m p f ok l We We hf λs' c k o'=>h s' _ c k o' (Uu g r t o hz)
noncomputable def z4{b:Addr}(fp:qf X pins H b)(h:H' b=none):qf X pins H' b:=⟨h,fp.2⟩
theorem aki(I:Qbi)(C:qf X pins H kS)(M:Qf5)(t:kS≠a)(ok:s.heap.get? kS=some (seqObj "list" #[] 0))(W:s.heap.get? a=some (seqObj "list" #[] e1))(j0:J H)
  (hlen:kz.length=us.length) (W3:us.length<64) (r:Qdr)
  (turn:∀(i:Nat) (x:V) (k:Int),xs[i]? = some x->kz[i]? = some k->∀(S:BM) (s':Qr) (u:Value) (H':Hp),L2.Inv X S σ H' s'->J H'->RelV x u →
   wpAny QA A Qh2 (EP X S σ λv R=>v=.int k/\J R) QbL s')
  (h:∀s' H' out c,L2.Inv X pins σ H' s'->J H'->H' a=none->s'.heap.get? a=some QjQ->Vals Qfb out.toList->P Qhr s') :
  wpAny QA A (ksk_rest a Qad false us.toArray e1 (.ref kS)) P E s:=by
 unfold ksk_rest;refine hY (wpAny_rule ?_)
 first
  | rw[List.forIn_toArray]
  | (rw[← Array.forIn_toList];simp only[List.toList_toArray])
  | rw[← Array.forIn_toList]
 refine hY (ksk_fold (λi s'=>∃H' g e,L2.Inv X pins σ H' s'/\J H'/\H' kS=none/\H' a=none/\s'.heap.get? kS=some (seqObj "list" g e)/\s'.heap.get? a=some (seqObj "list" #[] e1)/\IntsAre g.toList (kz.take i)) us 0 s
  ⟨H,#[],0,I,j0,C.1,M.1,ok,W,by simpa using IntsAre.nil⟩ ?step ?done)
 case step=>
  rintro j u s' T ⟨H',g,e,O,G,F,na,d,l,n⟩;simp only[Nat.zero_add]at n ⊢;have hj:j<us.length:=(l4.1 T).1;obtain⟨k,q⟩:∃k,kz[j]? = some k:=⟨_,kA We⟩;obtain⟨x,p⟩:∃x,xs[j]? = some x:=⟨_,kA (by rw[r.length];exact hj)⟩;have U:RelV x u:=by
   obtain⟨u',e1,e2⟩:=r.get p;rw[T]at e1;cases e1;exact e2
  have hz:g.size<=us.length:=by
   have h1:=n.length;rw[Array.length_toList,ot]at h1;lia
  have Ip:=O.pinned (fp:=[kS,a]) (λb m=>by
   obtain rfl|m:=hR.1 m
   .exact z4 C F
   .rw[i4.1 m];exact z4 M na) (λb m=>by
   obtain rfl|m:=hR.1 m
   .exact⟨_,d,λv z=>by cases z⟩
   .rw[i4.1 m];exact⟨_,l,λv z=>by cases z⟩)
  refine hY (wpAny_attempt (m3 (turn j x k p q _ _ u H' Ip G U) (λv o he=>?_) λ_ _ hF=>hF.elim));obtain⟨w,H2,y,D,rfl,Z⟩:=he;obtain⟨t2,rfl⟩:=D
  try dsimp only
  have B:=y.pin (kS,seqObj "list" g e) (h5 _ (h5 _ (mZ Wp d)));have pa:=y.pin (a,seqObj "list" #[] e1) (h5 _ (h5 _ (mZ Wp l)));have I3:=GH y.xA (z4 C B.2.1) (Obj.mapSeq (·.push Qe9));have s1:=Heap.SameBut.update o.heap kS (Obj.mapSeq (·.push Qe9));obtain⟨N,L⟩:∃N,(o.heap.update kS (Obj.mapSeq (·.push Qe9))).get? kS=some (seqObj "list" (g.push Qe9) N):=⟨_,get?_update_seq B.1 (·.push Qe9)⟩;have ek:kz.take QP=kz.take j++[k]:=by rw[rr,q];simp
  have ea:(g.push (Value.int k t2)).toList=g.toList++[Value.int k t2]:=by simp
  refine hY (listUpdate_at B.1 rfl ?_ (by rw[lh];lia) (kq (Nat.le_of_eq (Array.size_push ..)) (by rw[lh];lia)));exact kn ⟨rfl,H2,g.push Qe9,N,I3,Z,B.2.1,pa.2.1,L,(s1.2 a t.symm).trans pa.1,by rw[ea,ek];exact ksk_snoc n⟩
 case done=>
  rintro s' ⟨H',g,e,O,G,F,na,d,l,n⟩;have K:IntsAre g.toList kz:=by
   have e3:kz.take (0+us.length)=kz:=List.take_of_length_le We;rw[e3]at n;exact n
  try dsimp only
  refine hY (listItems_at d rfl ?_);exact apV O (z4 C F) (z4 M na) t d l K hlen W3 r λs2 out c y Y v2=>h s2 H' out c y G na Y v2
theorem akj(I:Qbi)(p:Qf5)(g:s.heap.get? a=some (seqObj "list" us.toArray n))(q:J H)
  (hlen:kz.length=us.length) (y:us.length<64) (r:Qdr)
  (turn:∀(i:Nat) (x:V) (k:Int),xs[i]? = some x->kz[i]? = some k->∀(m:BM) (s':Qr) (u:Value) (H':Hp),L2.Inv X m σ H' s'->J H'->RelV x u →
   wpAny QA A Qh2 (EP X m σ λv l=>v=.int k/\J l) QbL s')
  (h:∀s' H' out c,L2.Inv X pins σ H' s'->J H'->H' a=none->s'.heap.get? a=some QjQ->Vals Qfb out.toList->P Qhr s') :
  wpAny QA A (ksk_tree a Qad false) P E s:=by
 have t:=ij g;obtain⟨e1,d⟩:∃e1,(s.heap.update a _).get? a=some (seqObj "list" #[] e1):=⟨_,get?_update_seq g λ_=>#[]⟩;have B:=GH I p (Obj.mapSeq λ_=>(#[]:CS));have j:((s.heap.update a (Obj.mapSeq λ_=>(#[]:CS))).push (seqObj "tuple" us.toArray 0)).objs.size=s.heap.objs.size+1:=by simp
 have z:L2.Inv X pins σ H {s with heap:=((s.heap.update a _).push (seqObj "tuple" us.toArray 0)).push (seqObj "list" #[] 0)}:=
  B.kept (t':=s.toks) λb o e=>ka _ (ka _ e)
 unfold ksk_tree;refine hY (listItems_at g rfl ?_);refine hY (listUpdate_at g rfl ?_ (by rw[nt,lh];lia) (i8 _));refine hY (seqEpoch_at d rfl ?_);refine hY (wpAny_newTuple ?_ (by show us.length<=_;rw[lh];lia));refine hY (wpAny_newList ?_ (i8 _));refine zd ?_;refine aki
  z (I.Lx Wp (I.gD.fresh Wp)) p (by rw[j];exact Nat.ne_of_gt (Nat.lt_succ_of_lt t)) (lG _ rfl) (ka _ (ka _ d)) q hlen y r turn h
theorem acR{Q:VK}(I:Qbi)(z:oj X.K H l xs)(hlen:kz.length=xs.length)(L:xs.length<64)(y:J H)
  (turn:∀(i:Nat) (x:V) (k:Int),xs[i]? = some x->kz[i]? = some k->∀(n:BM) (s':Qr) (u:Value) (H':Hp),L2.Inv X n σ H' s'->J H'->RelV x u →
   wpAny QA X.A.in1.in1 Qh2 (EP X n σ λv j=>v=.int k/\J j) QbL s')
  (h:∀D H',J H'->H' D=none->Q Qeg (upd H' D (.lst Qfb))) :
  wpAny QA X.A (call Qhv [.ref l] [(Str.ofString "key",.ref f)]) Qa5 E s:=by
 obtain⟨us,r,pl,hz⟩:=I.list z;have G:=r.length;have B:s.heap.IsList l us.toArray:=pl.isList;refine call_function_entry_kw kind_sorted plain_sorted entry_sorted (ksk_s1 _ _) ?_;unfold Builtin.«sorted»;refine hY (m:=checkCount "sorted" 1 1 _) (kn ?_);refine hY (collect_list B ?_ (by rw[lh];lia));refine hY (wpAny_newList ?_ (by rw[lh];lia));have hsz:((s.heap.push (seqObj "list" #[] 0)).update s.heap.objs.size (Obj.mapSeq (· ++ us.toArray))).objs.size=s.heap.objs.size+1:=by
  rw[Heap.size_update,size_push']
 have a:(((s.heap.push (seqObj "list" #[] 0)).update s.heap.objs.size (Obj.mapSeq (· ++ us.toArray))).push Qfp).get? Qbh=some Qfp:=by
  rw[← hsz];exact lG _ rfl
 have keep:∀b o,s.heap.get? b=some o->(((s.heap.push (seqObj "list" #[] 0)).update s.heap.objs.size (Obj.mapSeq (· ++ us.toArray))).push Qfp).get? b=some o:=λb o q=>by
  have d:b<s.heap.objs.size:=ij q;rw[Heap.get?_push_ne _ _ _ (by rw[hsz];exact kr (Nat.lt_succ_of_lt d)),Heap.get?_update_ne _ _ _ _ (kr d),Heap.get?_push_ne _ _ _ (kr d)];exact q
 show wpAny _ _ _ _ _ {s with heap:=((s.heap.push (seqObj "list" #[] 0)).update s.heap.objs.size (Obj.mapSeq (· ++ us.toArray))).push Qfp};rw[hsz];have C:L2.Inv X pins σ H {s with heap:=((s.heap.push (seqObj "list" #[] 0)).update s.heap.objs.size (Obj.mapSeq (· ++ us.toArray))).push Qfp}:=I.kept (t':=s.toks) keep;have p:∀{H':Hp},H' Qbh=none->qf X pins H' Qbh:=λ{H'} e=>I.Lx (oa _) e;refine hY (zd (wpAny_call_entry_kw slot_list_sort ⟨_,a,rfl⟩ entry_list_sort ?body (ksk_l1 _ _)))
 case body=>
  have g:=ksk_t1 f Qbh;show wpAny QA X.A.in1.in1 (Builtin.«list.sort» ⟨[.ref Qbh],[(Str.ofString "key",.ref f)]⟩) _ _ _;rw[g];refine akj C (p Qj6) a y We We r turn λs' H' out c F t na o' v'=>⟨_,rfl,?_⟩;refine kn ⟨_,rfl,.ref Qbh,_,acQ F (p na) (o:=.lst Qfb) ⟨?_,out.toList,c,v',?_⟩,rfl,h _ H' t na⟩
  .have:(Aa kz xs).length=xs.length:=by
    unfold Aa;rw[hP,zf,List.length_zip,hlen,Nat.min_self]
   rw[this];exact hz
  .simpa using o'
end
variable{g:D->Int}
def acS{ds:BA}(h:QeL):Paired (λ(d:D) (p:Int×V)=>g d=p.1/\cB K CL Z d p.2) ds ((ds.map g).zip us):=
 au.ind (P:=λds us=>Paired _ ds ((ds.map g).zip us)) .nil (λr _ i=>.cons ⟨rfl,r⟩ i) h
theorem acT{ds:BA}{ps:List (Int×V)}(h:Paired (λ(d:D) (p:Int×V)=>g d=p.1/\cB K CL Z d p.2) ds ps):au K CL Z ds (ps.map Prod.snd):=by
 induction h with
 | nil=>exact .nil
 | cons r _ i=>exact .cons r.2 i
noncomputable def acU{ds:BA}(r:QeL):au K CL Z (e9 g ds) (Aa (ds.map g) us):=acT (Cb (λp q h=>h.1) (acS r))
def auE(X:Cx)(CL:BC)(q:Str)(scope:Scope)(Nc:At)(body:Expr)(δc:BB)(ds:BA)(g:D->Int):Prop:=
 ∀f c s0 b a d,d∈ds->dI (Fj X X.A.in1.in1 q scope Nc f c s0 b) CL a body QfH (.int (g d)) QfH
variable{g:L3.D->Int}{y tx:Str}{lp:Pos}
theorem AQ(L:xC X CL tx q)(g0:Gx X)(dp:X.A.depth<recursionLimit)(hm:QhQ)(hg:Gl X "sorted")(sc:QeG)(h:Qb5)(hi:QbZ)(hl:ds.length<64)
  (inner:auE X CL q scope Nc body (HL δ1 ix) ds g) (P:defaultsOf params X.env=([],[]):=by rfl)
  (Us:∀cl pm cd ct u,bindArgs QkJ ⟨[u],[]⟩=pure [(y,u)]:=by intros;rfl) (G:scope.isCoroutine=false:=by rfl) (O:scope.isGenerator=false:=by rfl)
  (hs:Qaa:=by exact aS rfl) :
  cL X CL b (.Call Qkb [e] [⟨some "key",.Lambda params body scope lp,p2⟩] pos) δ (.lst ((e9 g ds).map T.sh)) δ1:=by
 intro H Z σ ts vs Q S k pins s I;have m:PA X [e] (ZW (Lz X e) x4):=bE dD cV hs;have hk:PK X [⟨some "key",.Lambda params body scope lp,p2⟩] (ZW (Lz X (.Lambda params body scope lp)) x4):=ZY dD aeN;refine tc (qL I hg hm vp ?_);refine callWith_kw (gE (m pos pins s σ H (λE H1=>∃v Z1,E=[v]/\aB Z Z1/\aB H H1/\bC X.K CL b H1 Z1 δ1 σ ts vs/\cB X.K CL H1 QcK v) I (h H Z σ ts vs _ S λv H1 Z1 C k1 l r=>⟨v,Z1,rfl,C,k1,l,r⟩)) λus s1 zz=>?_) (by rw[hs];rfl) (by rw[hs];rfl) rfl rfl;obtain⟨Y,H1,I1,r1,v1,Z1,e1,C,k1,l,rep1⟩:=zz;subst e1;have N:H1 (CL tx)=some (.tabs q):=by
  have:=l.T5 tx L.tab.1 L.tab.2.1;rw[L.tab.2.2]at this;exact this
 refine gE (hk pos pins s1 σ H1 (λzs H2=>∃f c,zs=[.ref f]/\aB H1 H2/\H2 f=some QiB/\H2 c=some Qco) I1
  (λqK s' V=>apR L V N (λy hy e=>V.ok.has y.1 (sc.frees y hy e).2) P λf c H2 s2 U k2 hf M _=>⟨.ref f,H2,U,rfl,f,c,rfl,k2,hf,M⟩)) λws s2 zz=>?_
 obtain⟨zs,H2,U,rz,f,c,e2,k2,hf,M⟩:=zz;subst e2;obtain⟨u,rfl,ru⟩:=rz.one;cases ru;obtain⟨v,rfl,rv⟩:=r1.one;cases rep1 with
 | @lst p aa _ hq F=>
  cases rv;show wpAny _ _ (call Qhv [.ref p] [(Str.ofString "key",.ref f)]) _ _ s2;have hlen:=F.length;refine acR (J:=λj=>∃Z3,aB H2 j/\aB H2 Z3/\aB Z3 j/\∀a o,j a=some o->m5 o=true->Z3 a=some o) (kz:=ds.map g) U (k2.seq hq) (by rw[hP,hlen]) We
   ⟨H2,.refl _,.refl _,.refl _,λ_ _ q _=>q⟩ (λi x kk hx w qK s' u j R zz rx=>?_) λD j zz hD=>?_
  .obtain⟨Z3,a1,a2,a3,a4⟩:=zz;obtain⟨d,hd,rd⟩:=F.xw hx;have ek:kk=g d:=by
    rw[la,hd]at w;exact(k4 w).symm
   subst ek;refine afI sc R R.ok.frames (R.ok.hd g0.calm) dp (a1 _ _ hf) (a1 _ _ M) rx Us G O ?_;have S0:bC X.K CL ⟨j,Z3⟩ j Z3 (some (.sh d)::HL δ1 ix) (AF σ ix (some x)) [] []:=
    ⟨⟨[]++[],[],.cons (.sh (rd.mono Qij)) ((B5 l ix j).mono Qij λa m=>by cases m),.nil,rh,λa m=>by cases m⟩,.refl _,.refl _,a3,λa o q z=>(by have n:Z3 a=none:=z;rw[show Z3 a=some o from q]at n;cases n),a4,l.T5.mono Qij⟩
   refine inner f c s' j ⟨j,Z3⟩ d (l7 hd) j Z3 _ [] [] _ S0 λv H5 Z5 W k5 B r5=>⟨?_,Z5,a1.trans k5,a2.trans W,B.zh,B.tp⟩;cases r5;rfl
  .obtain⟨Z3,a1,a2,a3,a4⟩:=zz;obtain⟨Z',n,S4⟩:=l.back (t:=.sh Qei) (v:=.int 0) (fp:=[]) (k2.trans a1) l.zh Qij a3 (λa o q z=>z) a4 (.sh Qei) rh (λa m=>by cases m) Qar;obtain⟨c5,B⟩:=(bC.pX (acU (g:=g) ((au.u9 l.tp hi F).mono n)) S4.pop).kX (g0:=[]) (by simp[Aa,zf,hlen]) hD;exact k _ _ _ (C.trans n) ((k1.trans (k2.trans a1)).trans c5) B
def Xc(h1:Nc[i]? = some x)(h2:QgM)(hd:AD x:=by decide)(k9:AE x:=by decide):Vn Qfr i x:=⟨h1,.inl h2,hd,k9⟩
def Py(h1:Nc[i]? = some x)(h2:Qi9)(hd:AD x:=by decide)(k9:AE x:=by decide):Vn Qfr i x:=⟨h1,.inr (.inr h2),hd,k9⟩
noncomputable def Xd(h2:QiE):Gl Qfr x:=h2
theorem apW{B:Type}{arg:B->BA}{Pre:B->Prop}{res:B->T}(F:Qfu)(r:Qf4):Fc (Fj X X.A.in1.in1 q scope Nc f c s H) CL x k n arg Pre res:=
 ⟨F.ex,⟨r.hd,by have:=r.dp;show X.A.depth+1+3*k+5<_;lia,by have:=r.un;show X.A.units+1+1+3+16*k+200<_;lia⟩⟩
def akk{w:World}{ps:At}{sp:Sp}(F:Qc3)(S:QdR)(len:∀vs H Q E,sp vs H Q E->vs.length=ps.length)
  (c:∀(iR:Value) (A:QaF) (outer:EM) (s:Qr) (H:Hp) (vs:BY) (Q:VK) (E:XK),fd.code=iR->fO k (A.deeper QdC)->sp vs H Q E →
   ∃t,Wo (BR mX P w K mg base N qual Qcj f iR A outer s H E).nc Qcp t/\t {nx:=λ_ H'=>Q .non H',rt:=Q} (L2.start N vs) H):d7 P w K mg base mX QaZ f fd ps sp:=by
 obtain⟨oc,od,kV,doc,pm,an,iR,ct,osl,rfl,lk,k9⟩:=F.ex;refine Tx lk k9 S len λA outer s H vs Q E a b=>?_;obtain⟨t,h,q⟩:=c iR A _ s H vs Q E rfl a b;exact⟨t,h.nc,q⟩
theorem Ij{w:World}{ps:At}{A:Type}{arg:QaA}{Pre:Qab}{res:Qaj}(F:Qc3)(S:QdR)
  (u:∀(iR:Value) (g:QaF) (outer:EM) (s:Qr) (H:Hp) (E:XK) (b:Bx) (a:A),fd.code=iR->fO k (g.deeper QdC)->Pre a →
   dh (BR mX P w K mg base N qual Qcj f iR g outer s H E).nc CL b Qcp QhP {nx:=λ_=>res a=.sh .non,rt:=λt _=>t=res a}) :
  d7 P w K mg base mX QaZ f fd ps QiV:=by
 refine akk F S (λvs H Q E h=>?_) (λiR g outer s H vs Q E k9 n h=>?_)
 .obtain⟨W,a,_,_,r,i,_⟩:=h;rw[← r.length];exact i
 .obtain⟨W,a,j,tp,r,i,p,tb,kk⟩:=h;refine⟨_,n4,u iR g _ s H E ⟨H,W⟩ a k9 n p H W _ [] [] _ ⟨⟨[],[],?_,.nil,rh,λa d=>by cases d⟩,.refl _,.refl _,j,λa o q z=>?_,tp,tb⟩ ⟨λδ' σ' H' Z' s' c e=>?_,λt v H' Z' δ' σ' s' c e=>?_,λ_ _ _ _ _ _ e=>e.elim,λ_ _ _ _ _ _ e=>e.elim⟩⟩
  .unfold entry L2.start;rw[← r.length];exact m8 _ r
  .grind
  .exact kk .non H' Z' [] c.bh c.zz c.zh c.new c.tp (by rw[e];exact .sh .non) rh λa d=>by cases d
  .have y:=e;subst y;obtain⟨fp,gp,_,m,nd,own⟩:=c.rep;cases m with
   | @cons _ _ _ _ f1 f2 l B=>
    have h1:=(ko.1 nd).2.1;exact kk v H' Z' f1 c.bh c.zz c.zh c.new c.tp l (ko.1 h1).1 λa d=>own a (h5 _ (ik _ d))
def Ik(mg:Bz)(base:Heap):Prop:=∃bm o,mg "__builtins__" = some (.ref bm)/\bm≠builtinsNs/\bm≠mainGlobals/\base.get? bm=some o/\o.cls=.type "module" /\ o.dict=some builtinsNs/\o.data=.plain
def MU{CX:ue}{w:World}{iR:Value}{outer:EM}{E:XK}
  (bl:Ik mg base) (a:K.In base) (g:fd.code=iR) (hf:fd.code=.ref c) (hd:codeHdIn K c (CL tx)=true) (h0:CL tx≠0) (d:O2 tx=q:=by decide +kernel) (b:Nu tx=true:=by decide +kernel) (e:qual++".<locals>." ++ "<lambda>" = q:=by decide +kernel) :
  xC (BR CX P w K mg base N qual scope f iR A outer s H E).nc CL tx q:=
 ⟨⟨c,g.symm.trans hf,Ll a hd⟩,bl,e,b,h0,d⟩
abbrev _root_.Co:=List (Addr×Str)
def spT(K:Frag)(ts:Co){A:Type}(n:Nat)(arg:QaA)(Pre:Qab)(res:Qaj):Sp:=λvs H Q _=>
 ∃(W:Hp) (a:A),aB W H/\(∀c o,H c=some o->m5 o=true->W c=some o)/\au K (λ_=>0) W (arg a) vs/\(arg a).length=n/\Pre a/\(∀p∈ts,W p.1=some QcD) ∧
  ∀v H' W' fp,aB H H'->aB W W'->aB W' H'->(∀c o,W' c=some o->W c=none->H c=none)->(∀c o,H' c=some o->m5 o=true->W' c=some o) →
   b9 K (λ_=>0) H' W' Qcq v fp->fp.Nodup->(∀c∈fp,W' c=none/\H c=none)->Q v H'
def akl{ts:Co}{arg:AT->BA}{pre:AT->Prop}{res:AT->T}(j:∀a,arg a=[.lst Qe1])(h:∀a,res a=.sh Qbj)(h0:∀x,Nu x=true->CL x≠0->(CL x,O2 x)∈ts) :
  ∀(vs:BY) (H:Hp) (Q:VK) (E:XK),spT K ts 1 arg pre res vs H Q E->Ny K CL 1 arg pre res vs H Q E:=by
 rintro vs H Q E ⟨W,a,h1,h2,c,o,n,m,k⟩;have b:∀{l:AT} {us:BY},au K (λ_=>0) W Qc4 us->au K CL W Qc4 us:=by
  intro l
  induction l with
  | nil=>intro us r;cases r;exact .nil
  | cons i l f=>
   intro us r;cases r with
   | cons r t=>cases r;exact .cons QaQ (f t)
 refine⟨W,a,h1,h2,?_,o,n,λx g e=>m _ (h0 x g e),λv H' W' fp a1 a2 a3 a4 a5 r nd own=>k v H' W' fp a1 a2 a3 a4 a5 ?_ nd own⟩
 .rw[j]at c ⊢;cases c with
  | cons r t=>
   cases t;cases r with
   | lst q d=>exact .cons (.lst q (b d)) .nil
 .rw[h]at r ⊢;cases r with
  | sh r=>cases r;exact .sh (.bl _)
theorem akm{ts:Co}{arg:AT->BA}{pre:AT->Prop}{res:AT->T}{ns:AT}(f:arg ns=[.lst (ns.map D.int)])(b:pre ns)(d:res ns=.sh Qbj)(g:oj K H a Qbz)(c:∀p∈ts,H p.1=some QcD) :
  spT K ts 1 arg pre res [.ref a] H (λv H'=>v=.bl true/\∀p∈ts,H' p.1=some QcD) λ_ _ _=>False:=
 ⟨H,ns,.refl _,λ_ _ q _=>q,f ▸ .cons (.lst g (T7 ns)) .nil,W7,b,c,λv H' W' fp e _ _ _ _ r _ _=>by
  refine⟨?_,λp b=>e _ _ (c p b)⟩;rw[d]at r;cases r with
  | sh r=>exact r.sc rfl⟩
theorem uv:∀{ts:Co} {b:Addr} {q:Str},ts.lookup b=some q->(b,q)∈ts
 | [],_,_,e=>by cases e
 | (c,x)::r,b,q,e=>by
  rw[l0]at e;cases a:b==c with
  | true=>rw[a]at e;grind
  | false=>rw[a]at e;exact .tail _ (uv e)
def acV{w:World}{mb:Bz}{O:Addr}{sp:Sp}{f:Qr}{vs:B2}{ns:AT}{ts:Co}
  (Z:K.In f.heap) (C:f.heap.Ns mainGlobals mg) (i:f.heap.Ns builtinsNs mb) (L:∀x:Str,x≠"__name__"->mb x=bootBuiltins x) (S:f.heap.NoLimit) (hg:f.gens=#[]) (Tf:Ik mg f.heap)
  (D:f.heap.get? a=some {cls:=.type "list",data:=.seq vs.toArray}) (hi:IntsAre vs ns) (W:ns.length<=sizeLine) (hr:fO k callerA)
  (A:∀p∈ts,f.heap.get? p.1=some (tabObj #[])/\ts.lookup p.1=some p.2/\K.lookup p.1=none/\∃c,CodeHd f.heap c p.1)
  (F:∀base:Heap,K.In base->base.Ns mainGlobals mg->Ik mg base->d7 P w K mg base mX k O fd [x] sp) (Us:∀(s:Qr) (u:Value),BindsTo s fd ⟨[u],[]⟩ [(x,u)])
  (ZZ:∀H:Hp,oj K H a Qbz->(∀p∈ts,H p.1=some QcD)->sp [.ref a] H (λv H'=>v=.bl true/\∀p∈ts,H' p.1=some QcD) λ_ _ _=>False) :
  codeAny Qdn callerA QlK Qkv f:=by
 have U:=Nr hi;have R:=hi.length;have Y:∀p∈ts,p.1≠a:=λp g z=>by
  have:=(A p g).1;rw[z,D]at this;cases this
 have core:∀H:Hp,(∀b,H b=none\/(∃o xs,b=a/\H b=some (.gW o QaY))\/∃p∈ts,b=p.1/\H b=some QcD)->oj K H a Qbz->(∀p∈ts,H p.1=some QcD)->BL P w H f.heap->(H a≠none->K.lookup a=none) →
   codeAny Qdn callerA QlK Qkv f:=by
  intro H M hS hH gD hK;have B:∀{b:Addr} {o:Obj},f.heap.get? b=some o->o≠{cls:=.type "list",data:=.seq vs.toArray}->o≠tabObj #[]->H b=none:=λ{b o} e d1 d2=>by
   obtain q|⟨_,_,z,_⟩|⟨p,g,z,_⟩:=M b
   .exact q
   .rw[z,D]at e;exact absurd (k4 e).symm d1
   .rw[z,(A p g).1]at e;exact absurd (k4 e).symm d2
  have T:∀{b:Addr} {o:Obj},f.heap.get? b=some o->H b=none->(Lw f.heap H).get? b=some o:=λe n=>ael e n;have l:∀{b:Addr} {m:Bz},f.heap.Ns b m->(Lw f.heap H).Ns b m:=λ{b m} ⟨o,es,ep,e,d,r⟩=>⟨o,es,ep,T e (B e (λz=>by rw[z]at d;cases d) λz=>by rw[z]at d;cases d),d,r⟩;have E:K.In (Lw f.heap H):=λb o e=>T (Z b o e) (by
   obtain q|⟨_,_,z,q⟩|⟨p,g,z,_⟩:=M b
   .exact q
   .subst z;rw[hK (by rw[q];simp)]at e;cases e
   .rw[z,(A p g).2.2.1]at e;cases e)
  have hM:Mod K mg (Lw f.heap H):=⟨E,l C,⟨mb,l i,L⟩,let ⟨mc,h1,h2⟩:=S;⟨mc,l h1,h2⟩⟩;have N:Ik mg (Lw f.heap H):=by
   obtain⟨bm,o,b1,b2,b3,X,b5,b6,G⟩:=Tf;exact⟨bm,o,b1,b2,b3,T X (B X (λz=>by rw[z]at G;cases G) λz=>by rw[z]at G;cases G),b5,b6,G⟩
  have e0:WB P w K mg (Lw f.heap H) callerA [] f H:=⟨rfl,hM,λb o e=>ajo e,Nat.le_of_eq (abP _ _),trivial,λb i=>absurd (show b∈([]:BS) from i) Wp,gD,.of_eq hg⟩;refine codeAny_mono ((F _ E (l C) N).run callerA [] f H ⟨[.ref a],[]⟩ [.ref a] [.ref a] _ _ hr e0 (Us f Qao) (.cons rfl .nil) (ZZ H hS hH)) λr s' h=>?_;cases r with
  | error e=>exact h.elim
  | ok fl=>
   cases fl with
   | next=>exact False.elim h
   | brk=>exact False.elim h
   | cont=>exact False.elim h
   | ret u=>
    obtain⟨v,H',os,bare,un,I,r',q,qt⟩:=h;subst q;obtain rfl:u=Value.bool true:=r';have tabAt:∀p∈ts,∃ps:CS,s'.heap.get? p.1=some (tabObj ps):=λp g=>by
     obtain⟨ps,e,_⟩:=I _ _ (qt p g);exact⟨ps,e⟩
    have keep:∀b o,f.heap.get? b=some o->(∀p∈ts,b≠p.1)->s'.heap.get? b=some o:=λb o e y=>by
     obtain q|⟨ob,xs,z,q⟩|⟨p,g,z,_⟩:=M b
     .exact un.keep b o e q (by intro z;exact absurd (show b∈([]:BS) from z) Wp) Wp
     .have z2:=un.iD b ob _ q;obtain⟨e1,_⟩:=gD b _ q;obtain⟨e2,_⟩:=I b _ z2;rw[e]at e1;cases e1;exact e2
     .exact absurd z (y p g)
    refine⟨rfl,⟨λb o e=>?_,λb o e=>?_⟩,os,bare⟩
    .by_cases y:∀p∈ts,b≠p.1
     .exact .inl (keep b o e y)
     .obtain⟨p,g,rfl⟩:∃p∈ts,b=p.1:=Classical.byContradiction λq=>y λp g z=>q ⟨p,g,z⟩;obtain⟨h1,_,_,c,hc⟩:=A p g;obtain⟨ps,e2⟩:=tabAt p g;rw[h1]at e;cases e;exact .inr (.inl ⟨(hc.tab h1).isCodeTable,rfl,#[],ps,rfl,by rw[Array.empty_append];exact e2⟩)
    .by_cases y:∀p∈ts,b≠p.1
     .exact⟨o,keep b o e y⟩
     .obtain⟨p,g,rfl⟩:∃p∈ts,b=p.1:=Classical.byContradiction λq=>y λp g z=>q ⟨p,g,z⟩;obtain⟨ps,e2⟩:=tabAt p g;exact⟨_,e2⟩
 have tok:∀{H:Hp} {b:Addr} {q:Str},ts.lookup b=some q->iC P w H f.heap b (.tabs q):=λ{H b q} e=>by
  obtain⟨h1,_⟩:=A (b,q) (uv e);exact⟨#[],h1,trivial,λpos cv z=>by simp[codeAmong]at z⟩
 cases J:K.lookup a with
 | some o=>
  have e:=Z a o J;rw[D]at e;cases e;refine core (λb=>(ts.lookup b).map HO.tabs) (λb=>?_) (.inr ⟨_,vs.toArray,_,J,rfl,rfl,rfl,by rw[List.size_toArray,R];exact W,by simpa using U⟩) (λp g=>?_) (λb u z=>?_) λz=>?_
  .cases q:List.lookup b ts with
   | none=>left;rfl
   | some t=>right;right;exact⟨(b,t),uv q,rfl,rfl⟩
  .show(ts.lookup p.1).map HO.tabs=_;rw[(A p g).2.1];rfl
  .have j:(ts.lookup b).map HO.tabs=some u:=z;cases q:List.lookup b ts with
   | none=>rw[q]at j;cases j
   | some t=>rw[q]at j;cases j;exact tok q
  .exfalso;apply z;show(ts.lookup a).map HO.tabs=none;cases q:ts.lookup a with
   | none=>rfl
   | some t=>exact absurd rfl (Y (a,t) (uv q))
 | none=>
  refine core (λb=>if b=a then some (.gW {cls:=.type "list",data:=.seq vs.toArray} (.lst Qbz)) else(ts.lookup b).map HO.tabs) (λb=>?_) (.inl (.inr ⟨{cls:=.type "list",data:=.seq vs.toArray},hO rfl⟩)) (λp g=>?_) (λb u z=>?_) λ_=>J
  .by_cases i:b=a
   .exact .inr (.inl ⟨_,_,i,hO i⟩)
   .cases q:List.lookup b ts with
    | none=>left;rw[cq i];rfl
    | some t=>right;right;exact⟨(b,t),uv q,rfl,by rw[cq i];rfl⟩
  .show(if p.1=a then _ else(ts.lookup p.1).map HO.tabs)=_;rw[cq (Y p g),(A p g).2.1];rfl
  .by_cases i:b=a
   .have j:=(hO i).symm.trans z;cases j;subst i;exact⟨D,by rw[hP];exact W,vs,_,U,D⟩
   .have j:(ts.lookup b).map HO.tabs=some u:=(cq i).symm.trans z;cases q:List.lookup b ts with
    | none=>rw[q]at j;cases j
    | some t=>rw[q]at j;cases j;exact tok q
def afK{l:PySem.W.OpenLaw}{q:QaE}{loose:At}{XP:Bz->Heap->Prop}{B:Qj7}{d:DefRec}{K:Params->Frag}{sp:World->Co->Sp}{T0:BS}
  (M:l.most=some n) (m:n<=sizeLine) (t:Qkf) (L:fO k callerA)
  (R:∀(w:World) (h:Heap),B w h->(K w.params).In h) (S:∀(w:World) (h:Heap),B w h->∀P∈T0,h.get? P=some (tabObj #[]))
  (F:∀(w:World) (mg:Bz) (j:Addr) (h:Heap),(K w.params).In h->h.Ns mainGlobals mg->mg d.name=some (.ref j) →
   ∃(fd:Qa0) (ts:Co),(∀p∈ts,p.1∈T0/\ts.lookup p.1=some p.2/\(K w.params).lookup p.1=none/\∃c,CodeHd h c p.1)/\(∀(s:Qr) (u:Value),BindsTo s fd ⟨[u],[]⟩ [(x,u)]) ∧
    ∀base:Heap,(K w.params).In base->base.Ns mainGlobals mg->Ik mg base->d7 l.prog w Qf8 mg base mX k j fd [x] (sp w ts))
  (ZZ:∀(w:World) (ts:Co) (H:Hp) (a:Addr) (ns:AT),ns.length<=n->oj Qf8 H a Qbz->(∀p∈ts,H p.1=some QcD)->sp w ts [.ref a] H (λv H'=>v=.bl true/\∀p∈ts,H' p.1=some QcD) λ_ _ _=>False) :
  PySem.W.WalkO q loose XP B l.row.toRowW d [] Qi2:=by
 refine Att.TY M t λw h9 C mg mb j o pm cd doc a vs ns G Y ho hd k9 r A hints hlen N=>?_;have E:=R w _ Y;obtain⟨fd,ts,i,O,X⟩:=F w mg j _ E G.T.g r;obtain⟨bm,I,b1,b2,b3,b4,Z,z⟩:=G.T.bmain;have y:bm≠mainGlobals:=λq=>by
  obtain⟨o,es,ep,e,hd,_⟩:=G.T.g;rw[q,e]at b3;cases b3;rw[hd]at z;cases z
 exact acV E G.T.g G.T.b G.T.builtins G.T.nolimit N ⟨bm,I,b1,b2,y,b3,b4,Z,z⟩ A hints (kq hlen m) L (λp D=>⟨S w _ Y _ (i p D).1,(i p D).2⟩) X O λH U J=>ZZ w ts H a ns hlen U J
noncomputable def ayI(y:Int):Value->Bool
 | .int i _=>i==y
 | _=>false
theorem afL:MtR X "list.index" (λx xs H Q=>∃(p:Addr) (l:AT) (y:Int) (j:Nat),x=.ref p/\xs=[.int y]/\oj X.K H p Qc4/\l[j]? = some y/\(∀i,i<j->l[i]? ≠ some y)/\Q (.int (j:Int)) H):=by
 intro pins s σ H x xs v us Q I o rs h;obtain⟨p,l,y,j,rfl,rfl,C,d,b,q⟩:=h;cases o;obtain⟨u,rfl,A⟩:=rs.one;obtain⟨t,rfl⟩:=A;obtain⟨its,r,⟨⟨oc,od,B,osl⟩,n,e,f,hd,hs⟩,hz⟩:=I.list C;dsimp only at f hd hs;subst f hd hs;have hi:=intsAre_of r;have at':∀{i:Nat} (hi:i<its.toArray.size),∃k t,its.toArray[i]=.int k t/\l[i]? = some k:=λ{i} a=>by
  have D:i<its.length:=by simpa using a
  have E:i<l.length:=by have:=r.length;rw[hP]at this;lia
  obtain⟨u,e1,e2⟩:=r.get (i:=i) (x:=.int l[i]) Wp;obtain⟨t,rfl⟩:=e2;simp_all
 have g:j<its.toArray.size:=by
  have h1:=(l4.1 d).1;have:=r.length;rw[hP]at this;simp;lia
 have hsz:its.toArray.size<=sizeLine:=by
  have:=r.length;rw[nt,← this];exact hz
 refine tw F.slot_list_index ⟨_,e,rfl⟩ F.entry_list_index (F.args_list_index_2 _ _) (SeqAt.list_indexAt p its.toArray n none osl (.int y t) (ayI y) j g (by rw[lh]at hsz;lia) ?hit λm hm c=>?no) ⟨e,λw hw=>?eqs,?_⟩
 case hit=>
  obtain⟨k,t',e1,e2⟩:=at' g;rw[e1];rw[d]at e2;cases e2;exact G2 y
 case no=>
  obtain⟨k,t',e1,e2⟩:=at' hm;rw[e1];exact F1.2 λz=>b m c (by rw[e2,z])
 case eqs=>
  obtain⟨i,a,rfl⟩:=Array.mem_iff_getElem.1 hw;obtain⟨k,t',e1,e2⟩:=at' a;rw[e1];exact SeqAt.EqAt.int_int k t' y t
 exact⟨.int (j:Int),H,I.tok _,⟨_,rfl⟩,q⟩
variable{o:Expr}{apos:Pos}
def afM{l:AT}{y:Int}(h1:dI X CL b o δ (.lst Qc4) δ1)(h2:dI X CL b e δ1 (.int y) δ2)(t:l[j]? = some y)(d:∀i,i<j->l[i]? ≠ some y)
  (s:attributeBase o "index" X.env (eval o X.env)=eval o X.env:=by rfl) (n:((backTo pos (starEach [e] X.env)).all Qh8&&(backToKw pos Qgf).all Qhm
   && decide (([e]:Cf).length+([]:EU).length+Qgz<30))=true:=by rfl)
  (c:(apos.endLine==pos.line)=true:=by rfl) (hs:Qaa:=by exact aS rfl) (f:(backTo pos QfD).any (·.1)=false:=by rfl) :
  cL X CL b (.Call (.Attribute o "index" apos) [e] [] pos) δ (.sh (.int (j:Int))) δ2:=λH Z σ ts vs Q S k=>
 cK (HB F.plainAttrs_list F.slot_list_index F.type_list_index afL dD Qau s n c hs f) (h1 H Z σ ts vs _ S λv1 H1 Z1 m k1 v r=>by
  cases r with
  | @lst a us _ g p=>
   have:=ur p;subst this;refine⟨?_,h2 H1 Z1 σ ts vs _ v λv2 H2 Z2 h k2 u q=>?_⟩
   .exact .inl ⟨rfl,_,g⟩
   .cases q;exact⟨a,l,y,j,rfl,rfl,k2.seq g,t,d,k _ H2 Z2 (m.trans h) Qaq (u.push Qbc)⟩)
theorem PB(r:fO k A):A.depth<recursionLimit:=by
 have:=r.dp;lia
variable{g:L3.D->T}
def Uv(sc:QeG)(M:QaC)(h:dI X CL b iter δ (.lst ds) δ1)(cl:∀d∈ds,(g d).clean=true)(inner:Block X CL scope Nc ifs elt (HL δ1 ix) ds p g)(hlen:QbK)
  (hs:Qcn:=by intro _;rfl) (n1:AD y:=by decide) (C:AE y:=by decide):cL X CL b QkH δ (.lst ((ds.filter p).map g)) δ1:=λH Z σ ts vs Q S k pins s I=>by
 rw[eval_ListComp];refine FX (use:=none) rfl hs (xN (Fu sc) I) sc.kind sc.names ?_;have hw:=(ZR (tg:=.Name y px) (dD (X:=X) (e:=iter))) pins s σ H (λJ H1=>∃Z1 us,aB Z Z1/\aB H H1/\bC X.K CL b H1 Z1 δ1 σ ts vs/\au X.K CL H1 ds us/\(∀i H2,aB H1 H2->i<ds.length->J.go i H2)/\(∀i H2 x H',aB H1 H2->i<ds.length->J.ph i H2 x H'->H'=H2/\us[i]? = some x)/\∀H2,aB H1 H2->J.stop ds.length H2) I (h H Z σ ts vs _ S λv H1 Z1 n k1 f r=>by
  cases r with
  | @lst a us _ l c=>
   refine⟨a,rfl,⟨us,l⟩,Z1,us,n,k1,f,c,λi H2 s hi=>?_,λi H2 y H' s hi j=>⟨j.1,j.2 us (s.seq l)⟩,λH2 s=>⟨us,s.seq l,by rw[c.length];exact hW _⟩⟩;have z:i<us.length:=by rw[← c.length];exact hi
   exact⟨us,us[i],s.seq l,by simp[z]⟩)
 refine gE hw λv s1 h1=>gE h1 λF s2 zz=>?_;obtain⟨it,fp,tn,J,H1,e,P,N,st,hf,Z1,us,n,k1,f,c,go,B,u⟩:=zz;subst e;have t:∀i Z2 H2 x H',aB H1 Z2->aB Z2 H2->(∀a o,H2 a=some o->m5 o=true->Z2 a=some o)->i<ds.length->J.ph i H2 x H'->∃Z3 d,ds[i]? = some d/\Pp Z2 H2 Z3 H'/\cB X.K CL Z3 d x:=λi Z2 H2 x H' s1 s2 tp hi j=>by
  obtain⟨e,G⟩:=B i H2 x H' (s1.trans s2) hi j;subst e;obtain⟨d,hd,rd⟩:=c.xw G;exact⟨Z2,d,hd,.refl s2 tp,rd.mono s1⟩
 refine AI (xs:=[y]) (Fu sc) M P N st hf (AJ (W1:=H1) f f.zh Qb (λ_ _ q _=>q) (B5 f ix) (MW sc inner n1 C) go t u hlen (.inr cl)) λD T s' H' m io R ch ci zz=>?_;obtain⟨Z',A,E,O⟩:=zz;obtain⟨m,L⟩:=m;exact⟨m,L,λh' w=>⟨.ref D,H',ci h' w,rfl,k _ H' Z' (n.trans A) (k1.trans E) O⟩⟩
def afN(h:Qb5)(he:∀whole,isTrue e X.env whole=(do let v ← whole;standAt e.pos;holding [v] (truthy v)):=by intro _;rfl):yW X CL b e δ (!ds.isEmpty) δ1:=λH Z σ ts vs Q S k=>
 LD (aeD dD he) (h H Z σ ts vs _ S λv H1 Z1 c k1 g r=>by
  cases r with
  | @lst a us _ f d=>
   refine⟨_,.inl ⟨us,f,rfl⟩,?_⟩;have e:us.isEmpty=ds.isEmpty:=by
    have:=d.length;cases us<;>cases ds<;>simp at this ⊢
   rw[e];exact k H1 Z1 c k1 g)
noncomputable def F5(kvs:List Qd7)(k:Do):Option α:=(kvs.find? λa=>decide (a.1=k)).map (·.2)
def Uw{p:Qd7}{r:List Qd7}{k:Do}(e:p.1=k):F5 (p::r) k=some p.2:=by simp[F5,e]
def Ux{p:Qd7}{r:List Qd7}{k:Do}(e:¬ p.1=k):F5 (p::r) k=F5 r k:=by simp[F5,e]
variable{d:D}
theorem qO.length{kvs:DA}{gs:CA}(h:qO K CL Z kvs gs):kvs.length=gs.length:=
 qO.ind (P:=λkvs gs=>kvs.length=gs.length) rfl (λ_ _ i=>congrArg (· + 1) i) h
theorem qO.val{k:Do}{kvs:DA}{gs:CA}(h:qO K CL Z kvs gs):(F5 kvs k=none/\xE gs k=none)\/∃d v,F5 kvs k=some d/\xE gs k=some v/\cB K CL Z d v:=
 qO.ind (P:=λkvs gs=>(F5 kvs k=none/\xE gs k=none)\/∃d v,F5 kvs k=some d/\xE gs k=some v/\cB K CL Z d v) (.inl ⟨rfl,rfl⟩) (λ{x d v _ _} r _ i=>by
  by_cases e:x=k
  .exact .inr ⟨d,v,Uw e,uh e,r⟩
  .rw[Ux (p:=(x,d)) e,qN (p:=(x,v)) e];exact i) h
theorem fY.length{kvs:Ch}{gs:CA}(h:Qj3):kvs.length=gs.length:=
 fY.ind (P:=λkvs gs _=>kvs.length=gs.length) rfl (λ_ _ i=>congrArg (· + 1) i) h
theorem fY.snoc{k:Do}{kvs:Ch}{gs:CA}{a:BS}(h:Qj3)(q:b9 K CL H Z t v a):fY K CL H Z (kvs++[(k,t)]) (gs++[(k,v)]) (fp++(a++[])):=
 fY.ind (P:=λkvs gs fp=>fY K CL H Z (kvs++[(k,t)]) (gs++[(k,v)]) (fp++(a++[]))) (by rw[ri,ri,ri];exact .cons q .nil) (λr _ i=>by
  rw[hZ];exact .cons r i) h
def acW:bootBuiltins "set" = some (.type "set"):=by decide +kernel
theorem Uy:∀{ns:AT} {us:B2},Vals Qbz us->IntsAre us ns
 | [],_,.nil=>.nil
 | _::_,_,.cons ⟨t,e⟩ r=>by subst e;exact .cons _ t (Uy r)
def Fn(prog:QaE)(w:World)(a:Addr)(n:Nat)(h:Heap):Prop:=∃S,h.SetOf (intKind prog w) a S n
theorem Uz:om X (.builtin "len") (λxs H Q=>∃(p:Addr) (n:Nat),xs=[.ref p]/\H p=some (.ext (Fn X.prog X.w p n))/\n<=1000/\Q Qdp H):=by
 intro pins s σ H xs us Q I r h;obtain⟨p,n,rfl,c,f,q⟩:=h;obtain⟨u,rfl,b⟩:=vals1 r;cases b;obtain⟨⟨S,o,es,ep,t,e,ex,d,_,_,_,hf,a⟩,_,_⟩:=I.gD p _ c;exact call_len_set e ex d hf (by rw[a];lia) ⟨.int n,H,I.tok _,⟨s.toks+1,by rw[a]⟩,q⟩
theorem afP:BP X (binaryOp .FloorDiv) (rI (λ_ j=>0<j/\j.natAbs.log2<9000) λi j=>.int (i / j)):=zt λi j _ _ _ _ _ a q=>by
 exact floordiv_int We (by rw[Int.fdiv_eq_ediv_of_nonneg i We];exact q) (.inl (PyProof.noPylong_of_log2 a.2))
noncomputable def afQ{i j:Int}(h1:Qbe)(h2:Qbp)(c:0<j/\j.natAbs.log2<9000):cL X CL b (.BinOp e1 .FloorDiv e2 pos) δ (.sh (.int (i / j))) δ2:=xF afP h1 h2 rfl rfl rfl λ_ _ q=>⟨i,j,rfl,rfl,c,q⟩
section
variable{D:gU}
def auG{d:L3.D}(h:δ[i]? = some Qas)(q:t.gW=d)(k:dh X CL b gS (δ.set i Qcb) D):dh X CL b gS δ D:=λH Z σ ts vs E S M=>by
 subst q;obtain⟨v,Z',_,z,a⟩:=S.aad h;exact k H Z' σ ts vs E a.pop (M.mono z)
end
end L3
namespace L2
open PySem PySem.Spec PyProof.Rows
structure afR(K:Frag)(D:Addr):Prop where
 ga:findIn K Qeg "__getattribute__" = some (some (.builtin "BaseException.__getattribute__"))
 gn:findIn K Qeg "__getattr__" = some none
 hd:hasDictIn K D=true
 fi:findIn K Qeg "__class__" = some (some QiZ)
 sp:specialIn K QiZ "__get__" = some (some (.builtin "getset_descriptor.__get__"))
 tk:PySem.W.takesIn K QiZ=some true
 mr:mroIn K D (.type "object")=some true
 mb:mroIn K D (.type "BaseException")=some true
section
variable{s:Qr}{K:Frag}{D:Addr}
open PySem.W in
open PySem PySem.Calls PyProof.Rows Builtin Builtin.ObjectAttr Builtin.Getset_descriptor PySem.W PySem.Builtin.ObjectAttr in
theorem afR.there(O:afR K D):∃c d cd sl,K.lookup D=some ⟨c,d,.cls cd,sl⟩:=by
 obtain⟨cd,q,_⟩:=any_some O.hd;unfold PySem.W.clsIn at q;split at q
 .rename_i c d a sl e;exact⟨c,d,a,sl,e⟩
 .cases q
end
end L2
namespace L3
open PySem PySem.Spec PyProof.Rows L2
def afS(l q:Addr)(xs ys:CS)(n m:Nat)(i:Dx)(b:Cn)(k:QkC)(e:xs.size<=sizeLine)(c:xs.size+ys.size<=sizeLine+1) :
  PySem.Meets (Builtin.«list.extend» ⟨[.ref l,.ref q],[]⟩) (λ_ R s=>s.heap.get? l=some {cls:=.type "list",dict:=none,data:=.seq xs n,slots:=#[]}/\s.heap.get? q=some {cls:=.type "list",dict:=i,data:=.seq ys m,slots:=b} ∧
   R (.ok (.ret Value.none)) {s with heap:=s.heap.update l (Obj.mapSeq λx=>x++ys),toks:=s.toks}):=
 PySem.Meets.of_wp λprog w A R s h=>by
  obtain⟨j,g,d,tk,os⟩:=s;obtain⟨a,f,h⟩:=h;have f1:=AutoSeq1.idx_int;have p:=AutoSeq1.sub_list_list;have f4:=AutoSeq1.sub_tuple_list;have o:=AutoSeq1.sub_list_tuple;have hz:(xs++ys).size<=sizeLine+1:=by
   rw[Array.size_append];exact c
  wp_walk using QkV,wpAny_loadPart' a,wpAny_loadPart' f
  exact⟨_,rfl,h⟩
def auH(K:Frag):V->BY->Hp->VK->Prop:=λx vs H Q=>∃l q xs zs,x=.ref l/\vs=[.ref q]/\H l=some QaY/\oj K H q zs/\xs.length+zs.length<=sizeLine/\Q .non Qjx
theorem akn{X:Cx}:He X "list.extend" (auH X.K):=by
 intro pins s σ H x vs v us Q I f g h;obtain⟨l,q,xs,zs,rfl,rfl,c,o,hz,k⟩:=h;cases f;obtain⟨u,rfl,i⟩:=g.one;cases i;obtain⟨z,its,n,r,y,e⟩:=I.x3 c;obtain⟨d,b,⟨⟨A,d2,p,s2⟩,j,e2,a,_,hd2⟩,w⟩:=I.list o;cases a;cases hd2;have m:=b.length;have hsz:its.toArray.size+d.toArray.size<=sizeLine:=by grind
 have t:¬ (!its.toArray.isEmpty&&Builtin.List.listTooLong (its.toArray.size+d.toArray.size))=true:=by
  rw[BZ hsz,Bool.and_false];decide
 refine tw F.slot_list_extend ⟨_,e,rfl⟩ F.entry_list_extend Qjm (afS l q _ _ n j d2 s2 t W8 We) ⟨e,e2,?_⟩;refine⟨.non,_,I.FK c e Wp (r.append b) ?_,rfl,k⟩;simp_all
inductive Il where
 | ix (j:Nat)|fld (f:Str)|key (k:Do)
noncomputable def xy{α:Type}(k:Do)(t:α):List Qd7->List Qd7
 | []=>[]
 | (x,u)::r=>if x=k then(x,t)::r else(x,u)::xy k t r
noncomputable def T.core:T->T
 | .pin _ t=>t
 | t=>t
noncomputable def T.PC:T->T->T
 | .pin y _,u=>.pin y u
 | _,u=>u
def T.Tg:Il->T->Option T
 | .ix j,.lst ts=>ts[j]?
 | .ix j,.tup ts=>ts[j]?
 | .fld f,.ins _ fs=>fs.lookup f
 | .key k,.dct kvs=>F5 kvs k
 | _,_=>none
def T.Xe:Il->T->T->T
 | .ix j,.lst ts,u=>.lst (ts.set j u)
 | .ix j,.tup ts,u=>.tup (ts.set j u)
 | .fld f,.ins c fs,u=>.ins c (sU f u fs)
 | .key k,.dct kvs,u=>.dct (xy k u kvs)
 | _,t,_=>t
def T.sV:List Il->T->Option T
 | [],t=>some t.core
 | s::p,t=>(t.core.Tg s).bind (T.sV p)
def T.DN:List Il->T->T->T
 | [],u,t=>t.PC u
 | s::p,u,t=>match t.core.Tg s with
  | some k=>t.PC (t.core.Xe s (T.DN p u k))
  | none=>t
def r8(H:Hp)(v:V):Il->V->Prop
 | .ix j,w=>∃a us,v=.ref a/\(H a=some QbR\/H a=some Qd8)/\us[j]? = some w
 | .fld f,w=>∃a C dx gs,v=.ref a/\H a=some (.ins C dx gs)/\gs.lookup f=some w
 | .key k,w=>∃a gs,v=.ref a/\H a=some Qef/\xE gs k=some w
def Lr(H:Hp):V->List Il->V->Prop
 | v,[],w=>v=w
 | v,s::p,w=>∃u,r8 H v s u/\Lr H u p w
variable{H:Hp}{s:Il}
theorem r8.mono{H':Hp}(e:aB H H'){v w:V}(h:r8 H v s w):r8 H' v s w:=by
 cases s with
 | ix j=>obtain⟨a,us,h1,h2,b⟩:=h;exact⟨a,us,h1,h2.imp (e _ _) (e _ _),b⟩
 | fld f=>obtain⟨a,C,dx,gs,h1,h2,b⟩:=h;exact⟨a,C,dx,gs,h1,e _ _ h2,b⟩
 | key k=>obtain⟨a,gs,h1,h2,b⟩:=h;exact⟨a,gs,h1,e _ _ h2,b⟩
theorem r8.inj{v w i:V}(h:r8 H v s w)(q:r8 H v s i):w=i:=by
 cases s with
 | ix j=>
  obtain⟨a,us,h1,h2,m⟩:=h;obtain⟨n,c,d,b,l⟩:=q;subst h1;cases d;have e:us=c:=by
   obtain h2|h2:=h2<;>obtain b|b:=b<;>rw[h2]at b<;>cases b<;>rfl
  simp_all
 | fld f=>
  obtain⟨a,C,dx,gs,h1,h2,m⟩:=h;obtain⟨n,p,o,g,d,b,l⟩:=q;grind
 | key k=>
  obtain⟨a,gs,h1,h2,m⟩:=h;obtain⟨n,g,d,b,l⟩:=q;simp_all
theorem Lr.mono{H H':Hp}(e:aB H H'):∀{p:QcU} {v w:V},Lr H v p w->Lr H' v p w
 | [],_,_,h=>h
 | _::_,_,_,⟨u,h,q⟩=>⟨u,h.mono e,Lr.mono e q⟩
theorem Lr.inj{H:Hp}:∀{p:QcU} {v w a:V},Lr H v p w->Lr H v p a->w=a
 | [],_,_,_,h,q=>h.symm.trans q
 | _::_,_,_,_,⟨_,h1,h2⟩,⟨_,c,b⟩=>by
  have:=h1.inj c;subst this;exact Lr.inj h2 b
theorem Lr.snoc{H:Hp}{s:Il}:∀{p:QcU} {v w z:V},Lr H v p w->r8 H w s z->Lr H v (p++[s]) z
 | [],_,_,z,h,q=>by
  have h':=h;subst h';exact⟨z,q,rfl⟩
 | _::_,_,_,_,⟨u,h1,h2⟩,q=>⟨u,h1,Lr.snoc h2 q⟩
variable{K:Frag}{CL:BC}{b:Bx}{H' Z Z':Hp}{δ:BB}{σ:L2.St}{ts tl:Bn}{vs us:BY}{t u t0:T}{v v0 w:V}{fp:BS}{i:Nat}{p:QcU}
theorem b9.Xf(h:QfJ):b9 K CL H Z t.core v fp/\∀{H' Z':Hp} {u:T} {g:BS},b9 K CL H' Z' u v g->b9 K CL H' Z' (t.PC u) v g:=by
 cases h with
 | pin r=>exact⟨r,.pin⟩
 | sh r=>exact⟨.sh r,λq=>q⟩
 | tup r q=>exact⟨.tup r q,λq=>q⟩
 | lst r q=>exact⟨.lst r q,λq=>q⟩
 | ins r q=>exact⟨.ins r q,λq=>q⟩
 | um r q=>exact⟨.um r q,λq=>q⟩
 | dct r q=>exact⟨.dct r q,λq=>q⟩
 | E8 r q p=>exact⟨.E8 r q p,λq=>q⟩
theorem dS.at{f:Str}:∀(fs:BN) {gs:CI} {fp:BS},dS K CL H Z fs gs fp->fs.lookup f=some t->∃w f1 f2 c,gs.lookup f=some w/\fp=f1++(f2++c)/\b9 K CL H Z t w f2 ∧
  ∀{H':Hp} {t':T} {g:BS},(∀a∈f1++c,H' a=H a)->b9 K CL H' Z t' w g->dS K CL H' Z (sU f t' fs) gs (f1++(g++c)):=by
 intro fs
 induction fs with
 | nil=>intro gs fp h e;cases e
 | cons p fs k=>
  obtain⟨x,t0⟩:=p;intro gs fp h e;cases h with
  | @cons _ _ v _ vs f0 g0 r rs=>
   rw[l0]at e;cases b:f==x with
   | true=>
    rw[b]at e;cases e;have i:=(tI.1 b).symm;refine⟨v,[],f0,g0,by rw[l0,b],rfl,r,λ{H' t' g} kk d=>?_⟩;rw[sU,hO i];exact dS.cons (fp:=g) d (rs.mono Qb λa j=>kk a (‹_›))
   | false=>
    rw[b]at e;obtain⟨w,f1,f2,c,h1,h2,m,l⟩:=k rs e;subst h2;refine⟨w,f0++f1,f2,c,by rw[l0,b];exact h1,Wp,m,λ{H' t' g} kk d=>?_⟩;rw[sU,cq (λz=>by grind),hZ];exact .cons (r.mono Qb λa j=>kk a W8) (l (λa j=>kk a (by rw[hZ];exact h5 _ j)) d)
theorem fY.Tg{k:Do}{kvs:Ch}{gs:CA}(h:Qj3)(c:F5 kvs k=some t) :
  ∃v f1 f2 b,xE gs k=some v/\fp=f1++(f2++b)/\b9 K CL H Z t v f2 ∧
   ∀{H':Hp} {t':T} {g:BS},(∀a∈f1++b,H' a=H a)->b9 K CL H' Z t' v g->fY K CL H' Z (xy k t' kvs) gs (f1++(g++b)):=by
 refine fY.ind (P:=λkvs gs fp=>F5 kvs k=some t->∃v f1 f2 b,xE gs k=some v/\fp=f1++(f2++b)/\b9 K CL H Z t v f2 ∧
   ∀{H':Hp} {t':T} {g:BS},(∀a∈f1++b,H' a=H a)->b9 K CL H' Z t' v g->fY K CL H' Z (xy k t' kvs) gs (f1++(g++b))) (λe=>by cases e) (λ{x t0 v0 ts vs fp gp} r f i c=>?_) h c
 by_cases e:x=k
 .rw[Uw e]at c;cases c;refine⟨v0,[],fp,gp,uh e,rfl,r,λ{H' t' g} d q=>?_⟩;rw[xy,hO e];exact(show fY K CL H' Z _ _ (g++gp) from .cons q (f.mono Qb d))
 .rw[Ux e]at c;obtain⟨v,f1,f2,b,h1,h2,m,l⟩:=i c;refine⟨v,_,f2,b,by rw[qN e];exact h1,by rw[h2,hZ],m,λ{H' t' g} d q=>?_⟩;rw[xy,cq e,hZ];exact .cons (r.mono Qb λa j=>d a W8) (l (λa j=>d a (by rw[hZ];grind)) q)
theorem b9.Tg{k:T}(zh:aB Z H)(h:QfJ)(i:t.Tg s=some k):∃w f1 f2 d,r8 H v s w/\fp=f1++(f2++d)/\b9 K CL H Z k w f2 ∧
  ∀{H':Hp} {n:T} {g:BS},(∀c∈f1++d,H' c=H c)->b9 K CL H' Z n w g->b9 K CL H' Z (t.Xe s n) v (f1++(g++d)):=by
 cases s with
 | ix j=>
  cases h with
  | @lst a us ts g b rs=>
   obtain⟨w,f1,f2,d,h1,h2,m,l⟩:=rs.at i;subst h2;refine⟨w,a::f1,f2,d,⟨a,us,rfl,.inl b,h1⟩,rfl,m,λ{H' n g} kk e=>?_⟩;have q:=l Qjv e;rw[eX h1]at q;exact .lst ((kk a hU).trans b) q
  | @tup a us ts g b rs=>
   obtain⟨w,f1,f2,d,h1,h2,m,l⟩:=rs.at i;subst h2;refine⟨w,f1,f2,d,⟨a,us,rfl,.inr (zh _ _ b),h1⟩,rfl,m,λ{H' n g} kk e=>?_⟩;have q:=l kk e;rw[eX h1]at q;exact .tup b q
  | _=>cases i
 | fld f=>
  cases h with
  | @ins a dx c gs fs g b rs=>
   obtain⟨w,f1,f2,d,h1,h2,m,l⟩:=dS.at fs rs i;subst h2;refine⟨w,a::f1,f2,d,⟨a,_,dx,gs,rfl,b,h1⟩,rfl,m,λ{H' n g} kk e=>?_⟩;exact .ins ((kk a hU).trans b) (l Qjv e)
  | _=>cases i
 | key x=>
  cases h with
  | @dct a gs kvs g b rs=>
   obtain⟨w,f1,f2,d,h1,h2,m,l⟩:=rs.Tg i;subst h2;refine⟨w,a::f1,f2,d,⟨a,gs,rfl,b,h1⟩,rfl,m,λ{H' n g} kk e=>?_⟩;exact .dct ((kk a hU).trans b) (l Qjv e)
  | _=>cases i
theorem b9.focus(zh:aB Z H):∀(p:QcU) {t u:T} {v:V} {fp:BS},b9 K CL H Z t v fp->T.sV p t=some u->∃w f1 f2 a,Lr H v p w/\fp=f1++(f2++a)/\b9 K CL H Z u w f2 ∧
  ∀{H':Hp} {b:T} {g:BS},(∀c∈f1++a,H' c=H c)->b9 K CL H' Z b w g->b9 K CL H' Z (T.DN p b t) v (f1++(g++a))
 | [],t,u,v,fp,h,e=>by
  obtain⟨h1,h2⟩:=h.Xf;cases e;exact⟨v,[],fp,[],rfl,Wp,h1,λ{H' b g} _ r=>by rw[iz];exact h2 r⟩
 | s::p,t,u,v,fp,h,e=>by
  obtain⟨h1,h2⟩:=h.Xf;rw[T.sV]at e;cases d:t.core.Tg s with
  | none=>rw[d]at e;cases e
  | some k=>
   rw[d]at e;obtain⟨f,a1,a2,a3,z,y,x,o⟩:=h1.Tg zh d;obtain⟨w,f1,f2,a,m,l,j,i⟩:=b9.focus zh p x e;subst y l;refine⟨w,a1++f1,f2,a++a3,⟨f,z,m⟩,Wp,j,λ{H' b g} kk n=>?_⟩;rw[T.DN,d];have q:=h2 (o (λc A=>kk c W8) (i (λc A=>kk c W8) n));simpa [List.append_assoc] using q
theorem bC.PD(S:Qan)(ev:σ[i]? = some Qea)(hi:δ[i]? = some QbC)(M:T.sV p t0=some u)(O:Lr H v0 p w):∃f2 gp,b9 K CL H Z u w f2/\aW K CL H Z ts vs gp/\(f2++gp).Nodup ∧
  ∀{a:Addr} {o:HO} {A:T} {m:Bn} {l:BY} {g f:BS},w=.ref a->a∈f2->m5 o=false->b9 K CL QbO Z A w g->aW K CL QbO Z m l f->(g++f).Nodup->(∀c∈g++f,c∈f2++gp) →
   bC K CL b QbO Z (δ.set i (some (T.DN p A t0))) σ m l:=by
 obtain⟨fp,gp,e,r,nd,k⟩:=S.rep;obtain⟨v1,e1,e2,t,hv,E,rt,put,_⟩:=e.get hi;rw[ev]at hv;cases hv;obtain⟨P,f1,f2,s,at',hf,F,put2⟩:=rt.focus S.zh p M;have hw:=at'.inj O;subst hw;subst hf;subst E;have q:((e1++((f1++(f2++s))++t))++gp).Perm ((e1++(f1++(s++t)))++(f2++gp)):=F0.2 λc=>by
  simp only[List.count_append];lia
 have B:=q.nodup_iff.1 nd;have y:=ko.1 B;refine⟨f2,gp,F,r,y.2.1,λ{a o A m l g f} I D hm J L N x=>?_⟩;have n:∀c∈e1++(f1++(s++t)),upd H a o c=H c:=λc j=>aq λz=>y.2.2 c j a (ik _ D) z;have G:=put2 (H':=upd H a o) (λc j=>n c (by
  obtain h|h:=hV.1 j
  .simp[h]
  .simp[h])) J
 have C:=put (H':=upd H a o) Qb (λc j=>n c (by
  obtain h|h:=hV.1 j
  .simp[h]
  .simp[h])) G
 rw[eX ev]at C;have v:((e1++((f1++(g++s))++t))++f).Perm ((e1++(f1++(s++t)))++(g++f)):=F0.2 λc=>by
  simp only[List.count_append];lia
 refine S.Ph hm k (by simp[D]) C L (v.nodup_iff.2 (ko.2 ⟨y.1,N,λc j d hd=>y.2.2 c j d (x d hd)⟩)) λc j=>?_;refine q.mem_iff.2 ?_;obtain h|h:=hV.1 (v.mem_iff.1 j)
 .exact ik _ h
 .exact h5 _ (x c h)
theorem bC.Fl(S:Qan)(ev:σ[i]? = some Qea)(hi:δ[i]? = some QbC)(d:T.sV p t0=some u):∃w f2,Lr H v0 p w/\b9 K CL H Z u w f2:=by
 obtain⟨fp,gp,e,r,nd,k⟩:=S.rep;obtain⟨v1,e1,e2,h,hv,f,rt,put,_⟩:=e.get hi;rw[ev]at hv;cases hv;obtain⟨a,f1,f2,g,at',hf,c,put2⟩:=rt.focus S.zh p d;exact⟨a,f2,at',c⟩
theorem bC.akp(S:Qb3)(ev:σ[i]? = some Qea)(hi:δ[i]? = some QbC)(m:T.sV p t0=some Qcz)(o:Lr H v0 p w) :
  ∃a us,w=.ref a/\H a=some QbR/\us.length=tl.length/\bC K CL b (upd H a (.lst (us++[v]))) Z (δ.set i (some (T.DN p QfQ t0))) σ ts vs:=by
 obtain⟨f2,gp,h,j,nd,go⟩:=S.PD ev hi m o;cases h with
 | @lst a us _ g n rs=>
  cases j with
  | @cons _ _ _ _ f e l k=>
   have ne:∀c∈g++(f++e),c≠a:=λc d z=>by subst z;simp_all
   have pm:((a::(g++(f++[])))++e).Perm ((a::g)++(f++e)):=F0.2 λc=>by simp
   exact⟨a,us,rfl,n,rs.length.symm,go rfl hU rfl (.lst aR (aW.app (rs.mono Qb λc d=>aq (ne c (by simp[d]))) (.cons (l.mono Qb λc d=>aq (ne c (by simp[d]))) .nil)))
    (k.mono Qb λc d=>aq (ne c (by simp[d]))) QjR λc d=>pm.mem_iff.1 d⟩
theorem bC.afU{ds:BA}(S:Qan)(h:QeL)(ev:σ[i]? = some Qea)(hi:δ[i]? = some QbC)(j:T.sV p t0=some Qcz)(l:Lr H v0 p w) :
  ∃a ws,w=.ref a/\H a=some (.lst ws)/\ws.length=tl.length/\bC K CL b (upd H a (.lst (ws++us))) Z (δ.set i (some (T.DN p Qhd t0))) σ ts vs:=by
 obtain⟨f2,gp,e,f,nd,go⟩:=S.PD ev hi j l;cases e with
 | @lst a ws _ g k rs=>
  have ne:∀c∈g++gp,c≠a:=λc d z=>by subst z;simp_all
  exact⟨a,ws,rfl,k,rs.length.symm,go rfl hU rfl (.lst aR (aW.app (rs.mono Qb λc d=>aq (ne c (by simp[d]))) (aW.Mc h)))
   (f.mono Qb λc d=>aq (ne c (by simp[d]))) (by rw[iz];exact nd) λc d=>by rw[iz]at d;exact d⟩
theorem bC.ap0{j:Nat}(S:Qb3)(ev:σ[i]? = some Qea)(hi:δ[i]? = some QbC)(q:T.sV p t0=some Qcz)(x:Lr H v0 p w)(r:j<tl.length) :
  ∃a us,w=.ref a/\H a=some QbR/\us.length=tl.length/\bC K CL b Qi3 Z (δ.set i (some (T.DN p QfE t0))) σ ts vs:=by
 obtain⟨f2,gp,l,m,nd,go⟩:=S.PD ev hi q x;cases l with
 | @lst a us _ g s rs=>
  cases m with
  | @cons _ _ _ _ f e o n=>
   obtain⟨w0,g1,g2,g3,h1,h2,y,u⟩:=rs.at (kA r);subst h2;have ne:∀c∈Qig++(f++e),c≠a:=λc d z=>by subst z;simp_all
   have k:((a::(g1++g3))++(f++e)).Sublist ((a::Qig)++(f++e)):=by simp
   have pm:((a::(g1++(f++g3)))++e).Perm ((a::(g1++g3))++(f++e)):=F0.2 λc=>by simp[List.count_append,List.count_cons];lia
   exact⟨a,us,rfl,s,rs.length.symm,go rfl hU rfl (.lst aR (u (λc d=>aq (ne c (by
     obtain h|h:=hV.1 d
     .simp[h]
     .simp[h]))) (o.mono Qb λc d=>aq (ne c (by simp[d])))))
    (n.mono Qb λc d=>aq (ne c (by simp[d]))) (pm.nodup_iff.2 (nd.sublist k)) λc d=>k.subset (pm.mem_iff.1 d)⟩
theorem bC.auJ(S:Qan)(ev:σ[i]? = some Qea)(hi:δ[i]? = some QbC)(k:T.sV p t0=some (.lst (t::tl)))(m:Lr H v0 p w) :
  ∃a us x,w=.ref a/\H a=some (.lst (x::us))/\bC K CL b (upd H a QbR) Z (δ.set i (some (T.DN p Qcz t0))) σ (t::ts) (x::vs):=by
 obtain⟨f2,gp,e,f,nd,go⟩:=S.PD ev hi k m;cases e with
 | @lst a us _ g l rs=>
  cases rs with
  | @cons _ x _ us g2 g1 h j=>
   have ne:∀c∈(g2++g1)++gp,c≠a:=λc d z=>by subst z;simp_all
   have pm:((a::g1)++(g2++gp)).Perm ((a::(g2++g1))++gp):=F0.2 λc=>by simp[List.count_cons];lia
   exact⟨a,us,x,rfl,l,go rfl hU rfl (.lst aR (j.mono Qb λc d=>aq (ne c (by simp[d]))))
    (.cons (h.mono Qb λc d=>aq (ne c (by simp[d]))) (f.mono Qb λc d=>aq (ne c (by simp[d])))) QjR λc d=>pm.mem_iff.1 d⟩
section
variable{X:Cx}{δ1:BB}{e e0 e2:Expr}{t1:T}{tl0:Bn}{d:L3.D}{ds:BA}{D:gU}{pos pa pb ps:Pos}{x c f:Str}{gS:Cs}{fs:BN}
def qs(X:Cx)(CL:BC)(b:Bx)(e:Expr)(δ:BB)(i:Nat)(p:QcU):Prop:=
 ∀(H Z:Hp) (σ:L2.St) (ts:Bn) (vs:BY) (Q:VK),bC X.K CL b H Z δ σ ts vs->(∀v0 v H' Z',aB Z Z'->aB H H'->bC X.K CL b H' Z' δ σ ts vs->σ[i]? = some Qea->Lr H' v0 p v->Q v H')->Lz X e σ H Q
def jT(n:QaK)(h:δ[i]? = some Qas):qs X CL b Qal δ i []:=λH Z σ ts vs Q S k=>by
 obtain⟨v,hv,_⟩:=S.look h;exact cK Qcu ⟨v,hv,k v v H Z Qb Qb S hv rfl⟩
def Xg(q:Qdi)(n:QfX)(h:qs X CL b e δ i p)(hi:δ[i]? = some Qas)(o:T.sV p t=some Qci)(m:fs.lookup f=some u)(x:AS X e f:=by rfl) :
  qs X CL b QfA δ i (p++[.fld f]):=λH Z σ ts vs Q S k=>
 cK (Wx dD x) (h H Z σ ts vs _ S λv0 v H' Z' z s j ev l=>by
  obtain⟨w,f2,at',r⟩:=j.Fl ev hi o;have:=at'.inj l;subst this;cases r with
  | @ins a dx _ gs _ g d rs=>
   obtain⟨w,_,_,_,hw,_,_,_⟩:=dS.at fs rs m;exact⟨a,CL c,dx,gs,w,rfl,d,q,n,hw,k v0 w H' Z' z s j ev (l.snoc ⟨a,_,dx,gs,rfl,d,hw⟩)⟩)
def afV{z:Int}{j:Nat}(h:qs X CL b e δ i p)(hi:δ[i]? = some Qas)(s:T.sV p t=some Qcz)(h2:dI X CL b e2 δ (.int z) δ)(c:Np tl.length z=some j)(o:u5 e2:=by exactλ_ _=>rfl) :
  qs X CL b (.Subscript e e2 pos) δ i (p++[.ix j]):=λH Z σ ts vs Q S k=>
 cK (Hz GB dD dD o) (h H Z σ ts vs _ S λv0 v H' Z' m s1 u ev x=>h2 H' Z' σ ts vs _ u λv2 H2 Z2 l s2 f n=>by
  have at2:=x.mono s2;obtain⟨w,f2,at',r⟩:=f.Fl ev hi s;have:=at'.inj at2;subst this;cases r with
  | @lst a us _ g d rs=>
   have q:=(BU c).2.1;obtain⟨w,_,_,_,hw,_,_,_⟩:=rs.at (kA q);refine⟨a,us,z,w,rfl,n.sc rfl,oj.of d,?_,k v0 w H2 Z2 (m.trans l) (s1.trans s2) f ev (at2.snoc ⟨a,us,rfl,.inl d,hw⟩)⟩;unfold uW;rw[← rs.length,c];exact hw)
theorem GJ(h:qs X CL b e δ i p)(hi:δ[i]? = some Qas)(c:T.sV p t=some (.sh d)):cL X CL b e δ (.sh d) δ:=λH Z σ ts vs Q S k=>
 h H Z σ ts vs _ S λv0 v H' Z' z s a ev f=>by
  obtain⟨w,f2,at',r⟩:=a.Fl ev hi c;have:=at'.inj f;subst this;cases r with
  | sh r=>exact k _ H' Z' z s (a.push r)
def ap1(x:qs X CL b e0 δ i p)(h0:δ[i]? = some QbC)(f:T.sV p t0=some (.lst tl0))(h:QaH)(h1:δ1[i]? = some (some t1))(d:T.sV p t1=some Qcz)(u:tl.length<=1000000)(k:dh X CL b gS (δ1.set i (some (T.DN p QfQ t1))) D)
  (q:attributeBase e0 "append" X.env Qh5=eval e0 X.env:=by rfl)
  (o:AB X pb e:=by rfl)
  (c:Qeu:=by rfl) (hs:Qaa:=by exact aS rfl) (G:swapsWith Qk4 none pos.line X.env=pure false:=by rfl) :
  dh X CL b (.Expr Qk4 pos::gS) δ D:=cE λH Z σ ts vs E S M=>
 qP (yT (HB yI PySem.F.slot_list_append PySem.F.type_list_append DC dD Qau q o c hs rfl) G) (x H Z σ ts vs _ S λv0 v C z n s0 j ev l=>by
  obtain⟨w,f2,at',r⟩:=j.Fl ev h0 f;have:=at'.inj l;subst this;refine⟨?_,h C z σ ts vs _ j λv2 H1 Z1 m k1 B=>?_⟩
  .cases r with
   | lst g _=>exact .inl ⟨rfl,_,oj.of g⟩
  .obtain⟨a,us,y,g,s,A⟩:=B.akp ev h1 d (l.mono k1);exact⟨a,us,v2,y,rfl,g,by rw[s];exact p8 u Wl,M.nx _ σ _ Z1 (n.trans m) A k⟩)
def akr(z:qs X CL b e0 δ i p)(h0:δ[i]? = some QbC)(g:T.sV p t0=some (.lst tl0))(h:Qb5)(C:L3.D.bS ds=true)(h1:δ1[i]? = some (some t1))(f:T.sV p t1=some Qcz)(y:tl.length+ds.length<=1000000)(k:dh X CL b gS (δ1.set i (some (T.DN p Qhd t1))) D)
  (t:attributeBase e0 "extend" X.env Qh5=eval e0 X.env:=by rfl)
  (s:AB X pb e:=by rfl)
  (c:Qeu:=by rfl) (hs:Qaa:=by exact aS rfl) (I:swapsWith Qk5 none pos.line X.env=pure false:=by rfl) :
  dh X CL b (.Expr Qk5 pos::gS) δ D:=cE λH Z σ ts vs E S M=>
 qP (yT (HB yI OK OH akn dD Qau t s c hs rfl) I) (z H Z σ ts vs _ S λv0 v G B q s0 m ev n=>by
  obtain⟨w,f2,at',r⟩:=m.Fl ev h0 g;have:=at'.inj n;subst this;refine⟨?_,h G B σ ts vs _ m λv2 H1 Z1 o k1 l d=>?_⟩
  .cases r with
   | lst j _=>exact .inl ⟨rfl,_,oj.of j⟩
  .cases d with
   | lst x d=>
    obtain⟨a,ws,A,j,u,F⟩:=l.afU (au.u9 l.tp C d) ev h1 f (n.mono k1);have hz:=d.length;exact⟨a,_,ws,_,A,rfl,j,x,by rw[u,← hz];exact kv (p8 y Wl),M.nx _ σ _ Z1 (q.trans o) F k⟩)
def DP{z:Int}{j:Nat}(h:QaH)(u:qs X CL b e0 δ1 i p)(h2:dI X CL b e2 δ1 (.int z) δ1)(h1:δ1[i]? = some (some t1))(c:T.sV p t1=some Qcz)(g:Np tl.length z=some j)(kk:dh X CL b gS (δ1.set i (some (T.DN p QfE t1))) D)
  (s:∀v,assign (.Subscript e0 e2 ps) X.env v=(do
   let I ← holding [v] Qh5
   let U ← holding [v,I] (eval e2 X.env)
   standAt ps
   holding [v,I,U] (setItem I U v)
   release [v,I,U] []):=by intro _;rfl)
  (hs:swapsWithSole [.Subscript e0 e2 ps] e pos.line X.env=pure false:=by rfl) (hw:swappedStores [.Subscript e0 e2 ps] e X.env=pure none:=by rfl) (d:(assignEach [.Subscript e0 e2 ps] X.env).map (·.2)=[assign (.Subscript e0 e2 ps) X.env]:=by rfl) :
  dh X CL b (.Assign [.Subscript e0 e2 ps] e pos::gS) δ D:=by
 refine cE λH Z σ ts vs E S M=>qP (aew dD (aev dD dD set_list s) hs hw d) (h H Z σ ts vs _ S λv H1 Z1 m k1 C=>?_);have r:=(BU g).2.1;refine u H1 Z1 σ _ _ _ C λv0 w H2 Z2 l k2 B ev F=>h2 H2 Z2 σ _ _ _ B λv2 G Z3 k o A n=>?_;obtain⟨a,us,x,f,q,y⟩:=A.ap0 ev h1 c (F.mono o) r;exact⟨a,us,z,j,x,n.sc rfl,f,q▸g,M.nx _ σ _ Z3 (m.trans (l.trans k)) y kk⟩
def afW{kj:Nat}{pc:Pos}(l:qs X CL b e0 δ i p)(h:δ[i]? = some QbC)(j:T.sV p t0=some (.lst (t::tl)))(g:attributeBase e0 "pop" X.env Qh5=eval e0 X.env:=by rfl)
  (f:((backTo pos (starEach [.Constant Qei kj pc] X.env)).all Qh8&&(backToKw pos Qgf).all Qhm&&decide ([Expr.Constant Qei kj pc].length+([]:EU).length+Qgz<30))=true:=by rfl)
  (c:(pa.endLine==pos.line)=true:=by rfl) (hs:starEach [.Constant Qei kj pc] X.env=(false,eval (.Constant Qei kj pc) X.env)::starEach [] X.env:=by exact aS rfl) :
  ng X CL b (.Call (.Attribute e0 "pop" pa) [.Constant Qei kj pc] [] pos) δ t (δ.set i (some (T.DN p Qcz t0))):=λH Z σ ts vs Q S k=>
 cK (HB yI PySem.F.slot_list_pop PySem.F.type_list_pop aeU dD (bE Wq cV hs) g f c hs rfl) (l H Z σ ts vs _ S λv0 w s n e s0 q ev r=>by
  obtain⟨a,us,x,m,d,o⟩:=q.auJ ev h j r;subst m;refine⟨.inl ⟨rfl,_,.inl (.inl d)⟩,a,_,0,0,x,rfl,rfl,d,Wl,Wl,?_,rfl,?_⟩
  .unfold seqIndex?;simp
  .exact k x _ n e o)
end
theorem dS.none{m:Str}:∀{fs:BN} {gs:CI} {fp:BS},dS K CL H Z fs gs fp->fs.lookup m=none->gs.lookup m=none:=by
 intro fs
 induction fs with
 | nil=>intro gs fp r _;cases r;rfl
 | cons p fs a=>
  intro gs fp r h;cases r with
  | cons q r=>
   rw[l0]at h ⊢;split at h
   .cases h
   .exact a r h
section
variable{X:Cx}{δ1:BB}{e o:Expr}{es:Cf}{pos pp apos:Pos}{x c m:Str}{is:Cc}{fx:BS->Prop}{al:BS->Bn}{y:Addr}{fs:BN}{A:Type}{k n:Nat}{f:Addr}{fd:Qa0}{ps:At}{arg:QaG}{Pre:Qab}{res:Qaj}{out:QaG}
theorem NR{H1 Z1:Hp}{al:Bn}{ys:BS}{ns:Bn}{Q:VK}{E:XK}(a:A)(k:arg a=al)(j:Qb0)(x:Pre a)(f:res a=t)(h:z9 (out a) ys ns)(G:L1 σ is ys)(F:∀i∈is,i<δ1.length)(y:us.length=al.length)
  (m:bC X.K CL b H1 Z1 δ1 σ (al.reverse++ts) QdL) (kk:∀v H' Z',aB Z1 Z'->bC X.K CL b H' Z' (xI δ1 is ns) σ (t::ts) QaO->Q v H'):mI X.K CL n arg Pre res out us H1 Q E:=by
 obtain⟨g,r,nd,l⟩:=m.cut W8;obtain⟨g',o,pm⟩:=r.rev;have C:AK H1 g=AK H1 g':=funext λc=>by
  by_cases d:c∈g
  .rw[vt d,vt (pm.mem_iff.2 d)]
  .rw[lI d,lI (λz=>d (pm.mem_iff.1 z))]
 rw[C]at l;rw[← k]at o;refine⟨Z1,a,g',l.zh,m.tp,o,pm.nodup_iff.2 nd,j,x,m.WH,λv H' W' fp B ww u nw tp rt D own=>?_⟩;cases rt with
 | @cons _ _ _ _ f1 f2 w p=>
  have e:(f2++(f1++[])).Perm (f1++f2):=by rw[iz];exact l9
  have s:=l.Of B ww u nw tp (aW.app p (.cons w .nil)) (e.nodup_iff.2 D) λc d=>own c (e.mem_iff.1 d);rw[hZ,hZ]at s;have q:=s.P2 p.length G h F;rw[f]at q;exact kk v H' W' ww q
inductive Recv(δ:BB)(i:Nat)(c:Str)(fs:BN):(Addr->Prop)->Prop where
 | own:δ[i]? = some (some Qci)->Recv δ i c fs (λ_=>True)
 | pin {y:Addr}:δ[i]? = some (some (.pin y Qci))->Recv δ i c fs (λz=>z=y)
theorem bC.recv{g:Addr->Prop}(S:Qjn)(h:Recv δ i c fs g):∃y dx gs,g y/\σ[i]? = some (some Qeh)/\H y=some Qhy/\(∀m,fs.lookup m=none->gs.lookup m=none)/\bC X.K CL b H Z (δ.set i none) σ (.pin y Qci::ts) (.ref y::vs):=by
 cases h with
 | own h=>
  obtain⟨v,e,f⟩:=S.move h;obtain⟨y,rfl,a⟩:=f.apQ rfl;obtain⟨fp,gp,_,r,_,_⟩:=a.rep;cases r with
  | cons r _=>
   cases r with
   | pin r=>
    cases r with
    | ins d rs=>exact⟨y,_,_,trivial,e,d,λm hm=>rs.none hm,a⟩
 | @pin y h=>
  obtain⟨v,e,a⟩:=S.move h;obtain⟨fp,gp,_,r,_,_⟩:=a.rep;cases r with
  | cons r _=>
   cases r with
   | pin r=>
    cases r with
    | ins d rs=>exact⟨y,_,_,rfl,e,d,λm hm=>rs.none hm,a⟩
theorem afX{pl:QcR}{g:Addr->Prop}(a:Addr->BS->A)(ns:Bn)(L:Qdi)(hm:Meth X.K (CL c) m f)(F:QkW)(s:QbG)(B:Qc6)
  (nm:QaK) (hi:Recv δ i c fs g) (hf:QeJ) (h:pd X CL b Qae (δ.set i none) is fx al δ1)
  (C:∀y ys,g y->ys.length=is.length->fx ys->arg (a y ys)=.pin y Qci::al ys/\(arg (a y ys)).length=n/\Pre (a y ys)/\res (a y ys)=t/\z9 (out (a y ys)) (y::ys) ns) (O:∀j∈i::is,j<δ1.length)
  (he:Qah:=by exact aS rfl) (hpl:Qaw:=by rfl)
  (r:eval Qeo X.env=(do
   let I ← eval QaL X.env
   standAt apos.atName
   let (f,first) ← holding [I] QdN
   callWith pos f first (backTo pos QcY) Qbw):=by rfl) :
  ng X CL b Qeo δ t (xI δ1 (i::is) ns):=λH Z σ ts vs Q S kk=>by
 obtain⟨y,dx,gs,q,ev,D,u,M⟩:=S.recv hi;refine cK (ZX Qja L hm F s B .nil xD LC he hpl r) ⟨_,ev,y,dx,gs,rfl,D,u m hf,h H Z σ _ _ _ M λys us H1 Z1 d P o l p k1 R=>?_⟩;obtain⟨h1,h2,J,G,E⟩:=C y ys q d o;refine NR (is:=i::is) _ h1 h2 J G E ⟨ev,P⟩ O (by simp[l]) ?_ λv H' Z' z N=>kk v H' Z' (p.trans z) N;simp_all
structure LU(X:Cx)(CL:BC)(c m:Str)(k n:Nat){A:Type}(arg:QaG)(Pre:Qab)(res:Qaj)(out:QaG):Prop where
 ex:∃f fd ps,Meth X.K (CL c) m f/\d7 X.prog X.w X.K X.mg X.base mX k f fd ps QgA/\Binds X.K fd ps []
 room:fO k X.A
 cls:jP X.K (CL c)
theorem qM{pl:QcR}{g:Addr->Prop}{dl:BA}(a:Addr->A)(l:T)(F:LU X CL c m k n arg Pre res out)(nm:QaK)(hi:Recv δ i c fs g)(h:Nv X CL b Qae (δ.set i none) (dl.map T.sh) δ1)(q:∀y,g y->Pre (a y))(B:∀y,g y->res (a y)=t)(w:∀y,g y->z9 (out (a y)) [y] [l])
  (hf:QeJ:=by rfl) (v:∀y,g y->arg (a y)=.pin y Qci::dl.map T.sh:=by intros;rfl) (hlen:∀y,(arg (a y)).length=n:=by intros;rfl) (E:Qb1:=by exact h7 rfl)
  (he:Qah:=by exact aS rfl) (hpl:Qaw:=by rfl)
  (p:eval Qeo X.env=(do
   let I ← eval QaL X.env
   standAt apos.atName
   let (f,first) ← holding [I] QdN
   callWith pos f first (backTo pos QcY) Qbw):=by rfl) :
  ng X CL b Qeo δ t (δ1.set i (some l)):=by
 obtain⟨⟨f,fd,ps,M,G,bd⟩,r,u⟩:=F;have h':pd X CL b _ _ [] (λ_=>True) (λ_=>dl.map T.sh) δ1:=λH Z σ ts vs Q S k=>h H Z σ ts vs Q S λus H' Z' o z s C=>k [] us H' Z' rfl trivial trivial o z s C;exact afX (λy _=>a y) [l] u M G r bd nm hi hf h' (λy ys d o _=>by
  cases List.length_eq_zero_iff.1 o;exact⟨v y d,hlen y,q y d,B y d,w y d⟩) (λj D=>by simp_all) he hpl p
end
end L3
namespace L2
open PySem PySem.Spec PyProof.Rows
section
variable{X:Cx}{CX:ue}{k:Nat}{f C:Addr}{fd:Qa0}{ps:At}{sp:Sp}{GA:BY}{ds:B2}{E:XK}{x m:Str}{p pos apos:Pos}{e:Expr}{es:Cf}{t:TA}
structure US(K:Frag)(C:Addr)(m:Str)(f:Addr):Prop where
 ga:specialIn K Qbb "__getattribute__" = some Qk7
 rd:readsIn K C Qh7=true
 fnd:findCls K Qbb Qh7 m=some (.val Qad)
 kp:keepIn K Qad=true
def afY{pl:QcR}(a:US X.K C m f)(F:QcV)(q:QbG)(y:Qam)(b:X.mg x=some Qbb)(z:Qc5)(hd:Qds)(n:Qdg)(B:Qd1)
  (g:AD x:=by decide) (l:Qah:=by rfl) (hpl:Qaw:=by rfl)
  (o:eval QkN X.env=(do
   let U ← eval (.Name x p) X.env
   standAt apos.atName
   let (f,first) ← holding [U] QhH
   callWith pos f first (backTo pos QcY) Qbw):=by rfl) :
  PE X QkN (OC sp GA E t):=by
 intro pins s σ H Q I h;refine Lm (gE (OV (v:=.ref C) y b rfl g pins s σ H (λv H1=>v=.ref C/\H1=H) I ⟨rfl,rfl⟩) λu s1 ⟨x,H1,c,i,ex,D⟩=>?_) o;subst ex;subst D;obtain rfl:u=Value.ref C:=i;refine PySem.W.method_cls c.Gy a.ga (PySem.W.cls_value c.Gy a.rd a.fnd rfl ?_);have G:=c.tok (s1.toks+1);refine KO I.ok.mod.xc a.kp (gE (B pos pins _ σ H1 _ G h) λus s2 ⟨vs,H2,d,r,j⟩=>⟨d.Gy,?_⟩) l hpl;exact Hx F q z hd n d r j
end
end L2
namespace L3
open PySem PySem.Spec PyProof.Rows L2
section
variable{X:Cx}{CL:BC}{b:Bx}{δ δ1:BB}{e:Expr}{es:Cf}{t:T}{pos pp apos:Pos}{i:Nat}{x m:Str}{is:Cc}{fx:BS->Prop}{al:BS->Bn}{y:Addr}{A:Type}{k n:Nat}{arg:QaG}{Pre:Qab}{res:Qaj}{out:QaG}
structure FkM(X:Cx)(CL:BC)(x m:Str)(k n:Nat){A:Type}(arg:QaG)(Pre:Qab)(res:Qaj)(out:QaG):Prop where
 ex:∃f fd ps,US X.K (CL x) m f/\d7 X.prog X.w X.K X.mg X.base mX k f fd ps QgA/\X.mg x=some (.ref (CL x))/\Binds X.K fd ps []
 room:fO k X.A
theorem kM1{pl:QcR}(a:Addr->A)(o:T)(F:FkM X CL x m k n arg Pre res out)(w:Qam)(h:pd X CL b Qae δ [i] fx al δ1)(u:∀y,fx [y]->Pre (a y))(E:∀y,fx [y]->res (a y)=t)(D:∀y,fx [y]->z9 (out (a y)) [y] [o])
  (B:∀y,fx [y]->arg (a y)=al [y]:=by intros;rfl) (hlen:∀y,(arg (a y)).length=n:=by intros;rfl) (L:Qb1:=by exact h7 rfl)
  (q:AD x:=by decide) (he:Qah:=by exact aS rfl) (hpl:Qaw:=by rfl)
  (s:eval Qeo X.env=(do
   let I ← eval QaL X.env
   standAt apos.atName
   let (f,first) ← holding [I] QdN
   callWith pos f first (backTo pos QcY) Qbw):=by rfl) :
  ng X CL b Qeo δ t (δ1.set i (some o)):=λH Z σ ts vs Q S kk=>by
 obtain⟨⟨f,fd,ps,C,G,mg,bd⟩,r⟩:=F;refine cK (afY C G r w mg bd .nil xD LC q he hpl s) (h H Z σ ts vs _ S λys us H1 Z1 d l hf c p k1 g=>?_);rw[iz]
 match ys,d,hf,l,g,c with
 | [y],_,hf,l,g,c=>exact NR _ (B y hf) (hlen y) (u y hf) (E y hf) (D y hf) l (λj K=>by simp_all) c g λv H' Z' z J=>kk v H' Z' (p.trans z) J
end
theorem pW.none{K:Frag}{CL:BC}{Z:Hp}{m:Str}:∀{fs:Da} {gs:CI},pW K CL Z fs gs->fs.lookup m=none->gs.lookup m=none:=by
 intro fs
 induction fs with
 | nil=>intro gs r _;cases r;rfl
 | cons p fs a=>
  intro gs r h;cases r with
  | cons q r=>
   rw[l0]at h ⊢;split at h
   .cases h
   .exact a r h
section
abbrev _root_.EN:=List (Str×L3.D)
variable{X:Cx}{CL:BC}{b:Bx}{δ δ1 δ2:BB}{e e1 e2 o:Expr}{es:Cf}{pos apos pos':Pos}{i:Nat}{x c m:Str}{fs:EN}{ds:BA}{D:gU}{gS:Cs}{A:Type}{k n:Nat}{arg:QaA}{Pre:Qab}{res:Qaj}
def q_{pl:QcR}(a:A)(F:Fq X CL c m k n arg Pre res)(i:QgP)(hf:QeJ)(h:nZ X CL b Qae δ1 ds δ2)(q:arg a=.ins c fs::ds)(g:Pre a)(l:QdO)(j:Qb0:=by rfl)
  (he:Qah:=by exact aS rfl) (hpl:Qaw:=by rfl)
  (d:eval Qet X.env=(do
   let I ← eval o X.env
   standAt apos.atName
   let (f,first) ← holding [I] QdN
   callWith pos f first (backTo pos QcY) Qbw):=by rfl) :
  cL X CL b Qet δ (res a) δ2:=by
 obtain⟨⟨f,fd,ps,M,G,bd⟩,r,p⟩:=F;exact ajR a p M G r bd i hf h q j g l he hpl d
def q0_{pl:QcR}(a:A)(F:Fq X CL c m k n arg Pre res)(g:QgP)(hf:QeJ)(l:arg a=[.ins c fs])(e:Pre a)(i:QdO)(h:Qb0:=by rfl)
  (d:eval Qey X.env=(do
   let I ← eval o X.env
   standAt apos.atName
   let (f,first) ← holding [I] QdN
   callWith pos f first (backTo pos QfD) Qbw):=by rfl) :
  cL X CL b Qey δ (res a) δ1:=by
 obtain⟨⟨f,fd,ps,M,G,bd⟩,r,j⟩:=F;exact afh a j M G r bd g (λq=>q.none hf) l h e i d
theorem ap2{z w:Int}(g:Gx X)(nm:QcT)(d:δ[i]? = some (some (.sh (.int z))))(h:dI X CL b e δ (.int w) δ)(k:dh X CL b gS (δ.set i (some (.sh (.int (z+w))))) D) :
  dh X CL b (.AugAssign Qb9 .Add e pos::gS) δ D:=cE λH Z σ ts vs E S M=>
 qP (aoG g.nd nm.hi nm.loc dD aoH nm.hf) (by
  obtain⟨v,hv,r⟩:=S.JE d;cases r;refine⟨_,hv,h H Z σ ts vs _ S λv2 H1 Z1 a k1 j c=>?_⟩;cases c;have f:i<δ.length:=by
   obtain h|h:=Nat.lt_or_ge i _
   .exact h
   simp_all
  exact⟨z,w,rfl,rfl,M.nx _ _ H1 Z1 a ((j.push Qbc).set f) k⟩)
theorem aks{ds2:BA}(h1:cL X CL b e1 δ (.lst Qa7) δ1)(h2:ng X CL b e2 δ1 (.lst (ds2.map T.sh)) δ2)(hz:ds.length+ds2.length<=sizeLine) :
  ng X CL b Qez δ (.lst ((ds++ds2).map T.sh)) δ2:=λH Z σ ts vs Q S k=>
 cK (TL aao dD dD) (h1 H Z σ ts vs _ S λv1 H1 Z1 i k1 s=>h2 H1 Z1 σ _ _ _ s λv2 H2 Z2 h g=>by
  obtain⟨fp,gp,_,r,_,_⟩:=g.rep;cases r with
  | cons m r=>
   cases r with
   | cons n _=>
    cases m with
    | @lst a2 j _ g2 e a=>
     cases n with
     | @lst a1 l _ g1 f d=>
      have f1:=(aW.toF d).1;have f2:=(aW.toF a).1;refine⟨_,_,_,_,rfl,rfl,oj.of f,oj.of e,by rw[← f1.length,← f2.length];exact hz,λp o=>?_⟩;have rc:=au.app f1 f2;obtain⟨c,q⟩:=(bC.pX rc g.pop.pop).kX (g0:=[]) (by simp[f1.length,f2.length]) o;exact k _ _ _ (i.trans h) q)
def ap3{t:T}{f:Str}{a:Addr}{gs:BN}{pa pb pc:Pos}(j:Qdi)(n:QfX)(nm:QaK)(h:QbJ)(h1:δ1[i]? = some (some (.pin a (.ins c gs))))(g:gs.length<1000)
  (k:dh X CL b gS (δ1.set i QlH) D) (hs:Qkz:=by rfl) :
  dh X CL b Qlh δ D:=cE λH Z σ ts vs E S M=>
 qP (aeG Qja dD hs) (h H Z σ ts vs _ S λv H' Z' z m=>by
  obtain⟨dx,ws,hv,d,hlen,l⟩:=m.setField h1;exact⟨ _,hv,a,CL c,dx,ws,rfl,d,j,n,hlen▸g,M.nx _ σ _ Z' z l k⟩)
end
theorem o9{p:T}{δ:BB}{ds:BA}:Keeps (some p::δ) (p::ds.map T.sh):=λj y t h=>by
 cases j with
 | zero=>cases h;rfl
 | succ j=>
  simp_all
end L3
namespace L2
open PySem PySem.Spec PyProof.Rows
noncomputable def lA{α:Type}(xs:Q1)(lo hi st:CU):List α:=
 (sliceRange (sliceBounds lo hi st xs.length).1 (sliceBounds lo hi st xs.length).2.1 (sliceBounds lo hi st xs.length).2.2).filterMap (xs[·]?)
theorem NS(its:B2)(lo hi st:CU):slicePick its.toArray lo hi st=(lA its lo hi st).toArray:=by
 unfold slicePick lA;simp_all
theorem afZ{α:Type}(f:α->Value)(xs:Q1)(lo hi st:CU):(lA xs lo hi st).length<=xs.length:=by
 have h:=slicePick_size_le (xs.map f).toArray lo hi st;rw[NS]at h;have e:(lA (xs.map f) lo hi st)=(lA xs lo hi st).map f:=by
  unfold lA;rw[List.map_filterMap];simp_all
 simp_all
theorem Vals.lA{xs:BY}{us:B2}(r:Qdr)(lo hi st:CU):Vals (lA xs lo hi st) (lA us lo hi st):=by
 unfold L2.lA;rw[r.length];generalize sliceRange _ _ _=l
 induction l with
 | nil=>exact .nil
 | cons i l b=>
  rw[mB,mB];cases e:xs[i]? with
  | none=>
   have e2:us[i]? = none:=tj (by
    have:=r.length;simp_all)
   simp_all
  | some x=>
   obtain⟨u,e2,a⟩:=r.get e;rw[e2];exact .cons a b
variable{X:Cx}{e st:Expr}{lo hi:Qd5}{te:TE}{tl th tk:TO}{pos p2:Pos}
theorem acY(he:QbY)(E:PO X lo tl)(D:PO X hi th)(F:PO X (some st) tk):PE X Qk2 (λσ H Q=>te σ H λx H1=>tl σ H1 λl H2=>th σ H2 λu g=>tk σ g λk c=>∃a xs,x=.ref a/\oj X.K c a xs/\k≠some 0/\∀p,c p=none->Q Qdx (upd c p (.lst (lA xs l u k)))):=by
 intro pins s σ H Q I h;refine Subscript_ (gE QbI λv s1 ⟨x,H1,N,o,z⟩=>?_);refine wpAny_Slice (gE (E pins s1 σ H1 _ N z) λm s2 ⟨l,H2,M,pl,y⟩=>gE (D pins s2 σ H2 _ M y) λj s3 ⟨u,g,L,pu,w⟩=>gE (F pins s3 σ g _ L w) λn s4 ⟨k,c,J,A,t⟩=>?_);obtain⟨a,xs,rfl,C,d,q⟩:=t;cases o;have f:Inv X pins σ c {s4 with heap:=s4.heap.push {cls:=.type "slice",data:=.fields #[m,j,n]}}:=J.kept λb B q=>ka _ q;obtain⟨its,r,i,hz⟩:=f.list C;have hlen:=r.length;refine tail_any i.isList.typeIs slot_list_getitem.lookup ?_ (rfl);refine wpAny_getItem_list_slice i.isList (Heap.IsSliceOf.new ..) pl pu A d ?_ W8;rw[NS];have G:=afZ (λ_=>Value.none) xs l u k;refine⟨.ref _,_,f.laid (λb B q=>ka _ q) (hW _) ?_,rfl,q _ (f.gD.fresh (hW _))⟩;exact⟨kq G hz,_,0,r.lA l u k,lG _ rfl⟩
end L2
namespace L3
open PySem PySem.Spec PyProof.Rows L2
theorem af0{α β:Type}{f:α->β}{l:Q1}{lo hi st:CU}:lA Qdu lo hi st=(lA l lo hi st).map f:=by
 unfold lA;rw[List.map_filterMap];simp_all
variable{X:Cx}{CL:BC}{b:Bx}{δ δ1 δ2 δ3 δ4:BB}{e st:Expr}{lo hi:Qd5}{l u k:CU}{ds:BA}{pos p2:Pos}{K:Frag}{Z:Hp}
theorem au.lA{us:BY}(r:QeL)(lo hi st:CU):au K CL Z (lA ds lo hi st) (lA us lo hi st):=by
 unfold L2.lA;rw[r.length];generalize sliceRange _ _ _=l
 induction l with
 | nil=>exact .nil
 | cons i l b=>
  rw[mB,mB];cases e:ds[i]? with
  | none=>
   have e2:us[i]? = none:=tj (by
    have:=r.length;simp_all)
   simp_all
  | some x=>
   obtain⟨u,e2,a⟩:=r.get e;rw[e2];exact .cons a b
def NT(h1:Qb5)(g:QbZ)(h2:wq X CL b lo δ1 l δ2)(B:wq X CL b hi δ2 u δ3)(A:wq X CL b (some st) δ3 k δ4)(z:k≠some 0) :
  cL X CL b Qk2 δ (.lst ((lA ds l u k).map T.sh)) δ4:=by
 intro H Z σ ts vs Q S kk;obtain⟨t2,f,w2⟩:=h2;obtain⟨t3,d,t⟩:=B;obtain⟨J,a,s⟩:=A;refine cK (acY dD f d a) (h1 H Z σ ts vs _ S λv H1 Z1 q k1 G r=>w2 H1 Z1 σ ts vs _ G λH2 Z2 o k2 F=>t H2 Z2 σ ts vs _ F λI Z3 n i E=>s I Z3 σ ts vs _ E λL K m h j=>?_);have r:=r.mono (k2.trans (i.trans h));cases r with
 | lst x w=>
  refine⟨_,_,rfl,x,z,λp y=>?_⟩;have rc:=(au.u9 j.tp g w).lA l u k;obtain⟨c,C⟩:=(bC.pX rc j).kX (g0:=[]) (by simp[rc.length]) y;exact kk _ _ _ (q.trans (o.trans (n.trans m))) (k1.trans (k2.trans (i.trans (h.trans c)))) C
section
variable{p q:Bool}{D:gU}{gS a c:Cs}
def Hc(X:Cx)(CL:BC)(b:Bx)(e:Expr)(δ:BB)(p:Bool)(δ':BB):Prop:=
 ∀(H Z:Hp) (σ:L2.St) (ts:Bn) (vs:BY) (Q:Db),bC X.K CL b H Z δ σ ts vs->(∀H' Z',aB Z Z'->bC X.K CL b H' Z' δ' σ ts vs->Q p H')->FC X e σ H Q
def LI(X:Cx)(CL:BC)(b:Bx)(e:Expr)(δ:BB)(p:Bool)(δ':BB):Prop:=
 ∀(H Z:Hp) (σ:L2.St) (ts:Bn) (vs:BY) (Q:Db),bC X.K CL b H Z δ σ ts vs->(∀H' Z',aB Z Z'->bC X.K CL b H' Z' δ' σ ts vs->Q p H')->IP X e σ H Q
noncomputable def UA(h:Qca)(a:p=q):yW X CL b e δ q δ1:=a▸h
noncomputable def auL(h:LI X CL b e δ p δ1):Hc X CL b e δ p δ1:=λH Z σ ts vs Q S k pins s I=>h H Z σ ts vs Q S k _ pins s I
theorem ap4(h:Qkh)(h1:p=true->dh X CL b a δ1 D)(h2:p=false->dh X CL b c δ1 D):WL X CL b (.If e a c pos) δ D:=λH Z σ ts vs E S M=>
 qP (TM oy n4 n4) (h H Z σ ts vs _ S λH1 Z1 d f=>by
  cases p with
  | true=>exact O1 (h1 rfl H1 Z1 σ ts vs E f (M.mono d))
  | false=>exact T3 (h2 rfl H1 Z1 σ ts vs E f (M.mono d)))
def auM(h:Qkh)(h1:p=true->dh X CL b a δ1 {D with nx:=λδ2=>dh X CL b gS δ2 D})(h2:p=false->dh X CL b c δ1 {D with nx:=λδ2=>dh X CL b gS δ2 D}):dh X CL b (.If e a c pos::gS) δ D:=cE (ap4 h h1 h2)
end
def M1{α:Type}:Nat->(List α->Prop)->Prop
 | 0,P=>P []
 | n+1,P=>∀a,M1 n λr=>P (a::r)
variable{n:Nat}
def iF{α:Type}{P:List α->Prop}(h:M1 n P):∀us:List α,us.length=n->P us:=by
 intro us b
 induction us generalizing n P with
 | nil=>subst b;exact h
 | cons a r c=>subst b;exact c (h a) rfl
abbrev j7(K:Frag)(x:Str)(f:Addr):Prop:=nsIn K mainGlobals x=some Qe0
structure FG(N P G:At)(sc:Scope):Prop extends dz N P sc where
 lc:Qk8=true
 gb:QkK=true
def fG{N P G:At}{sc:Scope}(h:dz N P sc:=by exact jt)(lc:Qk8=true:=by decide +kernel)(gb:QkK=true:=by decide +kernel):FG N P G sc:=⟨h,lc,gb⟩
variable{i:Nat}{x:Str}{N P G:At}
def gL(c:FG N P G X.env.scope)(j:Nat)(a:N[j]? = some x:=by rfl)(hi:X.N[i]? = some x:=by rfl)(hf:X.fn x=true:=by rfl)(hd:AD x:=by decide)(b:AE x:=by decide):Ln X i x:=Pm hi (eq_of_beq (ro.1 c.lc _ (l7 a))) hf hd b
def gG(c:FG N P G X.env.scope)(j:Nat)(a:G[j]? = some x:=by rfl):Gl X x:=eq_of_beq (ro.1 c.gb _ (l7 a))
def ap6(P:QaE)(w:World)(mg:Bz)(base:Heap){K:Frag}{h:Heap}(CL:BC)(l:K.In h)(G:h.Ns mainGlobals mg){x qual:Str}{st:Stmt}{f:Addr}{fd:Qa0}{N ps:At}(k:Nat){A:Type}(arg:QaA)(Pre:Qab)(res:Qaj)(F:Qc3)(S:QdR)(m:j7 K x f)
  (j:∀{iR:Value} {i:QaF} {outer:EM} {s:Qr} {H:Hp} {E:XK} {b:Bx} {a:A},fO k (i.deeper QdC)->bL (BR mX P w K mg base N qual Qcj f iR i outer s H E).nc->Pre a →
   dh (BR mX P w K mg base N qual Qcj f iR i outer s H E).nc CL b Qcp QhP {nx:=λ_=>res a=.sh .non,rt:=λt _=>t=res a})
  (q:∀(kV doc pm:Value) (an:Dx) (iR ct:Value),M1 ps.length λus=>bindArgs (W.fnOf x qual (B3 st) Qcp Qcj Value.none kV doc pm an iR ct) {pos:=us}=pure Qe6:=by(repeat intro _);rfl) :
  ∃f fd g,d7 P w K mg base mX QaZ f fd g QiV/\mg x=some Qad/\keepIn K Qad=true/\Binds K fd g []:=⟨f,fd,ps,vf F S λ_ _ _ _ _ _ _ _ r p=>j r ⟨⟨S.nd,rfl,.never⟩,r.units⟩ p,lj l G m,F.kp,F.binds λa b c d e f=>iF (q a b c d e f)⟩
variable{e1 e2:Expr}{es:Cf}{t:T}{d d1 d2:L3.D}{tl:Bn}{pp:Pos}
def zi(X:Cx)(CL:BC)(b:Bx)(es:Cf)(δ:BB)(tl:Bn)(δ':BB):Prop:=
 ∀(H Z:Hp) (σ:L2.St) (ts:Bn) (vs:BY) (Q:EO),bC X.K CL b H Z δ σ ts vs →
  (∀us H' Z',us.length=tl.length->aB Z Z'->bC X.K CL b H' Z' δ' σ (tl.reverse++ts) QdL->Q us H')->WG X es σ H Q
theorem Nv.m(h:QjT):zi X CL b es δ tl δ1:=λH Z σ ts vs Q S k=>h H Z σ ts vs Q S λv H' Z' l z _ a=>k v H' Z' l z a
def vz:zi X CL b [] δ [] δ:=bD.m
theorem fL(h1:QbJ)(h2:zi X CL b es δ1 tl δ2)(hs:Qah:=by exact aS rfl):zi X CL b Qae δ (t::tl) δ2:=λH Z σ ts vs Q S k=>
 LJ (bE dD LC hs) (h1 H Z σ ts vs _ S λv H1 Z1 c f=>h2 H1 Z1 σ _ _ _ f λus H2 Z2 d a g=>k _ H2 Z2 (by simp[d]) Qcg W7)
def PF{op:Operator}{r:R2}{c w2 w:V}(j:Qke)(h1:ng X CL b e1 δ (.sh d1) δ1)(h2:ng X CL b e2 δ1 (.sh d2) δ2)(s1:pz d1=some c)(s2:pz d2=some w2)(s3:pz d=some w)
  (i:∀(H:Hp) (Q:VK),Q w H->r c w2 H Q):ng X CL b (.BinOp e1 op e2 pos) δ (.sh d) δ2:=λH Z σ ts vs Q S k=>by
 refine cK (TL j dD dD) (h1 H Z σ ts vs _ S λv1 H1 Z1 f l=>h2 H1 Z1 σ _ _ _ l λv2 H2 Z2 e a=>?_);have g:=a.view;have h:=a.pop.view;rw[h.sc s1,g.sc s2];exact i H2 Q (k w H2 Z2 (f.trans e) (a.pop.pop.push (aag s3)))
noncomputable def GK{i j:Int}(h1:QiX)(h2:ng X CL b e2 δ1 Qc1 δ2):ng X CL b Qez δ (.sh (.int (i+j))) δ2:=PF aeA h1 h2 rfl rfl rfl λ_ _ q=>⟨i,j,rfl,rfl,q⟩
noncomputable def GL{i j:Int}(h1:QiX)(h2:ng X CL b e2 δ1 Qc1 δ2):ng X CL b (.BinOp e1 .Sub e2 pos) δ (.sh (.int (i-j))) δ2:=PF aeB h1 h2 rfl rfl rfl λ_ _ q=>⟨i,j,rfl,rfl,q⟩
noncomputable def af1{y:Str}(h1:ng X CL b e1 δ (.sh Qbm) δ1)(h2:ng X CL b e2 δ1 (.sh (.str y)) δ2)(c:x.length+y.length<=sizeLine):ng X CL b Qez δ (.sh (.str (x++y))) δ2:=PF Hw h1 h2 rfl rfl rfl λ_ _ q=>⟨x,y,rfl,rfl,c,q⟩
def aaA(h:QbJ):ng X CL b e δ (.sh t.gW) δ1:=λH Z σ ts vs Q S k=>h H Z σ ts vs Q S λv H1 Z1 c f=>by
 obtain⟨Z2,a,d⟩:=f.O4;exact k v H1 Z2 Qcg d
def akt{j:Nat}(h:zi X CL b es δ tl δ1)(g:tl.length<=sizeLine):ng X CL b QhO δ (.tup tl) δ1:=λH Z σ ts vs Q S k=>
 cK (aeH LC) (h H Z σ ts vs _ S λus H1 Z1 d e l=>⟨ d▸g,λp f=>by
  obtain⟨a,c,i⟩:=l.O6 d f;exact k _ _ _ (e.trans a) i⟩)
theorem qU{j:Nat}(h:zi X CL b es δ (ds.map T.sh) δ1)(a:QbK):ng X CL b QhO δ (.sh QcJ) δ1:=by
 have:=aaA (akt (pos:=pos) (j:=j) h W7)
 rwa [T.gW,kC]at this
noncomputable def af2(h:QbJ)(q:t.gW=d):ng X CL b e δ (.sh d) δ1:=q▸aaA h
def zg{k:Int}(h1:ng X CL b e1 δ (.sh QcK) δ1)(h2:ng X CL b e2 δ1 QeN δ2)(j:QeY)(hs:u5 e2:=by exactλ_ _=>rfl):ng X CL b Qfx δ (.sh d) δ2:=λH Z σ ts vs Q S kk=>
 cK (Hz GB dD dD hs) (h1 H Z σ ts vs _ S λv1 H1 Z1 e l=>h2 H1 Z1 σ _ _ _ l λv2 H2 Z2 c a=>by
  have h:=a.view;obtain⟨fp,gp,_,r,_,_⟩:=a.pop.rep;cases r with
  | cons r _=>
   cases r with
   | sh r=>
    cases r with
    | lst i g=>
     obtain⟨v,hv,f⟩:=B4 g j;exact⟨_,_,k,v,rfl,h.sc rfl,a.zh.seq i,hv,kk v H2 Z2 Qe7 (a.pop.pop.push f)⟩)
def af3{i:Int}(hm:X.mg "str" = none)(d:Gl X "str")(h:ng X CL b e δ (.sh QaQ) δ1)(hi:i.natAbs.log2<1920)(hs:Qaa:=by exact aS rfl) :
  ng X CL b QlI δ (.sh Qj5) δ1:=λH Z σ ts vs Q S k=>
 cK (jQ BQ d hm boot_str Qau (he:=hs)) (h H Z σ ts vs _ S λv H1 Z1 c a=>by
  have r:=a.view;rw[r.sc rfl];exact⟨i,rfl,hi,k _ H1 Z1 c (a.pop.push (.str _))⟩)
variable{y:Addr}
def AU{A:Type}{k:Nat}{al:BS->Bn}{arg:QaG}{Pre:Qab}{res:Qaj}{out:QaG}(a:A)(c:T)(F:Qjb)(g:Qam)(h:pd X CL b Qae δ [i] (λys=>ys.headD 0=y/\True) al δ1)(f:Pre a)(m:res a=t)(l:z9 (out a) [y] [c])
  (j:arg a=al [y]:=by rfl) (hlen:Qb0:=by rfl) (o:Qb1:=by exact h7 rfl)
  (d:AD x:=by decide) (he:Qah:=by exact aS rfl) (hpl:Qaw:=by rfl) :
  ng X CL b Qby δ t (δ1.set i (some c)):=
 cM1 _ c F g h (λ_ _=>f) (λ_ _=>m) (λz hz=>(show z=y from hz.1)▸l) (λz hz=>(show z=y from hz.1)▸j) (λ_=>hlen) o d he hpl
def Cd(δ:BB)(ix:Cc)(i:Nat)(t:T):BB:=ix.map λk=>if k=i then some t else uk δ[k]?
variable{H H' Z':Hp}{σ:L2.St}{ts:Bn}{vs:BY}{v:V}{fp:BS}{d:D}
def af4{ix:Cc}(h:i∉ix):Cd δ ix i t=HM δ ix:=oo λk a=>cq λ(e:k=i)=>h (e▸a)
theorem aku{o:Option QcP}{w:QdV}{r:BB}{σ':L2.St}(S:Qan)(zz:Qbt)(k:Nat)(a:f6 K CL H' Z' r σ' fp):f6 K CL H' Z' (uk δ[k]?::r) ((σ[k]?).getD none::σ') fp:=by
 cases e:δ[k]? with
 | none=>exact .skip a
 | some o=>
  cases o with
  | none=>exact .skip a
  | some t=>
   cases t with
   | sh d=>
    obtain⟨v,hv,c⟩:=S.JE e;rw[hv];exact f6.cons (fp:=[]) (.sh (c.mono zz)) a
   | _=>exact .skip a
theorem UB(S:Qan)(zz:Qbt)(hv:σ[i]? = some Qax)(rt:b9 K CL H' Z' t v fp):∀{ix:Cc},i∈ix->ix.Nodup->f6 K CL H' Z' (Cd δ ix i t) (ix.map λk=>(σ[k]?).getD none) fp
 | [],h,_=>absurd h ke
 | k::r,h,nd=>by
  have nd:=ma.1 nd;show f6 K CL H' Z' ((if k=i then some t else uk δ[k]?)::Cd δ r i t) (((σ[k]?).getD none)::r.map λk=>(σ[k]?).getD none) fp;by_cases e:k=i
  .subst e;rw[hO rfl,hv,af4 nd.1];have q:f6 K CL H' Z' (HM δ r) (r.map λk=>(σ[k]?).getD none) []:=(HN S r H').mono zz λa c=>absurd c ke;have:=f6.cons (δ:=HM δ r) rt q
   rwa [iz]at this
  .rw[cq e];exact aku (o:=none) (w:=none) S zz k (UB S zz hv rt ((hR.1 h).resolve_left λz=>e z.symm) nd.2)
theorem Im(hv:σ[i]? = some Qax):∀{ix:Cc} {fp:BS},i∈ix->f6 K CL H Z (Cd δ ix i t) (ix.map λk=>(σ[k]?).getD none) fp->∃a,b9 K CL H Z t v a/\a.Sublist fp
 | [],_,h,_=>absurd h ke
 | k::r,fp,h,q=>by
  have q:f6 K CL H Z ((if k=i then some t else uk δ[k]?)::Cd δ r i t) (((σ[k]?).getD none)::r.map λk=>(σ[k]?).getD none) fp:=q;by_cases e:k=i
  .subst e;rw[hO rfl,hv]at q;cases q with
   | cons rt _=>exact⟨_,rt,OF _ _⟩
  .rw[cq e]at q;have hm:=(hR.1 h).resolve_left λz=>e z.symm;generalize uk δ[k]? = o at q;generalize (σ[k]?).getD none=w at q;cases q with
   | skip q=>exact Im hv hm q
   | cons _ b=>
    obtain⟨a,h1,h2⟩:=Im hv hm b;exact⟨a,h1,h2.trans (wd _ _)⟩
theorem bC.ap7{D:Addr}(S:bC K CL b H Z δ σ (.sh d::.lst tl::ts) (v::.ref D::vs)):∃us,H D=some QbR/\us.length=tl.length/\bC K CL b (upd H D (.lst (us++[v]))) Z δ σ (.lst (tl++[.sh d])::ts) Qdl:=by
 obtain⟨fp,gp,e,r,nd,k⟩:=S.rep;cases r with
 | cons l h=>
  cases l with
  | sh rd=>
   cases h with
   | cons h j=>
    cases h with
    | @lst a us _ g m rs=>
     rename_i i;rw[ri]at nd k;have pm:(fp++((D::g)++i)).Perm (D::(fp++(g++i))):=by
      rw[mi];exact List.perm_middle
     have ne:∀c∈fp++(g++i),c≠D:=λc f z=>by
      subst z;exact(ma.1 (pm.nodup_iff.1 nd)).1 f
     refine⟨us,m,rs.length.symm,S.Ph rfl k Wp (e.mono Qb λc f=>aq (ne c (by simp[f]))) (.cons (.lst aR (aW.app (rs.mono Qb λc f=>aq (ne c (by simp[f]))) (.cons (.sh rd) .nil))) (j.mono Qb λc f=>aq (ne c (by simp[f])))) ?_ λc f=>?_⟩
     .simpa using nd
     .simpa using f
variable{scope:Scope}{Nc:At}{ix:Cc}{elt:Expr}{px pr pc:Pos}
theorem af5(t:Nat->T)(d:Nat->L3.D)(sc:QeF)(a:QaC)(hm:QdP)(hg:QdZ)(h:QiT)(hn:n<=1000)(hi:δ1[i]? = some QjV)(Wf:i∈ix)(Pa:ix.Nodup)
  (inner:∀C s0 H0 f0 b' (j:Nat),j<n->ng QgZ CL b' elt QiF (.sh (d j)) Qiy)
  (pV:QiL) (LK:Qaa)
  {RR:QiG} {pins:BM} {s:Qr} (S:Qjn) (I:Qbi)
  (fin:∀D C s' H' Z',(∃m,s'.heap.Ns C m)->(∃o,s'.heap.get? C=some o/\∀v,o.data ≠ .cell v)->H' C=none->(C≠X.env.locals/\C∉X.fs/\X.h9.heap.objs.size<=C/\(∀y c,X.env.cells.lookup y=some c->c≠C)/\∀q∈X.pn++pins,q.1≠C)->(∀h',Heap.SameBut C s'.heap h'->L2.Inv X pins σ H' {s' with heap:=h'})->aB Z Z'->bC X.K CL b H' Z' (δ1.set i Qhk) σ (.lst ((List.range n).map λj=>T.sh (d j))::ts) Qdl->RR Qeg C (.ok .next) s') :
  wpAny QA X.A (eval Qhe X.env) (λv p=>wpAny QA X.A (pyIter v) (λit l=>wpAny QA X.A Qf7 (λacc k=>wpAny QA X.A Qio (λUd g=>
   codeAny QA X.A (.compStart Qej 0 it acc {Ud with scope:=relabel scope X.env}) (RR acc Ud.locals) g) X.xe k) X.xe l) X.xe p) X.xe s:=by
 refine gE ((Ni (tg:=.Name x px) hg hm (bE dD cV LK) pV) pins s σ H (λJ H1=>J=Hk 0 n/\∃Z1,aB Z Z1/\bC X.K CL b H1 Z1 δ1 σ ts vs) I (h H Z σ ts vs _ S λv H1 Z1 N M=>?_)) λv s1 h1=>gE h1 λag s2 zz=>?_
 .have r:=M.view;rw[T.gW]at r;exact⟨n,by rw[r.sc rfl],We,We,by rw[jj],Z1,N,M.pop⟩
 obtain⟨it,fp,tn,J,H1,e0,I1,Tn,st,hf,rfl,Z1,N,M⟩:=zz;subst e0;have Pw:i<δ1.length:=by
  obtain h|h:=Nat.lt_or_ge i δ1.length
  .exact h
  .rw[tj h]at hi;cases hi
 refine AI (xs:=[x]) (G:=λD H'=>∃Z',aB Z1 Z'/\bC X.K CL b H' Z' (δ1.set i Qhk) σ (.lst ((List.range n).map λj=>T.sh (d j))::ts) Qdl) (RR:=RR) (Fu sc) a I1 Tn st hf (λD hD=>?_) λD C' s' H' m io nC ch ci ⟨Z',L,S'⟩=>?_
 .refine⟨λj m H2=>m=n-j/\j<=n/\∃Z2,aB Z1 Z2/\bC X.K CL b H2 Z2 (δ1.set i (some Qg5)) σ (.lst ((List.range j).map λj=>T.sh (d j))::ts) Qdl,⟨n,rfl,i8 _,Z1,.refl _,?_⟩,?_⟩
  .rw[eX hi];exact(bC.kX (tl:=[]) (us:=[]) (g0:=[]) M rfl hD).2
  rintro j m H2 ⟨rfl,hj,Z2,z2,f⟩;by_cases U:j<n
  .refine .inr ⟨U,λH'=>∃Z2,aB Z1 Z2/\bC X.K CL b H' Z2 (δ1.set i (some (.pin y (t QP)))) σ (.lst ((List.range QP).map λj=>T.sh (d j))::ts) Qdl,λH' h=>⟨n-QP,We,rfl,U,h⟩,λxv F yy C s0 H0 f0 os ho=>?_⟩;obtain⟨o,rfl⟩:=List.length_eq_one_iff.1 ho;refine⟨Nh 0,uX sc.nd (by show Nc[0]? = some x;rw[sc.hd];rfl) (.inl (GG sc.own)) (.inr (GG sc.own)),[some xv],rfl,rfl,?_⟩;obtain⟨rfl,rfl⟩:=yy;unfold IM;dsimp only;rw[hO rfl];obtain⟨v0,ev,Sm⟩:=f.move (yB Pw);have V:v0=.ref y:=by
    obtain⟨_,_,_,r,_,_⟩:=Sm.rep;cases r with
    | cons r _=>cases r;rfl
   subst V;rw[List.set_set]at Sm;obtain⟨gp,r,nd,Sc⟩:=bC.cut (tl:=[.pin y (t j)]) (us:=[.ref y]) Sm rfl;have ae:∀u:T,Cd (δ1.set i (some Qg5)) ix i u=Cd δ1 ix i u:=λu=>oo λq _=>by
    by_cases e:q=i
    .rw[hO e,hO e]
    .rw[cq e,cq e,yn λz=>e z.symm]
   obtain⟨g1,P,aa⟩:∃g1,b9 X.K CL F Z2 Qg5 Qeh g1/\gp=g1:=by
    cases r with
    | cons P r2=>
     cases r2;exact⟨_,P,by rw[iz]⟩
   subst aa;have zn:∀c∈gp,Z2 c=none:=λc a=>by
    cases q:Z2 c with
    | none=>rfl
    | some o=>exact absurd a (qF (Sc.zh c o q)).1
   have B:=UB (ix:=ix) f Qb ev P Wf Pa;rw[ae]at B;have S0:bC X.K CL ⟨AK F gp,Z2⟩ F Z2 (some (.sh (.int (j:Int)))::Cd δ1 ix i Qg5) (AF σ ix (some (.int (0+(j:Int))))) [] []:=
    ⟨⟨[]++gp,[],.cons (by rw[mv];exact .sh Qbc) B,.nil,by rw[iz];exact nd,λc a=>by
     have a:c∈gp:=by simpa using a
     exact⟨zn c a,vt a⟩⟩,λc o q=>(qF q).2,.refl _,f.zh,λc o q z=>(by have L:Z2 c=none:=z;rw[show Z2 c=some o from q]at L;cases L),f.tp,f.WH⟩
   refine inner C s0 H0 f0 ⟨AK F gp,Z2⟩ j U F Z2 _ [] [] _ S0 λyv H5 Z5 z5 E=>?_;obtain⟨f1,g5,e1,r5,R,ab⟩:=E.rep;cases r5 with
   | cons O rn=>
    cases rn;cases O with
    | sh O=>
     cases e1 with
     | @cons _ _ _ _ f0 f2 rk e2=>
      obtain⟨f3,rp,sb⟩:=Im ev Wf e2;have nf:f2.Nodup:=by
       have:=(ko.1 R).1;exact(ko.1 this).2.1
      have S6:=Sc.Of (H':=H5) (W':=Z5) (tl:=[.pin y (t QP),.sh (d j)]) (us:=[.ref y,yv]) (fp:=f3++([]++[])) E.bh z5 E.zh E.new E.tp (.cons rp (.cons (.sh O) .nil)) (by simpa using nf.sublist sb) (λc a=>by
       have a:c∈f3:=by simpa using a
       exact ab c (ik _ (h5 _ (sb.subset a))))
      have S7:=bC.set (i:=i) S6 (by rw[m4];exact Pw);rw[eX ev,List.set_set]at S7;obtain⟨us,W,Y,S8⟩:=bC.ap7 S7;refine⟨us,W,?_,Z5,z2.trans z5,?_⟩
      .rw[Y,hP,ov];have:=lh;exact l6 (show j<1000 by lia) (by rw[lh];decide)
      .rw[FV,js];exact S8
  .have ej:j=n:=by lia
   subst ej;exact .inl ⟨hW _,Z2,z2,f⟩
 .exact fin D C' s' H' Z' m io nC ch ci (N.trans L) S'
def NW(t:Nat->T)(d:Nat->L3.D)(sc:QeF)(p:QaC)(hm:QdP)(o:QdZ)(h:QiT)(l:n<=1000)(hi:δ1[i]? = some QjV)(r:i∈ix)(v:ix.Nodup)
  (inner:∀C s0 B f0 q (j:Nat),j<n->ng (c7 X scope Nc C s0 B f0) CL q elt QiF (.sh (d j)) Qiy)
  (g:QiL:=by rfl) (z:Qaa:=by exact aS rfl)
  (hs:∀x,foldedSetIterable Qhe X.env x=pure x:=by intro _;rfl) :
  ng X CL b Qej δ (.lst ((List.range n).map λj=>T.sh (d j))) (δ1.set i Qhk):=λH Z σ ts vs Q S k pins s I=>by
 rw[eval_ListComp];refine FX (use:=none) rfl hs (HP sc I) sc.kind sc.names ?_;exact af5 (RR:=λacc C=>compPost QA X.A X.xe none Qa5 acc C) t d sc p hm o h l hi r v inner g z S I λD F s' H' Z' ⟨m,c⟩ io E ch ci f u=>⟨m,c,λh' a=>⟨.ref D,H',ci h' a,rfl,k _ H' Z' f u⟩⟩
def aaB{D:gU}{gS:Cs}{d:Nat}{u:Str}{py a:Pos}(t:Nat->T)(l:Nat->L3.D)(g:Gx X)(nm:Ln X d u)(sc:QeF)(hm:QdP)(U:QdZ)(h:QiT)(P:n<=1000)(hi:δ1[i]? = some QjV)(W:i∈ix)(Y:ix.Nodup)
  (inner:∀C s0 H0 f0 b' (j:Nat),j<n->ng QgZ CL b' elt QiF (.sh (l j)) Qiy)
  (kk:dh X CL b gS ((δ1.set i Qhk).set d (some (.lst ((List.range n).map λj=>T.sh (l j))))) D) (R:d<δ1.length)
  (k:swapsWith Qej (some (.Name u py)) a.line X.env=pure true\/swapsWith Qej (some (.Name u py)) a.line X.env=pure false)
  (N:QiL:=by rfl) (LK:Qaa:=by exact aS rfl)
  (hs:∀x,foldedSetIterable Qhe X.env x=pure x:=by intro _;rfl):dh X CL b (.Assign [.Name u py] Qej a::gS) δ D:=by
 obtain k|k:=k
 case inr=>exact iE g nm (NW t l sc g.calm hm U h P hi W Y inner N LK hs) kk (by rw[m4];exact R) k
 refine cE λH Z σ ts vs E S M pins s I=>?_;rw[exec_Assign_Name_used _ _ _ _ k];refine hY (FR (hY ?_));show wpAny _ X.A (do let _ ← comprehension Qej scope X.env _ Qf7 false (eval Qhe X.env) (some Qjl)) _ _ s;refine hY (m3 (FX (use:=some Qjl) (Q:=λ_ s'=>SP X pins E .next s') rfl hs (HP sc I) sc.kind sc.names ?_) (λ_ s' f=>kn (kn f)) λ_ _ e=>e);refine af5 (RR:=λacc C=>compPost QA X.A X.xe (some Qjl) QlD acc C) t l sc g.calm hm U h P hi W Y inner N LK S I λD' p s' H' Z' m io nC ch ci z' S'=>?_;obtain⟨m,B⟩:=m;obtain⟨o,O,wX⟩:=io;have I':L2.Inv X pins σ H' s':=ci s'.heap (.refl ..);have I2:L2.Inv X (pins++[(p,o)]) σ H' s':=I'.yS λq f=>by
  obtain z|z:=hV.1 f
  .exact I'.pin q (h5 _ z)
  .have e:q=(p,o):=by simpa using z
   subst e;exact⟨O,nC,ch.1,ch.2.1,wX⟩
 show wpAny _ X.A (assign (.Name u py) X.env QdX) _ _ s';refine gE ((uX g.nd nm.hi nm.loc nm.hf) _ s' σ H' QdX QdX (λc H8=>c=σ.set d Qih/\H8=H') I2 rfl ⟨rfl,rfl⟩) λ_ L zz=>?_;obtain⟨c,H8,J,e8,G⟩:=zz;subst e8;subst G;obtain⟨F,r,_⟩:=J.pin (p,o) (h5 _ (h5 _ Wp));refine⟨m,B.at' λo' V=>by rw[O]at V;cases V;exact F,λh' v=>?_⟩;have I9:L2.Inv X pins (σ.set d Qih) _ L:=J.yS λq f=>J.pin q (h5 _ (ik _ f));have K:=I9.turned (it:=p) (h':=h') (t':=L.toks) (λb o hb e=>(v.2 b hb).trans e) r ch.1.symm.symm (.inr ch.2.2.1) ch.2.2.2.1 ch.2.2.2.2;exact⟨_,_,K,M.nx _ _ _ Z' z' (S'.set (by rw[m4];exact R)) kk⟩
noncomputable def Io{C:Addr}{s:Qr}{k:Nat}{A:Type}{arg out:QaG}{Pre:Qab}{res:Qaj}(F:Qjb):W6 Qbg CL x k n arg Pre res out:=⟨F.ex,F.room⟩
noncomputable def sW{t2:T}(h:QbJ)(q:t=t2):ng X CL b e δ t2 δ1:=q▸h
def af6(hm:X.mg "tuple" = none)(h:ng X CL b e δ (.lst Qa7) δ1)(hi:QbZ)(p:Gl X "tuple")(hs:Qaa:=by exact aS rfl):ng X CL b Qlz δ (.sh QcJ) δ1:=λH Z σ ts vs Q S k=>
 cK (jQ z7 p hm xH Qau (he:=hs)) (h H Z σ ts vs _ S λv H1 Z1 m i=>by
  have r:=i.view;rw[T.gW,kC]at r;have g:=i.pop;cases r with
  | lst n d=>
   refine⟨_,_,rfl,.inl ⟨n,λl o=>?_⟩⟩;obtain⟨a,c,q⟩:=(bC.pX (au.u9 g.tp hi d) g).O6 (by simp[d.length]) o;obtain⟨Z3,j,f⟩:=q.O4;rw[T.gW,kC]at f;exact k _ _ Z3 (m.trans (a.trans j)) f)
theorem acZ{h:Int}(h1:QgF)(a:QbZ)(q:ng X CL b e2 δ1 (.sh (.int h)) δ2):ng X CL b (.Subscript e (.Slice none (some e2) none p2) pos) δ (.lst ((cutD ds none (some h)).map T.sh)) δ2:=λH Z σ ts vs Q S k=>by
 refine cK (TR Z9 dD Z6 (Z7 dD)) (h1 H Z σ ts vs _ S λv H1 Z1 j k1 t=>q H1 Z1 σ _ _ _ t λv2 H2 Z2 i f=>?_);have m:=f.view;refine⟨h,m.sc rfl,?_⟩;have r:=f.pop.view;have g:=f.pop.pop;cases r with
 | lst n l=>
  refine⟨_,_,rfl,n,λp o=>?_⟩;have rc:=au.u9 g.tp (jr λd hd=>jG a d (aan hd)) (l.cut none (some h));obtain⟨c,s⟩:=(bC.pX rc g).kX (g0:=[]) (by simp[rc.length]) o;exact k _ _ _ (j.trans i) s
def Conv(Z Z':Hp):Prop:=∀c o,Z c=some o->Z' c=some o\/(∃gs a,o=.dT gs/\Z' c=some (.gW a Qef))\/∃gs a,o=.gW a Qef/\Z' c=some Qef
variable{a:Addr}
theorem Conv.keep{o:HO}(e:Conv Z Z')(h:Z a=some o)(h1:∀gs,o ≠ .dT gs)(h2:∀gs b,o ≠ .gW b Qef):Z' a=some o:=by
 obtain q|⟨gs,b,q,_⟩|⟨gs,b,q,_⟩:=e a o h
 .exact q
 .exact absurd q (h1 gs)
 .exact absurd q (h2 gs b)
def T.PJ:List Il->T->Option T
 | [],t=>some t
 | s::p,t=>(t.core.Tg s).bind (T.PJ p)
def T.Xh:List Il->T->T->T
 | [],u,_=>u
 | s::p,u,t=>match t.core.Tg s with
  | some k=>t.PC (t.core.Xe s (T.Xh p u k))
  | none=>t
variable{u t0:T}{p:QcU}
theorem b9.raw(zh:aB Z H):∀(p:QcU) {t u:T} {v:V} {fp:BS},b9 K CL H Z t v fp->T.PJ p t=some u->∃w f2,Lr H v p w/\b9 K CL H Z u w f2/\∀{b:T},b9 K CL H Z b w f2->b9 K CL H Z (T.Xh p b t) v fp
 | [],t,u,v,fp,h,e=>by
  cases e;exact⟨v,fp,rfl,h,λr=>r⟩
 | s::p,t,u,v,fp,h,e=>by
  obtain⟨h1,h2⟩:=h.Xf;rw[T.PJ]at e;cases a:t.core.Tg s with
  | none=>rw[a]at e;cases e
  | some k=>
   rw[a]at e;obtain⟨c,a1,a2,a3,n,m,l,j⟩:=h1.Tg zh a;obtain⟨w,f2,g,f,d⟩:=b9.raw zh p l e;refine⟨w,f2,⟨c,n,g⟩,f,λ{b} i=>?_⟩;rw[T.Xh,a,m];exact h2 (j QcB (d i))
theorem bC.loose(S:Qan)(hi:δ[i]? = some QbC)(f:QjW):bC K CL b H Z (δ.set i (some (T.Xh p u t0))) σ ts vs:=by
 obtain⟨fp,gp,e,r,nd,k⟩:=S.rep;obtain⟨v1,e1,e2,g,hv,c,rt,put,_⟩:=e.get hi;obtain⟨w,f2,at',d,put2⟩:=rt.raw S.zh p f;have a:=put Qb QcB (put2 (by cases d with|pin r=>exact r));rw[eX hv]at a;subst c;exact⟨⟨_,gp,a,r,nd,k⟩,S.bh,S.zz,S.zh,S.new,S.tp,S.tab⟩
theorem bC.ayL(S:Qan)(hi:δ[i]? = some Qas)(a:t.isRef=true):∃y,bC K CL b H Z (δ.set i QfK) σ ts vs:=by
 obtain⟨fp,gp,e,r,nd,k⟩:=S.rep;obtain⟨v1,e1,e2,f,hv,d,rt,put,_⟩:=e.get hi;have:∃y,v1=.ref y:=by
  cases rt with
  | sh r=>cases a
  | tup r _=>cases a
  | pin r=>cases a
  | E8 r _ _=>cases a
  | lst r q=>exact⟨_,rfl⟩
  | ins r q=>exact⟨_,rfl⟩
  | um r q=>exact⟨_,rfl⟩
  | dct r q=>exact⟨_,rfl⟩
 obtain⟨y,rfl⟩:=this;have c:=put Qb QcB (b9.pin rt);rw[eX hv]at c;subst d;exact⟨y,⟨_,gp,c,r,nd,k⟩,S.bh,S.zz,S.zh,S.new,S.tp,S.tab⟩
section
variable{o:Expr}{d:L3.D}{D:gU}{m:Nat}{gS:Cs}
def PL(h:δ[i]? = some Qas)(k:∀y,dh X CL b gS (δ.set i QfK) D)(a:t.isRef=true:=by rfl):dh X CL b gS δ D:=λH Z σ ts vs E S M=>by
 obtain⟨y,c⟩:=S.ayL h a;exact k y H Z σ ts vs E c M
theorem af7(n:QaK)(h:δ[i]? = some QfK):cL X CL b Qal δ (.pin y t) (δ.set i (some (.sh (.val Qeh)))):=λH Z σ ts vs Q S k=>by
 have f:i<δ.length:=by
  obtain z|z:=Nat.lt_or_ge i _
  .exact z
  simp_all
 obtain⟨v,e,c⟩:=S.move h;have hv:v=.ref y:=by
  obtain⟨_,_,_,r,_,_⟩:=c.rep;cases r with
  | cons r _=>cases r;rfl
 subst hv;have a:=(c.push (d:=.val Qeh) (.val _)).set (i:=i) W7;rw[eX e,List.set_set]at a;exact cK Qcu ⟨_,e,k _ H Z Qb Qb a⟩
theorem ac0(n:Vn X m x)(hm:δ[m]? = some (some (.sh (.val Qeh))))(hi:δ[i]? = some QbC)(f:QjW)(hd:u.gW=d):dI X CL b Qal δ d δ:=λH Z σ ts vs Q S k=>by
 obtain⟨v,hv,r⟩:=S.look hm;cases r;obtain⟨fp,gp,e,h,nd,kk⟩:=S.rep;obtain⟨v1,e1,e2,j,c,g,rt,put,_⟩:=e.get hi;obtain⟨w,f2,at',a,_⟩:=rt.raw S.zh p f;cases a with
 | pin a=>
  subst hd;exact cK Qcu ⟨_,hv,k _ H Z Qb Qb S (a.gW S.zh λ_ _=>rfl)⟩
noncomputable def af8(p:QcU)(h:QaH)(hi:δ1[i]? = some QbC)(c:QjW):cL X CL b e δ t (δ1.set i (some (T.Xh p u t0))):=λH Z σ ts vs Q S k=>h H Z σ ts vs Q S λv H1 Z1 a k1 d=>k v H1 Z1 a k1 (d.loose hi c)
noncomputable def auO(h:QaH)(q:δ1=δ2):cL X CL b e δ t δ2:=q▸h
end
end L3
namespace L2
open PySem PySem.Spec PyProof.Rows
variable{X:Cx}
theorem ac1(n:QaC):om X (.type "set") (λxs H Q=>∃(p:Addr) (ns:AT),xs=[.ref p]/\oj X.K H p Qbz/\ns.length<=1000/\∀l,H l=none->Q Qee (upd H l (.ext (L3.Fn X.prog X.w l (firstMet Qc0 ns.length).length)))):=by
 intro pins s σ H xs us Q I r h;obtain⟨p,ns,rfl,j,x,q⟩:=h;obtain⟨u,rfl,g⟩:=vals1 r;cases g;obtain⟨its,c,pl,hz⟩:=I.list j;have d:its.length=ns.length:=by rw[← c.length,hP]
 refine call_set_list (ns:=ns) (I.ok.hd n) pl.isList (by simpa using L3.Uy c) (by rw[List.size_toArray,d];unfold scanBound;lia) λh' tk f m=>?_;have v:∀b o,s.heap.get? b=some o->h'.get? b=some o:=λb o e=>m b o (ij e) e;have a:L3.Fn X.prog X.w s.heap.objs.size (firstMet Qc0 ns.length).length h':=by
  have e1:its.toArray.size=ns.length:=by rw[nt,d]
  rw[e1]at f;exact⟨_,f⟩
 refine⟨.ref s.heap.objs.size,_,I.laid (t':=tk) (o:=.ext (L3.Fn X.prog X.w s.heap.objs.size (firstMet Qc0 ns.length).length)) v (hW _) ⟨a,?_,?_⟩,rfl,q _ QfC⟩
 .obtain⟨_,o,_,_,_,e,_⟩:=a;exact⟨o,e⟩
 .rintro h1 h2 ⟨S,o,es,ep,t,e,rest⟩ k;exact⟨S,o,es,ep,t,k o e,rest⟩
theorem aaC(f:Qd9):∀k,(firstMet f k).length<=k
 | 0=>hW _
 | k+1=>by
  rw[firstMet_succ];have:=aaC f k;unfold step_dedup;split
  .lia
  .rw[j2];show _+1<=_;lia
end L2
namespace L3
open PySem PySem.Spec PyProof.Rows L2
variable{X:Cx}{CL:BC}{b:Bx}{δ δ1:BB}{e:Expr}{pos p2 pp pr:Pos}
theorem Xi{ns:AT}(g:Gx X)(hm:Qid)(d:X.mg "set" = none)(h:dI X CL b e δ (.lst (ns.map D.int)) δ1)(x:ns.length<=1000)(A:Gl X "len")(f:Gl X "set")(hs:Qaa:=by exact aS rfl) :
  cL X CL b (.Call (.Name "len" pp) [.Call (.Name "set" p2) [e] [] pr] [] pos) δ (.sh (.int (firstMet Qc0 ns.length).length)) δ1:=λH Z σ ts vs Q S k=>
 cK (j6 Uz A hm PySem.boot_len (bE (jQ (ac1 g.calm) f d acW Qau (he:=hs)) cV (aS rfl)) (he:=aS rfl)) (h H Z σ ts vs _ S λv H1 Z1 m k1 j r=>by
  cases r with
  | lst u p=>
  have B:=ur p;have y:=aaC Qc0 ns.length;generalize l:(firstMet Qc0 ns.length).length=N at y ⊢;refine⟨_,ns,rfl,by rw[← B];exact u,x,λr s=>?_⟩;rw[l];refine⟨r,N,rfl,aR,We,?_⟩;have same:aB H1 (upd H1 r (.ext (Fn X.prog X.w r N))):=aB.upd s;obtain⟨Z',n,C⟩:=j.back (t:=.sh (.int N)) (v:=.int N) (fp:=[]) (W:=Z1) (W':=Z1) same Qb Qb (j.zh.trans same) (λa o q z=>by rw[q]at z;cases z) (λa o q im=>by
   by_cases c:a=r
   .subst c;rw[aR]at q;cases q;cases im
   .rw[aq c]at q;exact j.tp a o q im) (.sh Qbc) rh (λa c=>by cases c) Q4
  rw[l]at k;exact k _ _ _ (m.trans n) (k1.trans same) C)
instance aCl:DecidableEq D:=λa b=>Classical.propDecidable (a=b)
mutual
inductive NV(h:Heap):D->Value->Prop where
 | int (i:Int) (t:Tok):NV h QaQ Qf1
 | str (x:Str) (t:Tok):NV h Qbm (.str x t)
 | tup {a:Addr} {o:Obj} {its:CS} {m:Nat} {ds:BA}:h.get? a=some o->o.cls=.type "tuple"->o.data=.seq its m->r4 h ds its.toList->NV h QcJ Qao
inductive r4(h:Heap):BA->B2->Prop where
 | nil:r4 h [] []
 | cons {d:D} {v:Value} {ds:BA} {vs:B2}:NV h d v->r4 h ds vs->r4 h (d::ds) QaO
end
variable{d:D}
theorem r4.snoc{h:Heap}{ds:BA}{vs:B2}{v:Value}(q:r4 h ds vs)(r:NV h d v):r4 h (ds++[d]) (vs++[v]):=
 r4.rec (motive_1:=λ_ _ _=>True) (motive_2:=λds vs _=>r4 h (ds++[d]) (vs++[v])) Qc2 Qc2 Qg4 (.cons r .nil) (λa _ _ b=>.cons a b) q
variable{K:Frag}{Z:Hp}{vs:BY}{v:V}{ds:BA}
theorem au.snoc(h:QeK)(q:Qdh):au K CL Z (ds++[d]) (vs++[v]):=
 au.ind (P:=λds vs=>au K CL Z (ds++[d]) (vs++[v])) (.cons q .nil) (λa _ i=>.cons a i) h
section
variable{x:Str}
def ak{i:Int}{j:Nat}:dI X CL b Qjy δ (.int i) δ:=ay bB
def bQ{j:Nat}:dI X CL b QjL δ (.str x) δ:=ay f9
def aQ{n:Nat}(h:Nat.ble n 1000=true:=by rfl):n<=sizeLine:=Nz h
variable{α:Type}{l:Q1}{u0 u1 u2 v:α}
def DQ:uW (v::l) 0=some v:=d8 rfl
def LX:uW (u0::v::l) 1=some v:=d8 rfl
def HI:uW (u0::u1::v::l) 2=some v:=d8 rfl
def ayM:uW (u0::u1::u2::v::l) 3=some v:=d8 rfl
section
variable{scope:Scope}{Nc:At}{C:Addr}{s:Qr}{H:Hp}{fp:BS}(i:Nat)
def DR(h1:Nc[i]? = some x:=by rfl)(h2:QgM:=by decide +kernel)(hd:AD x:=by decide)(k9:AE x:=by decide):Vn Qbg i x:=ae9 h1 h2 hd k9
def LY(h1:Nc[i]? = some x:=by rfl)(h2:Qi9:=by decide +kernel)(hd:AD x:=by decide)(k9:AE x:=by decide):Vn Qbg i x:=apl h1 h2 hd k9
def ju(h:δ[i]? = some Qcb:=by rfl)(n:Vn Qbg i x:=by exact DR _):dI Qbg CL b Qal δ d δ:=ay (v_ n h)
def fZ(h:δ[i]? = some Qcb:=by rfl)(n:Vn Qbg i x:=by exact LY _):dI Qbg CL b Qal δ d δ:=ay (v_ n h)
def vA(h2:QiE:=by decide +kernel):Gl Qbg x:=ajL h2
end
def ayN{l:At}{a:Addr}{od:Dx}{its:CS}{n:Nat}{sl:Cn}(h1:X.mg x=some Qao)(h2:QkU)(c:its.size<=sizeLine:=by exact Nz rfl)(b:Vals Qf2 its.toList:=by repeat (first|exact .nil|refine .cons ⟨_,rfl⟩ ?_)):GT X x l:=aus h1 h2 c b
abbrev oz(X:Cx)(CL:BC)(b:Bx)(st:Stmt)(N:At){A:Type}(arg:QaA)(Pre:Qab)(res:Qaj):Prop:=∀ ⦃a:A⦄,Pre a->dh X CL b Qcp QhP {nx:=λ_=>res a=.sh .non,rt:=λc _=>c=res a}
end
abbrev kE(X:Cx)(s:Str):Prop:=X.mg s=none
abbrev zW(X:Cx)(s:Str):Prop:=X.env.kindOf s=some .cell
variable{δ2:BB}{e1 e2:Expr}{es:Cf}
def af9{p:Bool}(h:Qkh):LI X CL b (.BoolOp .And [e] pos) δ p δ1:=λH Z σ ts vs Q S k=>xt (ZP oy) Qfw
def aga{q:Bool}(h:yW X CL b e δ true δ1)(h2:LI X CL b Qjk δ1 q δ2):LI X CL b Qi7 δ q δ2:=λH Z σ ts vs Q S k=>
 xt (aeo oy L9) (h H Z σ ts vs _ S λH1 Z1 c k1 f=>O1 (h2 H1 Z1 σ ts vs _ f λH2 Z2 a d=>k H2 Z2 Qcg d))
def akx{i j:Int}(h1:QiX)(h2:Qbp):Hc X CL b Qjf δ (decide (j<i)) δ2:=λH Z σ ts vs Q S k=>
 LD (uY TC dD dD (sS _)) (h1 H Z σ ts vs _ S λv1 H1 Z1 d g=>h2 H1 Z1 σ _ _ _ g λv2 H2 Z2 c s2 a e=>by
  have f:=a.view;rw[f.sc rfl,e.sc rfl];exact⟨i,j,rfl,rfl,_,rfl,k H2 Z2 (d.trans c) a.pop⟩)
end L3
namespace Law
open PySem L2 L3
noncomputable def top(i:Nat):Stmt:=PySem.Challenge.pw_moodtree_k46_states_by_the_rows.main.body.getD i (.Pass ⟨0,0,0,0⟩)
noncomputable def GN:Nat->AT->Int->AT
 | 0,_,_=>[]
 | n+1,es,k=>if k=-1 then [] else k::GN n es (es.getD k.toNat 0)
def bN(es:AT)(m:Int):AT:=GN QeV es QfF
def fD(es:AT):Prop:=∀k:Nat,k<es.length->-1<=es.getD k 0/\es.getD k 0<k
variable{es:AT}{k:Int}
theorem fD.at(h:fD es)(h0:0<=k)(h1:QcE):-1<=es.getD k.toNat 0/\es.getD k.toNat 0<k:=by
 have:=h k.toNat We;lia
noncomputable def cW(ks:At)(es ss:AT):D:=.ins "Tree" [("kinds",.lst QdT),("elders",.lst Qct),("starts",.lst QdU)]
variable{ks:At}{ss:AT}
def fz:List.lookup ("kinds":Str) [(("kinds":Str),D.lst QdT),("elders",.lst Qct),("starts",.lst QdU)]=some (.lst QdT):=Pn
def lq:List.lookup ("elders":Str) [(("kinds":Str),D.lst QdT),("elders",.lst Qct),("starts",.lst QdU)]=some (.lst Qct):=rfl
def UC:List.lookup ("starts":Str) [(("kinds":Str),D.lst QdT),("elders",.lst Qct),("starts",.lst QdU)]=some (.lst QdU):=rfl
def fQ(ds:BA):T.gW (.lst Qa7)=.lst ds:=by rw[T.gW,kC]
def aN(l:AT):(T.lst ((l.map D.int).map T.sh)).clean=true:=yX▸sC _
theorem Xj(l:At):(T.lst ((l.map D.str).map T.sh)).clean=true:=by
 induction l with
 | nil=>rfl
 | cons x l a=>exact a
noncomputable def Ce(ks:At)(es ss:AT):BN:=[("kinds",.lst ((ks.map .str).map T.sh)),("elders",.lst ((es.map .int).map T.sh)),("starts",.lst ((ss.map .int).map T.sh))]
def ac2(ks:At)(es ss:AT):T.gW (.ins "Tree" (Ce ks es ss))=cW ks es ss:=by
 unfold Ce;rw[T.gW,T.xj,T.xj,T.xj,fQ,fQ,fQ];rfl
def Fo(ks:At)(es ss:AT):T.f7 (Ce ks es ss)=true:=by
 unfold Ce;rw[T.f7,T.f7,T.f7,Xj,aN,aN];rfl
theorem PN{es:AT}(h:fD es):∀(n:Nat) {k x:Int},-1<=k->k<es.length->x∈GN n es k->0<=x/\x<=k
 | 0,k,x,_,_,a=>by cases a
 | n+1,k,x,h0,h1,a=>by
  rw[GN]at a;split at a
  .cases a
  .have b:=h.at We h1;obtain rfl|a:=hR.1 a
   .lia
   .have:=PN h n We We a;lia
theorem Iq{es:AT}(h:fD es):∀(a b:Nat) {k:Int},-1<=k->k<es.length->k<a->k<b->GN a es k=GN b es k
 | 0,0,_,_,_,_,_=>rfl
 | 0,b+1,k,h0,_,e,_=>by
  rw[GN,GN,hO We]
 | a+1,0,k,h0,_,_,d=>by
  rw[GN,GN,hO We]
 | a+1,b+1,k,h0,h1,e,d=>by
  rw[GN,GN];split
  .rfl
  .have c:=h.at We h1;rw[Iq h a b c.1 We We We]
variable{m:Int}
theorem gK(h:fD es)(h0:0<=m)(h1:QcF):bN es m=if es.getD m.toNat 0=-1 then [] else es.getD m.toNat 0::bN es QfF:=by
 have hm:=h.at h0 h1;unfold bN;rw[GN];split
 .rfl
 .rename_i b;have a:=h.at (k:=es.getD m.toNat 0) We We;rw[Iq h es.length QeV a.1 We We We]
variable{x:Int}
theorem bF(h:fD es)(h0:0<=m)(h1:QcF)(a:x∈bN es m):0<=x/\x<m/\x<es.length:=by
 have hm:=h.at h0 h1;have:=PN h _ hm.1 We a;lia
theorem uw{es:AT}(h:fD es):∀(n:Nat) {m x:Int},0<=m->m<es.length->m<n->x∈bN es m->∃pre,bN es m=pre++x::bN es x/\∀y∈pre,y∈bN es m/\x∈bN es y
 | 0,m,x,h0,_,d,_=>by lia
 | n+1,m,x,h0,h1,d,a=>by
  have hm:=h.at h0 h1;have e:=gK h h0 h1;generalize f:es.getD m.toNat 0=k at hm e;by_cases c:k=-1
  .rw[e,hO c]at a;cases a
  .rw[cq c]at e;rw[e]at a;obtain rfl|a:=hR.1 a
   .exact⟨[],by rw[e];rfl,λy b=>by cases b⟩
   .obtain⟨pre,p1,p2⟩:=uw h n (m:=k) We We We a;refine⟨k::pre,by rw[e,p1];rfl,λy b=>?_⟩;obtain rfl|b:=hR.1 b
    .exact⟨by rw[e];exact hU,a⟩
    .exact⟨by rw[e];exact hX _ (p2 y b).1,(p2 y b).2⟩
variable{y:Int}
theorem ni(h:fD es)(h0:0<=m)(h1:QcF)(b:x∈bN es m)(a:y∈bN es x):y∈bN es m:=by
 obtain⟨pre,p1,_⟩:=uw h (m.toNat+1) h0 h1 We b;exact p1▸h5 _ (hX _ a)
theorem vC(h:fD es)(h0:0<=m)(h1:QcF)(b:x∈bN es m)(a:y∈bN es m):x=y\/x∈bN es y\/y∈bN es x:=by
 obtain⟨pre,p1,p2⟩:=uw h (m.toNat+1) h0 h1 We b;rw[p1]at a;obtain a|a:=hV.1 a
 .exact .inr (.inl (p2 y a).2)
 .obtain e|a:=hR.1 a
  .exact .inl e.symm
  .exact .inr (.inr a)
theorem AV{es:AT}(h:fD es):∀(n:Nat) {m:Int},0<=m->m<es.length->m<n->(bN es m).Pairwise (λa b=>b<a)
 | 0,m,h0,_,d=>by lia
 | n+1,m,h0,h1,d=>by
  have hm:=h.at h0 h1;rw[gK h h0 h1];split
  .exact .nil
  .have hs:=AV h n (m:=es.getD m.toNat 0) We We We;refine ll.2 ⟨λx c=>?_,hs⟩;have:=bF h We We c;lia
def NX(h:fD es)(h0:0<=m)(h1:QcF)(a:es.getD m.toNat 0 ≠ -1):es.getD m.toNat 0∈bN es m:=by
 rw[gK h h0 h1,cq a];exact hU
def oA(es:AT):Prop:=fD es/\∀k:Nat,k+1<es.length->es.getD QaZ 0=k\/es.getD QaZ 0∈bN es k
theorem oA.down(h:oA es){k:Nat}(c:k+1<es.length)(a:x∈bN es ((k+1:Nat):Int)):x=k\/x∈bN es k:=by
 have e:=gK h.1 (m:=((k+1:Nat))) We We;rw[jj]at e;have b:=h.2 k c;rw[e]at a;split at a
 .cases a
 .obtain a|a:=hR.1 a
  .obtain b|b:=b
   .exact .inl (a.trans b)
   .exact a ▸ .inr b
  .obtain b|b:=b
   .rw[b]at a;exact .inr a
   .exact .inr (ni h.1 We We b a)
def cX(es:AT)(u m:Int):AT:=(m::(bN es m).takeWhile QcW).reverse
def Cg(es:AT):Int->AT->Int->Prop
 | a,[],m=>a=m
 | a,x::l,m=>(0<=x/\x<es.length/\es.getD x.toNat 0=a)/\Cg es x l m
theorem Cg.snoc{es:AT}{m:Int}(h0:0<=m)(h1:QcF):∀{l:AT} {a:Int},Cg es a l QfF->Cg es a (l++[m]) m
 | [],a,h=>⟨⟨h0,h1,Eq.symm h⟩,rfl⟩
 | x::l,a,h=>⟨h.1,Cg.snoc h0 h1 h.2⟩
variable{u:Int}
theorem F6(h:fD es)(h0:0<=m)(h1:QcF)(c:u∈bN es m)(b:x∈(bN es m).takeWhile QcW):u∈bN es x:=by
 obtain⟨pre,p1,p2⟩:=uw h (m.toNat+1) h0 h1 We c;rw[p1]at b;have ne:∀y∈pre,decide (y≠u)=true:=λy a=>by
  have:=bF h (m:=y) (by have:=bF h h0 h1 (p2 y a).1;lia) (by have:=bF h h0 h1 (p2 y a).1;lia) (p2 y a).2;simp;lia
 have:(pre++u::bN es u).takeWhile QcW=pre:=by
  rw[ON ne,List.takeWhile_cons,cq Wp,iz]
 rw[this]at b;exact(p2 x b).2
def PR(bY:CC)(es:AT)(a b:Int):Int:=((bN es a).find? (λx=>bY x&&decide (x∈bN es b))).getD (-1)
theorem Ir{α:Type}{p:α->Bool}:∀{l:Q1} {x:α},l.find? p=some x->∃pre a,l=pre++x::a/\p x=true/\∀y∈pre,p y=false
 | [],_,h=>by cases h
 | y::l,x,h=>by
  rw[sA]at h;cases e:p y with
  | true=>
   rw[e]at h;cases h;exact⟨[],l,rfl,e,Wp ⟩
  | false=>
   rw[e]at h;obtain⟨pre,a,h1,h2,b⟩:=Ir h;refine⟨y::pre,a,W7,h2,λz hz=>?_⟩;obtain rfl|hz:=hR.1 hz
   .exact e
   simp_all
def JU(bY:CC)(es:AT)(a b t:Int):Prop:=
 (t=-1/\∀x∈bN es a,x∈bN es b->bY x=false)\/(t∈bN es a/\t∈bN es b/\bY t=true/\∀x∈bN es a,x∈bN es b->bY x=true->x=t\/x∈bN es t)
variable{bY:CC}
theorem aky(h:fD es){a b:Int}(h0:0<=a)(h1:a<es.length):JU bY es a b (PR bY es a b):=by
 unfold PR;cases e:(bN es a).find? _ with
 | none=>
  refine .inl ⟨rfl,λx d k=>?_⟩;have:=List.find?_eq_none.1 e x d;simp_all
 | some t=>
  obtain⟨pre,i,p1,p2,j⟩:=Ir e;have g:t∈bN es a:=by simp_all
  simp at p2;refine .inr ⟨g,p2.2,p2.1,λx d k n=>?_⟩;obtain c|c|c:=vC h h0 h1 d g
  .exact .inl c
  .exact .inr c
  .exfalso;have hs:=AV h (a.toNat+1) h0 h1 We;rw[p1]at d hs;have m:=by
    have f:x∈bN es a:=p1▸d;have l:=bF h h0 h1 f;exact(bF h We We c).2.1
   obtain d|d:=hV.1 d
   .have:=j x d;lia
   .obtain e2|d:=hR.1 d
    .lia
    .have:=(ll.1 (yl.1 hs).2.1).1 x d;lia
variable{t:Int}
theorem JU.symm{a b:Int}(h:JU bY es a b t):JU bY es b a t:=by
 obtain⟨e,h⟩|⟨h1,h2,g,f⟩:=h
 .exact .inl ⟨e,λx d c=>h x c d⟩
 .exact .inr ⟨h2,h1,g,λx d c=>f x c d⟩
theorem aaE{es:AT}{x:Int}(h:fD es):∀(n:Nat) {k:Int},-1<=k->k<es.length->GN n (es++[x]) k=GN n es k
 | 0,_,_,_=>rfl
 | n+1,k,h0,h1=>by
  rw[GN,GN];split
  .rfl
  .have a:=h.at We h1;have e:(es++[x]).getD k.toNat 0=es.getD k.toNat 0:=by
    rw[kf,OM We,← kf]
   rw[e,aaE h n a.1 We]
def Iu{k:Nat}(h:QcE):(es++[x]).getD k 0=es.getD k 0:=by
 rw[kf,OM h,← kf]
theorem akz(h:fD es)(h0:0<=m)(h1:QcF):bN (es++[x]) m=bN es m:=by
 have hm:=h.at h0 h1;unfold bN;rw[Iu We,aaE h _ hm.1 We,Iq h _ QeV hm.1 We W8 We]
theorem fD.snoc(h:fD es)(h0:-1<=x)(h1:Qdo):fD (es++[x]):=λk a=>by
 simp at a;by_cases e:k<es.length
 .exact Iu e▸h k e
 .have:k=es.length:=by lia
  simp_all
theorem oA.snoc(h:oA es){k:Nat}(d:k+1=es.length)(b:x=k\/x∈bN es k):oA (es++[x]):=by
 have a:-1<=x/\x<es.length:=by
  obtain e|e:=b
  .lia
  .have:=bF h.1 We We e;lia
 refine⟨h.1.snoc a.1 a.2,λj c=>?_⟩;simp at c;rw[akz h.1 We We];by_cases e:j+1<es.length
 .exact Iu e▸h.2 j e
 .have:j=k:=by lia
  simp_all
structure akA(es:AT)(m:Int)(L:Nat):Prop where
 le:m+1+L<=es.length
 iff:∀i:Nat,i<es.length->((m=-1\/m∈bN es i)↔m<i/\(i:Int)<m+1+L)
 eld:∀i:Nat,m<i->(i:Int)<m+1+L->m<=es.getD i 0
 beh:m+1+L=es.length\/es.getD (m+1+L).toNat 0<m
theorem Xk(h:oA es)(h0:-1<=m)(h1:QcF):∃L,akA es m L:=by
 by_cases hm:m=-1
 .subst hm;refine⟨es.length,We,λi hi=>⟨λ_=>by lia,λ_=>.inl rfl⟩,λi hi d=>(h.1 i We).1,.inl We⟩
 .have h0:0<=m:=by lia
  have o:∀i:Nat,i<es.length->m∈bN es i->m<i:=λi hi b=>(bF h.1 We We b).2.1;have go:∀(r L:Nat),m+1+L+r=es.length->(∀i:Nat,m<i->(i:Int)<m+1+L->m∈bN es i)->∃n:Nat,m+1+n<=es.length/\(∀i:Nat,m<i->(i:Int)<m+1+n->m∈bN es i)/\(m+1+n=es.length\/m∉bN es (m+1+n)):=by
   intro r
   induction r with
   | zero=>intro L e l;exact⟨L,We,l,.inl We⟩
   | succ r q=>
    intro L e l;by_cases hw:m∈bN es (m+1+L)
    .refine q (L+1) We λi f d=>?_;by_cases hi:(i:Int)<m+1+L
     .exact l i f hi
     .have:(i:Int)=m+1+L:=by lia
      rw[this];exact hw
    .exact⟨L,We,l,.inr hw⟩
  obtain⟨L,t,k,q4⟩:=go (es.length-(m.toNat+1)) 0 We (λi f d=>by lia);have out:∀(r i:Nat),(i:Int)=m+1+L+r->i<es.length->m∉bN es i:=by
   intro r
   induction r with
   | zero=>
    intro i hi x b;obtain e|e:=q4
    .lia
    .rw[show(i:Int)=m+1+L by lia]at b;exact e b
   | succ r q=>
    intro i hi x b;obtain⟨j,rfl⟩:∃j,i=j+1:=⟨i-1,We⟩;obtain e|e:=h.down x b
    .lia
    .exact q j We We e
  refine⟨L,t,λi hi=>⟨λhw=>?_,λ⟨a,c⟩=>.inr (k i a c)⟩,λi f d=>?_,?_⟩
  .have b:=hw.resolve_left hm;have:=o i hi b;refine⟨this,?_⟩;by_cases A:(i:Int)<m+1+L
   .exact A
   .exact absurd b (out (i-(m.toNat+1+L)) i We hi)
  .have b:=k i f d;have hi:i<es.length:=by lia
   have e:=gK h.1 (m:=(i:Int)) We We;rw[jj]at e;rw[e]at b;split at b
   .cases b
   .rename_i B;have y:=h.1 i hi;obtain e2|b:=hR.1 b
    .lia
    .have:=bF h.1 (m:=es.getD i 0) We We b;lia
  .by_cases u:m+1+L=es.length
   .exact .inl u
   .refine .inr ?_;obtain⟨j,C⟩:∃j:Nat,(j:Int)=m+L:=⟨(m+L).toNat,We⟩;have g:j+1<es.length:=by lia
    have nw:m∉bN es ((j+1:Nat):Int):=out 0 QP We g;have v:m=j\/m∈bN es j:=by
     by_cases e:m=j
     .exact .inl e
     .exact .inr (k j We We)
    have et:(m+1+L).toNat=j+1:=by lia
    rw[et];have e:=gK h.1 (m:=((j+1:Nat):Int)) We We;rw[jj]at e;have y:=h.1 QP g;by_cases s:es.getD QP 0=-1
    .lia
    .rw[cq s]at e;rw[e]at nw;have n1:m≠es.getD QP 0:=λz=>nw (by rw[← z];exact hU);have p:m∉bN es (es.getD QP 0):=λz=>nw (hX _ z);obtain z|z:=h.2 j g
     .rw[z]at n1 p;obtain w|w:=v
      .exact absurd w n1
      .exact absurd w p
     .obtain w|w:=v
      .have:=bF h.1 (m:=(j:Int)) We We z;lia
      .rcases vC h.1 (m:=(j:Int)) We We w z with c|c|c
       .exact absurd c n1
       .exact absurd c p
       .have:=bF h.1 (m:=m) We We c;lia
theorem zj:∀(n:Nat) (es:AT) (k:Int),(GN n es k).length<=n
 | 0,_,_=>hW _
 | n+1,es,k=>by
  rw[GN];split
  .exact i8 _
  .exact Nat.succ_le_succ (zj n es _)
noncomputable def cg(ks:At)(x:Int):Bool:=decide (ks.getD x.toNat Str.empty="one")
noncomputable def gX(es:AT)(m:Int):AT:=((List.range es.length).filter (λ(i:Nat)=>decide (es.getD i 0=m))).map (λ(i:Nat)=>(i:Int))
def agb(es:AT)(m:Int):(((List.range es.length).map λ(i:Nat)=>D.tup [.int i,.int (es.getD i 0)]).filter (λd=>decide (d.at2.ug=m))).map (λd=>T.sh d.o1)=((gX es m).map D.int).map T.sh:=by
 unfold gX;rw[o2,ia,ia,ia];rfl
def PV(es:AT)(m:Int):(gX es m).length<=es.length:=by
 unfold gX;rw[hP];exact kq (qr _ _) Wp
theorem vD(h:x∈gX es m):0<=x/\x<es.length/\es.getD x.toNat 0=m:=by
 obtain⟨i,hi,rfl⟩:=ip.1 h;obtain⟨h1,h2⟩:=j1.1 hi;have h1:=ml.1 h1;have h2:=i5 h2;exact⟨We,We,‹_› ⟩
theorem PX(h0:0<=x)(h1:Qdo)(h2:es.getD x.toNat 0=m):x∈gX es m:=by
 refine List.mem_map.2 ⟨x.toNat,List.mem_filter.2 ⟨List.mem_range.2 We,by simpa using h2⟩,We⟩
def Iv(es:AT)(m:Int):(gX es m).Pairwise (· < ·):=by
 refine List.Pairwise.map _ (λa b h=>?_) (LF _ Lq);exact Int.ofNat_lt.2 h
noncomputable def UD(s:AT)(k:Int):Int:=if s.length=0 then k else s.getD (k % (s.length:Nat)).toNat 0 % 1000000007 / (1+k / (s.length:Nat))+k / (s.length:Nat)*k
def Hm(es:AT)(m:Int)(n:Nat):Int:=(m::bN es m).getD n 0
variable{n:Nat}
theorem akD(a:n<=(bN es m).length):Hm es m n=m\/Hm es m n∈bN es m:=by
 cases n with
 | zero=>exact .inl rfl
 | succ n=>
  refine .inr ?_;unfold Hm;show(bN es m).getD n 0∈_;rw[kf,kA We];exact List.getElem_mem _
def Iw(n:Int)(es:AT)(j:Nat):Int:=if n % 3=0 then(if 2<((bN es j).length:Int)+1 then 2 else((bN es j).length:Int)+1) else((bN es j).length:Int)+1
def HE(s:AT)(n:Int)(es:AT)(j:Nat):Int:=if ((bN es j).length:Int)=12 then(if 1 > UD s Qga % Iw n es j then 1 else UD s Qga % Iw n es j) else UD s Qga % Iw n es j
theorem agc(n:Int)(es:AT)(j:Nat):0<Iw n es j/\Iw n es j<=((bN es j).length:Int)+1:=by
 unfold Iw;split
 .split<;>lia
 .lia
theorem ap8(s:AT)(n:Int)(es:AT)(j:Nat):0<=HE s n es j/\HE s n es j<=((bN es j).length:Int):=by
 obtain⟨h1,h2⟩:=agc n es j;have a:=k3 (UD s Qga) (b:=Iw n es j) We;have b:=ky (UD s Qga) h1;unfold HE;split
 .split<;>lia
 .lia
def q9(s:AT)(n:Int):Nat->AT
 | 0=>[-1]
 | j+1=>q9 s n j++[Hm (q9 s n j) j (HE s n (q9 s n j) j).toNat]
theorem ap9(s:AT)(n:Int):∀j,(q9 s n j).length=j+1/\oA (q9 s n j)
 | 0=>⟨rfl,⟨λk a=>by
   have:(q9 s n 0).length=1:=rfl;have:k=0:=by lia
   subst this;exact⟨Int.le_refl _,show(-1)<0 by decide⟩,λk a=>by
   have:(q9 s n 0).length=1:=rfl;lia⟩⟩
 | j+1=>by
  obtain⟨h1,h2⟩:=ap9 s n j;refine⟨by show(q9 s n j++_).length=_;simp_all,?_⟩;have b:=ap8 s n (q9 s n j) j;exact h2.snoc h1.symm (akD We)
noncomputable def fP(isAll:CC)(es ch:AT):Nat->AT
 | 0=>[0]
 | j+1=>if es.getD QP 0∈fP isAll es ch j/\(isAll (es.getD QP 0)=true\/ch.getD (es.getD QP 0).toNat 0=((j+1:Nat):Int)) then fP isAll es ch j++[((j+1:Nat):Int)] else fP isAll es ch j
theorem kF{isAll:CC}{es ch:AT}:∀(j:Nat) {x:Int},x∈fP isAll es ch j->0<=x/\x<=j
 | 0,x,h=>by simp_all [fP]
 | j+1,x,h=>by
  rw[fP]at h;split at h
  .obtain h|h:=hV.1 h
   .have:=kF j h;lia
   .have:=by simpa using h
    lia
  .have:=kF j h;lia
theorem GO{isAll:CC}{es ch:AT}:∀(j:Nat),(fP isAll es ch j).length<=j+1
 | 0=>hW _
 | j+1=>by
  have:=GO (isAll:=isAll) (es:=es) (ch:=ch) j;rw[fP];split
  .simp;lia
  .lia
noncomputable def ao(ks:At)(x:Int):Bool:=decide (ks.getD x.toNat Str.empty="all")
noncomputable def aY(ks:At)(x:Int):Bool:=decide (ks.getD x.toNat Str.empty="leaf")
noncomputable def vG(bY:CC)(es gM acc:AT)(m:Int):AT:=if es.getD m.toNat 0∈gM/\bY QfF=true then acc.set (es.getD m.toNat 0).toNat m else acc
def Xl(bY:CC)(es gM acc ops:AT):AT:=ops.foldl (vG bY es gM) acc
theorem GP(bY:CC)(es gM:AT):∀(ops acc:AT),(Xl bY es gM acc ops).length=acc.length
 | [],acc=>rfl
 | m::ops,acc=>by
  show(Xl _ es _ _ ops).length=_;rw[GP _ es _ _];unfold vG;split
  .rw[m4]
  .rfl
def agd(bY:CC)(es gM acc ops:AT)(m:Int):Xl bY es gM acc (ops++[m])=vG bY es gM (Xl bY es gM acc ops) m:=by
 unfold Xl;simp
noncomputable def setStep(bY:CC)(ch acc:AT)(m:Int):AT:=if bY m=true then acc.set m.toNat (ch.getD m.toNat 0) else acc
def x2(bY:CC)(ch acc some:AT):AT:=some.foldl (setStep bY ch) acc
theorem Iz(bY:CC)(ch:AT):∀(some acc:AT),(x2 bY ch acc some).length=acc.length
 | [],acc=>rfl
 | m::ops,acc=>by
  show(x2 _ ch _ ops).length=_;rw[Iz _ ch _];unfold setStep;split
  .rw[m4]
  .rfl
theorem Zp{bY:CC}{es gM ch:AT} :
  ∀(ops acc:AT),(∀m∈ops,∀e,es.getD m.toNat 0=e->bY e=true->ch.getD e.toNat 0=m)->(∀e∈gM,0<=e/\e<acc.length)->∀i:Nat,i<acc.length →
   (Xl bY es gM acc ops).getD i 0=if (i:Int)∈gM/\bY i=true/\∃m∈ops,es.getD m.toNat 0=(i:Int) then ch.getD i 0 else acc.getD i 0
 | [],acc,_,_,i,_=>by
  simp;rfl
 | m::ops,acc,h,hm,i,hi=>by
  show(Xl bY es gM (vG bY es gM acc m) ops).getD i 0=_;have g:(vG bY es gM acc m).length=acc.length:=by
   unfold vG;split
   .rw[m4]
   .rfl
  rw[Zp ops _ (λk a=>h k (hX _ a)) (by rw[g];exact hm) i (by rw[g];exact hi)];by_cases h1:(i:Int)∈gM/\bY i=true/\∃m∈ops,es.getD m.toNat 0=(i:Int)
  .rw[hO h1,hO ⟨h1.1,h1.2.1,h1.2.2.imp λk a=>⟨hX _ a.1,a.2⟩⟩]
  .rw[cq h1];unfold vG;by_cases h2:es.getD m.toNat 0∈gM/\bY QfF=true
   .rw[hO h2];have j:=hm _ h2.1;by_cases c:es.getD m.toNat 0=(i:Int)
    .rw[hO ⟨by rw[← c];exact h2.1,by rw[← c];exact h2.2,m,hU,c⟩];have:=h m hU _ c (by rw[← c];exact h2.2);rw[jj]at this;rw[this,c,jj,kf,yB hi];rfl
    .rw[cq (λz=>by
      obtain⟨f,d,k,a,b⟩:=z;obtain e|a:=hR.1 a
      .rw[e]at b;exact c b
      .exact h1 ⟨f,d,k,a,b⟩)]
     rw[kf,yn We,← kf]
   .rw[cq h2];rw[cq (λz=>by
     obtain⟨f,d,k,a,b⟩:=z;obtain e|a:=hR.1 a
     .rw[e]at b;exact h2 ⟨by rw[b];exact f,by rw[b];exact d⟩
     .exact h1 ⟨f,d,k,a,b⟩)]
theorem Ci{bY:CC}{ch:AT}:∀(some acc:AT),(∀e∈some,0<=e/\e<acc.length)->∀i:Nat,i<acc.length →
   (x2 bY ch acc some).getD i 0=if (i:Int)∈some/\bY i=true then ch.getD i 0 else acc.getD i 0
 | [],acc,_,i,_=>rfl
 | m::ops,acc,hm,i,hi=>by
  show(x2 _ ch _ ops).getD i 0=_;have a:(setStep bY ch acc m).length=acc.length:=by
   unfold setStep;split
   .rw[m4]
   .rfl
  rw[Ci _ _ (a▸λe he=>hm e (hX _ he)) i (a▸hi)];have c:=hm m hU;by_cases h1:(i:Int)∈ops/\bY i=true
  .rw[hO h1,hO ⟨hX _ h1.1,h1.2⟩]
  .rw[cq h1];unfold setStep;by_cases h2:bY m=true
   .rw[hO h2];by_cases b:m=i
    .subst b;rw[hO ⟨ Wp,h2⟩,jj,kf,yB hi];rfl
    .rw[cq (λz=>by
      obtain e|e:=hR.1 z.1
      .exact b e.symm
      .exact h1 ⟨e,z.2⟩)]
     rw[kf,yn We,← kf]
   .rw[cq h2,cq (λz=>by
     obtain e|e:=hR.1 z.1
     .rw[← e]at h2;exact h2 z.2
     simp_all)]
def UE{a b:AT}(c:a.length=b.length)(h:∀i:Nat,i<a.length->a.getD i 0=b.getD i 0):a=b:=by
 apply List.ext_getElem c;intro i h1 h2;have:=h i h1;rw[kf,kf,kA h1,kA h2]at this;exact this
theorem qh{isAll:CC}{es ch:AT}(g:fD es):∀(j:Nat) {k:Nat},k<=j->j<es.length->(((k:Int)∈fP isAll es ch j)↔(k=0\/(es.getD k 0∈fP isAll es ch j/\(isAll QeW=true\/ch.getD (es.getD k 0).toNat 0=(k:Int)))))
 | 0,k,m,h=>by
  have:k=0:=by lia
  subst this;simp[fP]
 | j+1,k,m,h=>by
  have mono:∀{x:Int},x∈fP isAll es ch j->x∈fP isAll es ch QP:=λ{x} a=>by
   rw[fP];split
   .exact ik _ a
   .exact a
  have back:∀{x:Int},x<((j+1:Nat):Int)->x∈fP isAll es ch QP->x∈fP isAll es ch j:=λ{x} o a=>by
   rw[fP]at a;split at a
   .obtain z|z:=hV.1 a
    .exact z
    .have:x=((j+1:Nat):Int):=by simpa using z
     lia
   .exact a
  by_cases e:k=j+1
  .subst e;have n:=g QP h;have l:((j+1:Nat):Int)∉fP isAll es ch j:=λz=>by
    have:=kF j z;lia
   constructor
   .intro z;rw[fP]at z;split at z
    .rename_i c;exact .inr ⟨mono c.1,c.2⟩
    .exact absurd z l
   .rintro(z|⟨d,b⟩)
    .lia
    .rw[fP,hO ⟨back We d,b⟩];exact h5 _ Wp
  .have f:=qh (isAll:=isAll) (ch:=ch) g j (k:=k) We We;have n:=g k We;constructor
   .intro z;obtain w|⟨i,w2⟩:=f.1 (back We z)
    .exact .inl w
    .exact .inr ⟨mono i,w2⟩
   .rintro(z|⟨d,b⟩)
    .exact mono (f.2 QcQ)
    .exact mono (f.2 (.inr ⟨back We d,b⟩))
theorem gO{isAll:CC}{es ch:AT}:∀j,(fP isAll es ch j).Pairwise (· < ·)
 | 0=>r3 _ _
 | j+1=>by
  rw[fP];split
  .refine yl.2 ⟨gO j,r3 _ _,λa d b c=>?_⟩;have:=kF j d;have:=by simpa using c
   lia
  .exact gO j
theorem IA:∀{a b:AT},a.Pairwise (· < ·)->b.Pairwise (· < ·)->(∀x,x∈a↔x∈b)->a=b
 | [],[],_,_,_=>rfl
 | [],y::b,_,_,h=>absurd ((h y).2 Wp) Wp
 | x::a,[],_,_,h=>absurd ((h x).1 hU) Wp
 | x::a,y::b,g,f,h=>by
  obtain⟨a1,a2⟩:=ll.1 g;obtain⟨b1,b2⟩:=ll.1 f;have e:x=y:=by
   obtain e|d:=hR.1 ((h x).1 hU)
   .exact e
   .obtain e|c:=hR.1 ((h y).2 hU)
    .exact e.symm
    .have:=a1 y c;have:=b1 x d;lia
  subst e;rw[IA a2 b2 λz=>⟨λhz=>by
   obtain e|e:=hR.1 ((h z).1 Qdv)
   .have:=a1 z hz;lia
   .exact e,λhz=>by
   obtain e|e:=hR.1 ((h z).2 Qdv)
   .have:=b1 z hz;lia
   .exact e⟩]
noncomputable def lu(ss mem:AT)(a:Bool)(e:Int):Int:=if a=true/\mem.getD e.toNat 0 ≠ -1 then mem.getD e.toNat 0 else ss.getD e.toNat 0
def Ti(az isAll:CC)(es ss mem:AT)(a:Bool)(m:Int):AT:=if az m=true then [] else if isAll m=true then gX es m else [lu ss mem a m]
def kG(az isAll:CC)(es ss mem:AT)(far:Bool):Nat->Bool->Int->AT
 | 0,_,m=>[m]
 | d+1,near,m=>m::(Ti az isAll es ss mem (far || near) m).flatMap (λp=>kG az isAll es ss mem far d false p)
structure dR(az isAll:CC)(es ss mem:AT):Prop where
 pre:oA es
 leaf:∀k:Nat,k<es.length->az k=true->gX es k=[]
 one:∀k:Nat,k<es.length->az k=false->isAll k=false->ss.getD k 0∈gX es k/\(mem.getD k 0=-1\/mem.getD k 0∈gX es k)
variable{az isAll:CC}{mem:AT}
def aaF(h:QaM){u:Bool}{k:Nat}(b:QcE)(h1:az k=false)(h2:isAll k=false):lu ss mem u k∈gX es k:=by
 obtain⟨a,c⟩:=h.one k b h1 h2;unfold lu;split
 .rename_i z;exact c.resolve_left z.2
 .exact a
variable{p:Int}
def ux(h:QaM){u:Bool}{k:Nat}(b:QcE)(a:p∈Ti az isAll es ss mem u k):p∈gX es k:=by
 unfold Ti at a;split at a
 .cases a
 .rename_i h1;split at a
  .exact a
  .rename_i h2;have:=by simpa using a
   exact this▸aaF h b (by simpa using h1) (by simpa using h2)
def Zl(h:QaM){u:Bool}{k:Nat}(c:QcE)(a:p∈gX es k):p∈Ti az isAll es ss mem u k↔(isAll k=true\/lu ss mem u k=p):=by
 have b:az k=false:=by
  cases e:az k with
  | false=>rfl
  | true=>rw[h.leaf k c e]at a;cases a
 unfold Ti;rw[cq (by rw[b];decide)];cases e:isAll k with
 | true=>rw[hO rfl];exact⟨λ_=>.inl rfl,λ_=>a⟩
 | false=>
  rw[cq Wl,i4];exact⟨λz=>.inr z.symm,λz=>z.elim (λz=>by cases z) (λz=>z.symm)⟩
theorem cH(h:oA es)(b:p∈gX es k):0<=p/\p<es.length/\es.getD p.toNat 0=k/\k<p:=by
 have a:=vD b;have:=h.1 p.toNat We;refine⟨a.1,a.2.1,a.2.2,?_⟩;lia
theorem UG(h:QaM){far:Bool}:∀(a c:Nat) {near:Bool} {k:Nat},k<es.length->es.length<=k+a+1->es.length<=k+c+1->kG az isAll es ss mem far a near k=kG az isAll es ss mem far c near k
 | 0,0,_,_,_,_,_=>rfl
 | 0,c+1,near,k,d,f,_=>by
  have:Ti az isAll es ss mem (far || near) k=[]:=List.eq_nil_iff_forall_not_mem.2 λp b=>by
   have:=cH h.pre (ux h d b);lia
  rw[kG,kG,this];rfl
 | a+1,0,near,k,d,_,e=>by
  have:Ti az isAll es ss mem (far || near) k=[]:=List.eq_nil_iff_forall_not_mem.2 λp b=>by
   have:=cH h.pre (ux h d b);lia
  rw[kG,kG,this];rfl
 | a+1,c+1,near,k,d,f,e=>by
  rw[kG,kG];congr 1;rw[List.flatMap_def,List.flatMap_def];congr 1;apply oo;intro p b;have g:=cH h.pre (ux h d b);obtain⟨q,rfl⟩:∃q:Nat,p=q:=⟨p.toNat,We⟩;exact UG h a c We We We
theorem kH(h:QaM){far:Bool}:∀(d:Nat) {near:Bool} {k:Nat},k<es.length->es.length<=k+d+1->∀x:Nat,x<es.length →
  ((x:Int)∈kG az isAll es ss mem far d near k↔(x=k\/(k<x/\es.getD x 0∈kG az isAll es ss mem far d near k/\(isAll QeX=true\/lu ss mem (far || (near&&decide (es.getD x 0=(k:Int)))) QeX=(x:Int)))))
 | 0,near,k,i,hd,x,g=>by
  rw[kG,i4];have u:=h.pre.1 x g;constructor
  .intro z;exact .inl We
  .rintro(z|⟨n,b,_⟩)
   .lia
   .lia
 | d+1,near,k,i,hd,x,g=>by
  have u:=h.pre.1 x g;rw[kG,hR,l5];have zX:∀p∈Ti az isAll es ss mem (far || near) k,∀y:Nat,y<es.length->((y:Int)∈kG az isAll es ss mem far d false p↔((y:Int)=p\/(p<y/\es.getD y 0∈kG az isAll es ss mem far d false p/\(isAll (es.getD y 0)=true\/lu ss mem far (es.getD y 0)=(y:Int))))):=λp a y c=>by
   have l:=cH h.pre (ux h i a);obtain⟨q,rfl⟩:∃q:Nat,p=q:=⟨p.toNat,We⟩;have:=kH h (far:=far) d (near:=false) (k:=q) We We y c;rw[this];simp only[Bool.false_and,Bool.or_false];constructor
   .rintro(z|⟨n,b⟩)
    .exact .inl We
    .exact .inr ⟨We,b⟩
   .rintro(z|⟨n,b⟩)
    .exact .inl We
    .exact .inr ⟨We,b⟩
  have f:∀(dd:Nat) (p:Nat),p<es.length->∀y:Int,y∈kG az isAll es ss mem far dd false p->(p:Int)<=y:=by
   intro dd
   induction dd with
   | zero=>intro p _ y c;rw[kG,i4]at c;lia
   | succ dd t=>
    intro p a y c;rw[kG,hR,l5]at c;obtain e|⟨q,v,c⟩:=c
    .lia
    .have l:=cH h.pre (ux h a v);obtain⟨r,rfl⟩:∃r:Nat,q=r:=⟨q.toNat,We⟩;have:=t r We y c;lia
  constructor
  .rintro(z|⟨p,a,z⟩)
   .exact .inl We
   .have j:=ux h i a;have l:=cH h.pre j;have w:p<=x:=by
     obtain⟨q,rfl⟩:∃q:Nat,p=q:=⟨p.toNat,We⟩;exact f d q We x z
    refine .inr ⟨We,?_⟩;rcases(zX p a x g).1 z with e|⟨e1,e2,A⟩
    .have o:es.getD x 0=(k:Int):=by
      rw[← e,jj]at l;exact l.2.2.1
     rw[o];refine⟨hU,?_⟩;rw[kx rfl,y8];have:=(Zl h i j).1 a;rw[← e]at this;exact this
    .have s:p<=es.getD x 0:=by
      obtain⟨q,rfl⟩:∃q:Nat,p=q:=⟨p.toNat,We⟩;exact f d q We _ e2
     refine⟨hX _ (l5.2 ⟨p,a,e2⟩),?_⟩;rw[lr We,Bool.and_false,Bool.or_false];exact A
  .rintro(z|⟨n,b,m⟩)
   .exact .inl We
   .obtain e|b:=hR.1 b
    .
     have j:(x:Int)∈gX es k:=PX We We (by rw[jj];exact e);rw[e,kx rfl,y8]at m;have a:=(Zl h i j).2 m;exact .inr ⟨x,a,(zX x a x g).2 Q4⟩
    .obtain⟨p,a,b⟩:=l5.1 b;have j:=ux h i a;have l:=cH h.pre j;have s:p<=es.getD x 0:=by
      obtain⟨q,rfl⟩:∃q:Nat,p=q:=⟨p.toNat,We⟩;exact f d q We _ b
     rw[lr We,Bool.and_false,Bool.or_false]at m;exact .inr ⟨p,a,(zX p a x g).2 (.inr ⟨We,b,m⟩)⟩
theorem bV(h:QaM){far:Bool}:∀(d:Nat) {near:Bool} {k:Nat},k<es.length->∀y∈kG az isAll es ss mem far d near k,0<=y/\y<es.length/\(y=k\/(k:Int)∈bN es y)
 | 0,near,k,g,y,a=>by
  rw[kG,i4]at a;exact⟨We,We,.inl a⟩
 | d+1,near,k,g,y,a=>by
  rw[kG,hR,l5]at a;obtain e|⟨p,j,a⟩:=a
  .exact⟨We,We,.inl e⟩
  .have l:=cH h.pre (ux h g j);obtain⟨q,rfl⟩:∃q:Nat,p=q:=⟨p.toNat,We⟩;obtain⟨f,c,i⟩:=bV h d We y a;have b:(k:Int)∈bN es q:=by
    rw[gK h.pre.1 We We,l.2.2.1];simp
   refine⟨f,c,.inr ?_⟩;obtain e|e:=i
   .exact e▸b
   .exact ni h.pre.1 f c e b
theorem qV(h:QaM){far:Bool}:∀(d:Nat) {near:Bool} {k:Nat},k<es.length->(kG az isAll es ss mem far d near k).Pairwise (· < ·)
 | 0,_,_,_=>by rw[kG];exact r3 _ _
 | d+1,near,k,g=>by
  rw[kG];refine ll.2 ⟨λy b=>?_,List.pairwise_flatMap.2 ⟨λp f=>?_,?_⟩⟩
  .obtain⟨p,f,b⟩:=l5.1 b;have s:=cH h.pre (ux h g f);obtain⟨q,rfl⟩:∃q:Nat,p=q:=⟨p.toNat,We⟩;obtain⟨l,j,i⟩:=bV h d (k:=q) We y b;obtain e|e:=i
   .lia
   .have:=bF h.pre.1 l j e;lia
  .have s:=cH h.pre (ux h g f);obtain⟨q,rfl⟩:∃q:Nat,p=q:=⟨p.toNat,We⟩;exact qV h d We
  .have hs:(Ti az isAll es ss mem (far || near) k).Pairwise (· < ·):=by
    unfold Ti;split
    .exact .nil
    .split
     .exact Iv es k
     .exact r3 _ _
   refine Lu ?_ hs;intro p r f n v x w y b;have s:=cH h.pre (ux h g f);have o:=cH h.pre (ux h g n);obtain⟨q,rfl⟩:∃q:Nat,p=q:=⟨p.toNat,We⟩;obtain⟨a,rfl⟩:∃a:Nat,r=a:=⟨r.toNat,We⟩;obtain⟨x0,B,t⟩:=bV h d (k:=q) We x w;obtain⟨l,j,i⟩:=bV h d (k:=a) We y b;obtain⟨L,S⟩:=Xk h.pre (m:=(q:Int)) We We;have xL:x<(q:Int)+1+L:=by
    obtain e|e:=t
    .lia
    .obtain⟨z,rfl⟩:∃z:Nat,x=z:=⟨x.toNat,We⟩;exact((S.iff z We).1 (.inr e)).2
   have u:¬ ((q:Int)∈bN es a):=λz=>by
    rw[gK h.pre.1 (m:=(a:Int)) We We,o.2.2.1,cq We]at z;obtain e|e:=hR.1 z
    .lia
    .have:=bF h.pre.1 (m:=(k:Int)) We We e;lia
   have A:(q:Int)+1+L<=a:=by
    have:=S.iff a We;by_cases c:(a:Int)<(q:Int)+1+L
    .exact absurd ((this.2 ⟨v,c⟩).resolve_left We) u
    .lia
   have:(a:Int)<=y:=by
    obtain e|e:=i
    .lia
    .have:=bF h.pre.1 l j e;lia
   lia
def IB(isAll:CC)(es ss mem:AT)(far near:Bool)(k:Nat):Nat->AT
 | 0=>[(k:Int)]
 | j+1=>if es.getD QbW 0∈IB isAll es ss mem far near k j/\(isAll (es.getD QbW 0)=true\/lu ss mem (far || (near&&decide (es.getD QbW 0=(k:Int)))) (es.getD QbW 0)=((k+1+j:Nat):Int)) then IB isAll es ss mem far near k j++[((k+1+j:Nat):Int)] else IB isAll es ss mem far near k j
theorem zk{far near:Bool}{k:Nat}:∀(j:Nat) {x:Int},x∈IB isAll es ss mem far near k j->k<=x/\x<=k+j
 | 0,x,h=>by simp_all [IB]
 | j+1,x,h=>by
  rw[IB]at h;split at h
  .obtain h|h:=hV.1 h
   .have:=zk j h;lia
   .have:=by simpa using h
    lia
  .have:=zk j h;lia
theorem AW{far near:Bool}{k:Nat}:∀j,(IB isAll es ss mem far near k j).Pairwise (· < ·)
 | 0=>r3 _ _
 | j+1=>by
  rw[IB];split
  .refine yl.2 ⟨AW j,r3 _ _,λa d b c=>?_⟩;have:=zk j d;have:=by simpa using c
   lia
  .exact AW j
theorem Xn(h:QaM){far near:Bool}{k d:Nat}(f:QcE)(hd:es.length<=k+d+1):∀(j:Nat),k+j<es.length->∀x:Nat,x<=k+j->((x:Int)∈IB isAll es ss mem far near k j↔(x:Int)∈kG az isAll es ss mem far d near k)
 | 0,o,x,m=>by
  rw[IB,i4,kH h d f hd x We];constructor
  .intro z;exact .inl We
  .rintro(z|⟨z,_⟩)
   .lia
   .lia
 | j+1,o,x,m=>by
  have g:=Xn h (far:=far) (near:=near) f hd j We;have r:=h.pre.1 QbW We;have mono:∀{y:Int},y∈IB isAll es ss mem far near k j->y∈IB isAll es ss mem far near k QP:=λ{y} a=>by
   rw[IB];split
   .exact ik _ a
   .exact a
  have back:∀{y:Int},y<((k+1+j:Nat):Int)->y∈IB isAll es ss mem far near k QP->y∈IB isAll es ss mem far near k j:=λ{y} p a=>by
   rw[IB]at a;split at a
   .obtain z|z:=hV.1 a
    .exact z
    .have:y=((k+1+j:Nat):Int):=by simpa using z
     lia
   .exact a
  by_cases e:x=k+1+j
  .subst e;rw[kH h d f hd QbW We];have nx:((k+1+j:Nat):Int)∉IB isAll es ss mem far near k j:=λz=>by
    have:=zk j z;lia
   have b:es.getD QbW 0∈IB isAll es ss mem far near k j↔es.getD QbW 0∈kG az isAll es ss mem far d near k:=by
    by_cases e0:es.getD QbW 0=-1
    .rw[e0];constructor
     .intro z;have:=zk j z;lia
     .intro z;have:=bV h d f _ z;lia
    .obtain⟨q,n⟩:∃q:Nat,es.getD QbW 0=q:=⟨(es.getD QbW 0).toNat,We⟩;rw[n];exact g q We
   constructor
   .intro z;rw[IB]at z;split at z
    .rename_i c;exact .inr ⟨We,b.1 c.1,c.2⟩
    .exact absurd z nx
   .rintro(z|⟨_,l,i⟩)
    .lia
    .rw[IB,hO ⟨b.2 l,i⟩];exact h5 _ Wp
  .have:=g x We;constructor
   .intro z;exact this.1 (back We z)
   .intro z;exact mono (this.2 z)
variable{far near:Bool}
theorem ac4(h:QaM){k d:Nat}(b:QcE)(hd:es.length<=k+d+1):kG az isAll es ss mem far d near k=IB isAll es ss mem far near k (es.length-1-k):=by
 refine IA (qV h d b) (AW _) λx=>?_;constructor
 .intro a;have c:=bV h d b x a;obtain⟨q,rfl⟩:∃q:Nat,x=q:=⟨x.toNat,We⟩;exact(Xn h b hd _ We q We).2 a
 .intro a;have c:=zk _ a;obtain⟨q,rfl⟩:∃q:Nat,x=q:=⟨x.toNat,We⟩;exact(Xn h b hd _ We q We).1 a
def vH(mode:Str):Prop:=mode="new" \/ mode="near" \/ mode="far"
noncomputable def fC(mode:Str):Bool:=decide (mode="far")
noncomputable def iG(mode:Str):Bool:=decide (mode="near")
def LZ(ks:At)(es ss mem:AT)(mode:Str)(m:Int):AT:=kG QaD QU es ss mem (fC mode) es.length (iG mode) m
theorem Ck(h:QaM){d k:Nat}(g:QcE):(kG az isAll es ss mem far d near k).length<=es.length:=by
 have hs:=qV h (far:=far) d (near:=near) g;have e:=bV h (far:=far) d (near:=near) g;generalize kG _ _ es ss _ _ d _ k=l at hs e;have go:∀(l:List _) (lo:Int),l.Pairwise (· < ·)->(∀x∈l,lo<=x/\x<es.length)->l.length<=es.length-lo\/l=[]:=by
  intro l
  induction l with
  | nil=>intro lo _ _;exact .inr rfl
  | cons x r i=>
   intro lo h1 h2;obtain⟨a,c⟩:=ll.1 h1;have b:=h2 x hU;rcases i _ c (λy f=>⟨a y f,(h2 y (hX _ f)).2⟩) with z|z
   .left;grind
   .left;rw[z];simp;lia
 rcases go l 0 hs (λx b=>⟨(e x b).1,(e x b).2.1⟩) with z|z
 .lia
 simp_all
def jA(es:AT)(u t x:Int):Prop:=x=t\/(x∈bN es t/\(u=-1\/u∈bN es x))
theorem IC(h:fD es)(t0:0<=t)(t1:Qbo)(a:QdJ)(x:Int):x∈cX es u t↔jA es u t x:=by
 unfold cX jA;rw[y4,hR];refine or_congr Iff.rfl ?_;obtain rfl|a:=a
 .have e:(bN es t).takeWhile (λx=>decide (x ≠ -1))=bN es t:=by
   have:=ON (p:=λx=>decide (x≠(-1:Int))) (l₁:=bN es t) (l₂:=[]) (λy b=>by
    have:=bF h t0 t1 b;simp;lia)
   simpa using this
  simp_all
 .have i:=bF h t0 t1 a;constructor
  .intro z;exact⟨(Lo _).subset z,.inr (F6 h t0 t1 a z)⟩
  .rintro⟨c,f⟩;obtain⟨pre,p1,p2⟩:=uw h (t.toNat+1) t0 t1 We a;have ne:∀y∈pre,decide (y≠u)=true:=λy b=>by
    have g:=bF h t0 t1 (p2 y b).1;have:=bF h (m:=y) We We (p2 y b).2;simp;lia
   have e:(bN es t).takeWhile QcW=pre:=by
    rw[p1,ON ne,List.takeWhile_cons,cq Wp,iz]
   rw[e];have k:=bF h t0 t1 c;have d:u∈bN es x:=f.resolve_left We;have j:=bF h (m:=x) We We d;rw[p1]at c;obtain z|z:=hV.1 c
   .exact z
   .obtain z|z:=hR.1 z
    .lia
    .have:=bF h (m:=u) We We z;lia
variable{t:Nat}
def Xo(az isAll:CC)(es ss mem:AT)(far near:Bool)(u:Int)(t:Nat)(x:Int):Prop:=
 (jA es u t x/\x≠t)\/x∈kG az isAll es ss mem far es.length near t\/∃s p,jA es u t s/\s≠t/\isAll s=true/\p∈gX es s/\¬ jA es u t p/\x∈kG az isAll es ss mem false es.length false p
def Cm(az isAll:CC)(es ss mem:AT)(far near:Bool)(u:Int)(t:Nat)(e x:Int):Prop:=
 isAll e=true\/(lu ss mem ((decide (e=t)&&(far || near)) || QkB) e=x/\(e=t\/¬ jA es u t e))
theorem j3(h:fD es)(b:Qbo)(a:jA es u t x):0<=x/\x<=t:=by
 obtain e|⟨e,_⟩:=a
 .lia
 .have:=bF h We We e;lia
variable{s:Int}
theorem aaG(h:fD es)(c:Qbo)(hs:jA es u t s)(d:p∈gX es s)(a:p∈bN es t\/p=t):jA es u t p:=by
 obtain a|a:=a
 .refine .inr ⟨a,?_⟩;have f:=j3 h c hs;have b:=vD d;have pb:=bF h (m:=(t:Int)) We We a;have e:=gK h (m:=p) b.1 b.2.1;rw[b.2.2,cq We]at e;have st:s∈bN es t:=ni h We We a (by rw[e];exact hU);obtain z|⟨_,z|z⟩:=hs
  .have:=bF h (m:=(t:Int)) We We st;lia
  .exact .inl z
  .exact .inr (by rw[e];exact hX _ z)
 .exact .inl a
theorem xR(h:QaM)(d:Qbo)(hs:jA es u t s)(c:s≠t)(f:p∈gX es s)(hpl:¬ jA es u t p)(b:x=p\/p∈bN es x)(x0:0<=x)(g:Qdo):¬ jA es u t x/\¬ (x=t\/(t:Int)∈bN es x):=by
 have a:=h.pre.1;have i:=j3 a d hs;have pb:=cH h.pre f;have up:=λz=>hpl (aaG a d hs f z);have key:¬ (x=t\/(t:Int)∈bN es x):=by
  rintro(z|z)
  .rw[z]at b;obtain e|e:=b
   .exact up (.inr e.symm)
   .exact up (.inl e)
  .obtain e|e:=b
   .rw[e,gK a (m:=p) pb.1 pb.2.1,pb.2.2.1,cq We]at z;obtain w|w:=hR.1 z
    .exact c w.symm
    .have:=bF a (m:=s) We We w;lia
   .obtain w|w|w:=vC a x0 g z e
    .exact up (.inr w.symm)
    .rw[gK a (m:=p) pb.1 pb.2.1,pb.2.2.1,cq We]at w;obtain v|v:=hR.1 w
     .exact c v.symm
     .have:=bF a (m:=s) We We v;lia
    .exact up (.inl w)
 refine⟨λz=>?_,key⟩;obtain z|⟨z,_⟩:=z
 .exact key QcQ
 .obtain e|e:=b
  .rw[e]at z;exact up QcQ
  .exact up (.inl (ni a We We z e))
theorem PY(h:QaM)(c:Qbo)(x:Nat)(f:Qdo) :
  Xo az isAll es ss mem far near u t x↔(jA es u t x\/(Xo az isAll es ss mem far near u t QeX/\¬ jA es u t x/\Cm az isAll es ss mem far near u t QeX x)):=by
 have g:=h.pre.1;have L:=g x f;have d:=λy E=>bV h (far:=far) (near:=near) es.length c y E;have w7:(t:Int)∈kG az isAll es ss mem far es.length near t:=(kH h es.length c We t c).2 Q4;have m:∀y:Int,y∈kG az isAll es ss mem far es.length near t->y≠t->¬ jA es u t y:=λy E J z=>by
  obtain⟨C,B,A⟩:=d y E;have:=j3 g c z;obtain e|e:=A
  .exact J e
  .have:=bF g C B e;lia
 constructor
 .rintro(z|z|⟨s,p,a,j,i,n,r,l⟩)
  .exact .inl z.1
  .by_cases e:(x:Int)=t
   .exact .inl (.inl e)
   .refine .inr ?_;have G:=z;rw[kH h es.length c We x f]at G;obtain⟨o,w2,b⟩:=G.resolve_left We;refine⟨.inr (.inl w2),m x z e,?_⟩;unfold Cm;obtain b|b:=b
    .exact .inl b
    .refine .inr ⟨?_,?_⟩
     .rw[kx w2,y8];rw[← b];congr 1;cases far<;>cases near<;>simp
     .by_cases e2:es.getD x 0=t
      .exact .inl e2
      .exact .inr (m _ w2 e2)
  .have pb:=cH h.pre n;have I:=j3 g c a;obtain⟨q,rfl⟩:∃q:Nat,p=q:=⟨p.toNat,We⟩;obtain⟨C,B,A⟩:=bV h (far:=false) (near:=false) es.length (k:=q) We x l;obtain⟨K,O⟩:=xR h c a j n r A C B;refine .inr ⟨?_,K,?_⟩
   .rw[kH h es.length (k:=q) We We x f]at l;obtain w|⟨_,w2,_⟩:=l
    .subst w;have:es.getD x 0=s:=by have:=pb.2.2.1;rwa [jj]at this
     rw[this];exact .inl ⟨a,j⟩
    .exact .inr (.inr ⟨s,q,a,j,i,n,r,w2⟩)
   .rw[kH h es.length (k:=q) We We x f]at l;unfold Cm;obtain w|⟨_,w2,b⟩:=l
    .subst w;have:es.getD x 0=s:=by have:=pb.2.2.1;rwa [jj]at this
     rw[this];exact .inl i
    .obtain b|b:=b
     .exact .inl b
     .obtain⟨e0,e1,e2⟩:=bV h (far:=false) (near:=false) es.length (k:=q) We _ w2;obtain⟨p1,p2⟩:=xR h c a j n r e2 e0 e1;refine .inr ⟨?_,.inr p1⟩;rw[lr (λz=>p2 QcQ),lr Qlp];rw[← b];congr 1;simp
 .rintro(z|⟨a,j,i⟩)
  .by_cases e:(x:Int)=t
   .rw[e];exact .inr (.inl w7)
   .exact .inl ⟨z,e⟩
  .unfold Cm at i;obtain a|a|⟨s,p,o,w2,b,D,H,w6⟩:=a
   .
    have I:=j3 g c a.1;have M:isAll QeX=true:=i.elim id (λw=>w.2.elim (λv=>absurd v a.2) (λv=>absurd a.1 v));have N:(x:Int)∈gX es QeX:=PX We We (by rw[jj]);exact .inr (.inr ⟨_,x,a.1,a.2,M,N,j,(kH h es.length f We x f).2 Q4⟩)
   .obtain⟨e0,e1,e2⟩:=d _ a;have F:(t:Int)<=es.getD x 0:=by
     obtain e|e:=e2
     .lia
     .have:=bF g e0 e1 e;lia
    refine .inr (.inl ((kH h es.length c We x f).2 (.inr ⟨We,a,?_⟩)));obtain w|⟨w,_⟩:=i
    .exact .inl w
    .refine .inr ?_;rw[← w,kx a,y8];congr 1;cases far<;>cases near<;>simp
   .have pb:=cH h.pre D;have I:=j3 g c o;obtain⟨q,rfl⟩:∃q:Nat,p=q:=⟨p.toNat,We⟩;obtain⟨e0,e1,e2⟩:=bV h (far:=false) (near:=false) es.length (k:=q) We _ w6;obtain⟨p1,p2⟩:=xR h c o w2 D H e2 e0 e1;have F:(q:Int)<=es.getD x 0:=by
     obtain e|e:=e2
     .lia
     .have:=bF g e0 e1 e;lia
    refine .inr (.inr ⟨s,q,o,w2,b,D,H,(kH h es.length (k:=q) We We x f).2 (.inr ⟨We,w6,?_⟩)⟩);obtain w|⟨w,_⟩:=i
    .exact .inl w
    .refine .inr ?_;rw[← w,lr (λz=>p2 QcQ),lr Qlp];congr 1;simp
def p0(az isAll:CC)(es ss mem:AT)(far near:Bool)(u:Int)(t:Nat):AT:=
 (cX es u t).dropLast++kG az isAll es ss mem far es.length near t++((cX es u t).dropLast.filter Qkm).flatMap (λs=>((gX es s).filter QiO).flatMap (λp=>kG az isAll es ss mem false es.length false p))
def DT(es:AT)(u t:Int):(cX es u t).dropLast=((bN es t).takeWhile QcW).reverse:=by
 unfold cX;rw[mn,List.dropLast_concat]
theorem zl(h:fD es)(d:Qbo)(b:x∈(cX es u t).dropLast):x∈cX es u t/\x≠t:=by
 have a:=b;rw[DT,y4]at b;have c:=(Lo _).subset b;have:=bF h We We c;exact⟨List.dropLast_subset _ a,We⟩
def aaH(a:x∈cX es u t)(b:x≠t):x∈(cX es u t).dropLast:=by
 rw[DT,y4];unfold cX at a;rw[y4]at a;exact(hR.1 a).resolve_left b
theorem GQ(h:QaM)(b:Qbo)(j:QdJ)(x:Int):x∈p0 az isAll es ss mem far near u t↔Xo az isAll es ss mem far near u t x:=by
 have li:=IC h.pre.1 We We j;unfold p0 Xo;rw[hV,hV,or_assoc];refine or_congr ?_ (or_congr Iff.rfl ?_)
 .constructor
  .intro z;obtain⟨a,c⟩:=zl h.pre.1 b z;simp_all
  .rintro⟨a,c⟩;exact aaH ((li x).2 a) c
 .simp only[l5,j1];constructor
  .rintro⟨s,⟨s1,s2⟩,p,⟨p1,p2⟩,z⟩;obtain⟨a,c⟩:=zl h.pre.1 b s1;refine⟨s,p,(li s).1 a,c,s2,p1,λw=>?_,z⟩;simp_all
  .rintro⟨s,p,i,g,f,e,k,d⟩;refine⟨s,⟨aaH ((li s).2 i) g,f⟩,p,⟨e,?_⟩,d⟩;simp_all
variable{l:AT}
theorem oB(h:l.Pairwise (· < ·)):l.Nodup:=List.Pairwise.imp (λ{a b} c=>by lia) h
theorem DU(h:QaM)(j:Qbo)(Y:QdJ):(p0 az isAll es ss mem far near u t).Nodup:=by
 have d:=h.pre.1;have li:=IC d (u:=u) (t:=(t:Int)) We We Y;have E:(cX es u t).dropLast.Nodup:=by
  rw[DT];have hs:=AV d (t+1) (m:=(t:Int)) We We We;exact List.pairwise_reverse.2 (List.Pairwise.imp (λ{a b} (Ub:b<a)=>(by lia:b≠a)) (List.Pairwise.sublist (Lo _) hs))
 have side:∀s∈(cX es u t).dropLast.filter Qkm,∀p∈(gX es s).filter QiO,jA es u t s/\s≠t/\p∈gX es s/\¬ jA es u t p:=λs hs p n=>by
  obtain⟨s1,s2⟩:=j1.1 hs;obtain⟨p1,p2⟩:=j1.1 n;obtain⟨a,c⟩:=zl d j s1;refine⟨(li s).1 a,c,p1,λw=>?_⟩;rw[kx ((li p).2 w)]at p2;cases p2
 have wit:∀s p x,jA es u t s->s≠t->p∈gX es s->¬ jA es u t p->x∈kG az isAll es ss mem false es.length false p->0<=x/\x<es.length/\(x=p\/p∈bN es x):=λs p x _ _ n _ v=>by
  have pb:=cH h.pre n;have K:∃q:Nat,p=q:=⟨p.toNat,by
   have:=pb.1;lia⟩
  obtain⟨q,rfl⟩:=K;exact bV h es.length We x v
 unfold p0;refine ko.2 ⟨ko.2 ⟨E,oB (qV h _ j),λa M b B e=>?_⟩,?_,λa M b B e=>?_⟩
 .subst e;obtain⟨a1,a2⟩:=zl d j M;have lb:=j3 d j ((li a).1 a1);obtain⟨U,T,S⟩:=bV h es.length j a B;obtain e|e:=S
  .exact a2 e
  .have:=bF d U T e;lia
 .refine List.pairwise_flatMap.2 ⟨λs hs=>List.pairwise_flatMap.2 ⟨λp n=>?_,?_⟩,?_⟩
  .obtain⟨_,_,p1,_⟩:=side s hs p n;have pb:=cH h.pre p1;have K:∃q:Nat,p=q:=⟨p.toNat,by
    have:=pb.1;lia⟩
   obtain⟨q,rfl⟩:=K;exact oB (qV h _ We)
  .have L:((gX es s).filter QiO).Pairwise (· < ·):=LF _ (Iv es s);refine Lu ?_ L;intro p l n A nR x v y G e;subst e;obtain⟨s1,s2,p1,p2⟩:=side s hs p n;obtain⟨_,_,i,r⟩:=side s hs l A;obtain⟨x0,D,C⟩:=wit s p x s1 s2 p1 p2 v;obtain⟨_,_,k⟩:=wit s l x s1 s2 i r G;have pb:=cH h.pre p1;have f:=cH h.pre i;have N:=j3 d j s1;have R:∀z,z∈bN es l->z<=s:=λz hz=>by
    rw[gK d (m:=l) f.1 f.2.1,f.2.2.1,cq We]at hz;obtain w|w:=hR.1 hz
    .lia
    .have:=bF d (m:=s) We We w;lia
   have P:∀z,z∈bN es p->z<=s:=λz hz=>by
    rw[gK d (m:=p) pb.1 pb.2.1,pb.2.2.1,cq We]at hz;obtain w|w:=hR.1 hz
    .lia
    .have:=bF d (m:=s) We We w;lia
   obtain e|e:=C
   .obtain g|g:=k
    .lia
    .rw[e]at g;have:=P _ g;lia
   .obtain g|g:=k
    .rw[g]at e;have:=R _ e;lia
    .obtain w|w|w:=vC d x0 D e g
     .lia
     .have:=R _ w;lia
     .have:=P _ w;lia
  .have Z:((cX es u t).dropLast.filter Qkm).Nodup:=LF _ E;refine Lu ?_ Z;intro s s' hs J V x v y G e;subst e;obtain⟨p,n,v⟩:=l5.1 v;obtain⟨l,A,G⟩:=l5.1 G;obtain⟨s1,s2,p1,p2⟩:=side s hs p n;obtain⟨o,I,i,r⟩:=side s' J l A;obtain⟨x0,D,C⟩:=wit s p x s1 s2 p1 p2 v;obtain⟨_,_,k⟩:=wit s' l x o I i r G;have pb:=cH h.pre p1;have f:=cH h.pre i;have N:=j3 d j s1;have H:=j3 d j o;have up:∀{s p s':Int},jA es u t s->p∈gX es s->¬ jA es u t p->jA es u t s'->0<=s'->¬ (p=s'\/p∈bN es s'):=λ{s p s'} ls pin np F _ z=>by
    refine np ?_;obtain z|z:=z
    .rw[z];exact F
    .refine aaG d j ls pin (.inl ?_);obtain w|⟨w,_⟩:=F
     .rw[← w];exact z
     .exact ni d We We w z
   have d1:¬ p∈bN es l:=λz=>by
    rw[gK d (m:=l) f.1 f.2.1,f.2.2.1,cq We]at z;exact up s1 p1 p2 o H.1 ((hR.1 z))
   have d2:¬ l∈bN es p:=λz=>by
    rw[gK d (m:=p) pb.1 pb.2.1,pb.2.2.1,cq We]at z;exact up o i r s1 N.1 ((hR.1 z))
   have O:p≠l:=λz=>V (by rw[← pb.2.2.1,← f.2.2.1,z]);obtain e|e:=C
   .obtain g|g:=k
    .exact O (e.symm.trans g)
    .rw[e]at g;exact d2 g
   .obtain g|g:=k
    .rw[g]at e;exact d1 e
    .obtain w|w|w:=vC d x0 D e g
     .exact O w
     .exact d1 w
     .exact d2 w
 .subst e;obtain⟨s,hs,B⟩:=l5.1 B;obtain⟨p,n,B⟩:=l5.1 B;obtain⟨s1,s2,p1,p2⟩:=side s hs p n;obtain⟨x0,D,C⟩:=wit s p a s1 s2 p1 p2 B;obtain⟨X,W⟩:=xR h j s1 s2 p1 p2 C x0 D;obtain z|z:=hV.1 M
  .exact X ((li a).1 (zl d j z).1)
  .exact W ((bV h es.length j a z).2.2.elim .inl .inr)
def ID(isAll:CC)(es ss mem:AT)(far near:Bool)(iX:AT)(t:Nat)(r:AT×AT)(k:Nat):Bool:=
 decide ((k:Int)∈iX) || (decide (es.getD k 0∈r.1)&&(isAll QeW || (decide (lu ss mem ((decide (es.getD k 0=t)&&(far || near)) || (decide (es.getD k 0∈r.2)&&far)) QeW=k)&&(decide (es.getD k 0=t) || !decide (es.getD k 0∈iX)))))
def F7(isAll:CC)(es ss mem:AT)(far near:Bool)(iX:AT)(t:Nat):Nat->AT×AT
 | 0=>([],[])
 | k+1=>if ID isAll es ss mem far near iX t QlA k=true
   then((F7 isAll es ss mem far near iX t k).1++[(k:Int)],if (k:Int)=t\/es.getD k 0∈(F7 isAll es ss mem far near iX t k).2 then(F7 isAll es ss mem far near iX t k).2++[(k:Int)] else(F7 isAll es ss mem far near iX t k).2)
   else F7 isAll es ss mem far near iX t k
theorem JP{iX:AT}:∀(k:Nat),(∀x∈(F7 isAll es ss mem far near iX t k).1,0<=x/\x<k)/\(∀x∈(F7 isAll es ss mem far near iX t k).2,0<=x/\x<k)/\(F7 isAll es ss mem far near iX t k).1.Pairwise (· < ·)/\(F7 isAll es ss mem far near iX t k).1.length<=k/\(F7 isAll es ss mem far near iX t k).2.length<=k
 | 0=>⟨λx c=>(by cases c),λx c=>(by cases c),List.Pairwise.nil,hW _,hW _⟩
 | k+1=>by
  obtain⟨h1,h2,d,i,h⟩:=JP (iX:=iX) k;rw[F7];split
  .have q:∀{l:AT},(∀x∈l,0<=x/\x<(k:Int))->∀x∈l++[(k:Int)],0<=x/\x<((k+1:Nat):Int):=λ{l} e x c=>by
    obtain z|z:=hV.1 c
    .have:=e x z;lia
    .have:x=(k:Int):=by simpa using z
     lia
   refine⟨q h1,?_,yl.2 ⟨d,r3 _ _,λa g b f=>?_⟩,by show(_++[_]).length<=_;rw[j2,vr];lia,?_⟩
   .dsimp only;split
    .exact q h2
    .intro x c;have:=h2 x c;lia
   .have:b=(k:Int):=by simpa using f
    have:=h1 a g;lia
   .dsimp only;split
    .rw[j2,vr];lia
    .lia
  .exact⟨λx c=>(by have:=h1 x c;lia),λx c=>(by have:=h2 x c;lia),d,We,We⟩
theorem Xp(h:QaM)(c:Qbo)(L:QdJ){iX:AT}(C:∀x,x∈iX↔jA es u t x):∀(k:Nat),k<=es.length->∀x:Nat,x<k →
  (((x:Int)∈(F7 isAll es ss mem far near iX t k).1↔Xo az isAll es ss mem far near u t x)/\((x:Int)∈(F7 isAll es ss mem far near iX t k).2↔(x:Int)∈kG az isAll es ss mem far es.length near t))
 | 0,_,x,K=>by lia
 | k+1,U,x,K=>by
  have j:=h.pre.1;have r:=Xp h c L C k We;obtain⟨b1,b2,b3,_,_⟩:=JP (isAll:=isAll) (es:=es) (ss:=ss) (mem:=mem) (far:=far) (near:=near) (iX:=iX) (t:=t) k;have N:=j k We;have b:=λy J=>bV h (far:=far) (near:=near) es.length c y J;have I:es.getD k 0∈(F7 isAll es ss mem far near iX t k).1↔Xo az isAll es ss mem far near u t QeW:=by
   by_cases e0:es.getD k 0=-1
   .rw[e0];constructor
    .intro z;have:=b1 _ z;lia
    .rintro(z|z|⟨s,p,f,a,P,E,O,D⟩)
     .have:=j3 j c z.1;lia
     .have:=b _ z;lia
     .have pb:=cH h.pre E;have d:∃q:Nat,p=q:=⟨p.toNat,by
       have:=pb.1;lia⟩
      obtain⟨q,rfl⟩:=d;have:=bV h (far:=false) (near:=false) es.length (k:=q) We _ D;lia
   .obtain⟨q,d⟩:∃q:Nat,es.getD k 0=q:=⟨(es.getD k 0).toNat,We⟩;rw[d];exact(r q We).1
  have o:es.getD k 0∈(F7 isAll es ss mem far near iX t k).2↔es.getD k 0∈kG az isAll es ss mem far es.length near t:=by
   by_cases e0:es.getD k 0=-1
   .rw[e0];constructor
    .intro z;have:=b2 _ z;lia
    .intro z;have:=b _ z;lia
   .obtain⟨q,d⟩:∃q:Nat,es.getD k 0=q:=⟨(es.getD k 0).toNat,We⟩;rw[d];exact(r q We).2
  have l:ID isAll es ss mem far near iX t QlA k=true↔Xo az isAll es ss mem far near u t k:=by
   rw[PY h c k We];unfold ID Cm;simp only[Bool.or_eq_true,km,vT,KI,decide_eq_false_iff_not,C,I];have e1:decide (es.getD k 0∈(F7 isAll es ss mem far near iX t k).2)=decide QkD:=by rw[decide_eq_decide];exact o
   rw[e1,Bool.and_comm (decide QkD) far];constructor
   .rintro(z|⟨f,a⟩)
    .exact .inl z
    .by_cases B:jA es u t k
     .exact .inl B
     .exact .inr ⟨f,B,a⟩
   .rintro(z|⟨f,_,a⟩)
    .exact .inl z
    .exact .inr ⟨f,a⟩
  by_cases e:x=k
  .subst e;have n1:(x:Int)∉(F7 isAll es ss mem far near iX t x).1:=λz=>by have:=b1 _ z;lia
   have A:(x:Int)∉(F7 isAll es ss mem far near iX t x).2:=λz=>by have:=b2 _ z;lia
   have i:(x:Int)∈kG az isAll es ss mem far es.length near t↔(Xo az isAll es ss mem far near u t x/\((x:Int)=t\/es.getD x 0∈kG az isAll es ss mem far es.length near t)):=by
    constructor
    .intro z;refine⟨.inr QcQ,?_⟩;rw[kH h es.length c We x We]at z;obtain z|z:=z
     .exact .inl We
     .exact .inr z.2.1
    .rintro⟨f,a⟩;obtain a|a:=a
     .rw[kH h es.length c We x We];exact .inl We
     .have M:(t:Int)<=es.getD x 0:=by
       obtain⟨w0,n,w2⟩:=b _ a;obtain w|w:=w2
       .lia
       .have:=bF j w0 n w;lia
      obtain w|w|⟨s,p,n,w2,T,v,G,w6⟩:=f
      .have:=j3 j c w.1;lia
      .exact w
      .exfalso;have pb:=cH h.pre v;have d:∃q:Nat,p=q:=⟨p.toNat,by
        have:=pb.1;lia⟩
       obtain⟨q,rfl⟩:=d;obtain⟨v0,v1,v2⟩:=bV h (far:=false) (near:=false) es.length (k:=q) We _ w6;obtain⟨_,H⟩:=xR h c n w2 v G v2 v0 v1;refine H (.inr ?_);obtain⟨S,R,F⟩:=b _ a;rw[gK j (m:=(x:Int)) We We,jj,cq We];obtain y|y:=F
       .rw[y];exact hU
       .exact hX _ y
   rw[F7];by_cases g:ID isAll es ss mem far near iX t (F7 isAll es ss mem far near iX t x) x=true
   .rw[hO g];refine⟨⟨λ_=>l.1 g,λ_=>h5 _ Wp⟩,?_⟩;rw[i];dsimp only;by_cases hd:(x:Int)=t\/es.getD x 0∈(F7 isAll es ss mem far near iX t x).2
    .rw[hO hd];exact⟨λ_=>⟨l.1 g,hd.imp id o.1⟩,λ_=>h5 _ Wp⟩
    .rw[cq hd];exact⟨λz=>absurd z A,λz=>absurd (z.2.imp id o.2) hd⟩
   .rw[cq g];exact⟨⟨λz=>absurd z n1,λz=>absurd (l.2 z) g⟩,⟨λz=>absurd z A,λz=>absurd (l.2 (i.1 z).1) g⟩⟩
  .have:=r x We;rw[F7];split
   .constructor
    .rw[← this.1];constructor
     .intro z;obtain w|w:=hV.1 z
      .exact w
      .have:(x:Int)=k:=by simpa using w
       lia
     .intro z;exact ik _ z
    .rw[← this.2];dsimp only;split
     .constructor
      .intro z;obtain w|w:=hV.1 z
       .exact w
       .have:(x:Int)=k:=by simpa using w
        lia
      .intro z;exact ik _ z
     .exact Iff.rfl
   .exact this
theorem NY(h:QaM)(a:Qbo)(c:Xo az isAll es ss mem far near u t x):0<=x/\x<es.length:=by
 obtain z|z|⟨s,p,g,w2,f,b,e,w6⟩:=c
 .have:=j3 h.pre.1 a z.1;lia
 .have:=bV h _ a x z;lia
 .have pb:=cH h.pre b;have d:∃q:Nat,p=q:=⟨p.toNat,by
   have:=pb.1;lia⟩
  obtain⟨q,rfl⟩:=d;have:=bV h _ We _ w6;lia
theorem agi(h:QaM)(a:Qbo)(b:QdJ){iX:AT}(c:∀x,x∈iX↔jA es u t x):((F7 isAll es ss mem far near iX t es.length).1).Perm (p0 az isAll es ss mem far near u t):=by
 obtain⟨b1,_,b3,_,_⟩:=JP _;refine(List.perm_ext_iff_of_nodup (oB b3) (DU h a b)).2 λx=>?_;rw[GQ h a b];constructor
 .intro z;have:=b1 x z;obtain⟨q,rfl⟩:∃q:Nat,x=q:=⟨x.toNat,We⟩;exact(Xp h a b c _ Wp q We).1.1 z
 .intro z;have:=NY h a z;obtain⟨q,rfl⟩:∃q:Nat,x=q:=⟨x.toNat,We⟩;exact(Xp h a b c _ Wp q We).1.2 z
theorem Cp{α:Type}{f:α->AT}{c:Nat}:∀{l:Q1},(∀x∈l,(f x).length<=c)->(l.flatMap f).length<=l.length*c
 | [],_=>by simp
 | x::l,h=>by
  rw[sT,j2,k8];have:=Cp λy a=>h y (hX _ a);have:=h x hU;lia
variable{α:Type}
theorem ac5(l:Q1):cutD l none Qe8=l.dropLast:=by
 unfold cutD;have e1:HT.Lp l.length 0 none=0:=rfl;have e2:HT.Lp l.length l.length Qe8=l.length-1:=by
  unfold HT.Lp;lia
 rw[e1,e2,List.drop_zero,Nat.sub_zero,List.dropLast_eq_take]
def PZ(h:cg ks x=true):ao ks x=false:=by
 have h:=i5 h;unfold ao;rw[h];rfl
variable{ch:AT}
theorem ac6{some:AT}(g:fD es)(r:es.length=n)(p:0<n)(hm:mem.length=n)(q:ch.length=n)(j:∀k:Nat,k<n->ks.getD k Str.empty="one"->ch.getD k 0∈gX es k)
  (hs:∀x∈some,x∈fP QU es ch QcI):Xl QaN es some mem Qg7=x2 QaN ch mem some:=by
 have o:∀m∈fP QU es ch QcI,0<=m/\m<n:=λm a=>by
  have:=kF _ a;lia
 have b:∀m∈some,0<=m/\m<mem.length:=λm a=>by
  have:=o m (hs m a);lia
 have key:∀m∈fP QU es ch QcI,∀e,es.getD m.toNat 0=e->cg ks e=true->0<=e->ch.getD e.toNat 0=m:=λm a e he d e0=>by
  have s:=o m a;obtain⟨k,rfl⟩:∃k:Nat,m=k:=⟨m.toNat,We⟩;rw[jj]at he;rcases(qh g (n-1) (k:=k) We We).1 a with z|⟨_,z⟩
  .subst z;have:=g 0 We;lia
  .rw[he]at z;obtain z|z:=z
   .rw[PZ d]at z;cases z
   .exact z
 apply UE
 .rw[GP,Iz]
 .intro i hi;rw[GP]at hi;rw[Ci some mem b i hi];have h1:=Zp (bY:=λx=>cg ks x&&decide (0<=x)) (es:=es) (gM:=some) (ch:=ch) Qg7 mem (λm a e he d=>by
   rw[km,vT]at d;exact key m a e he d.1 d.2) b i hi
  have h2:Xl (λx=>cg ks x&&decide (0<=x)) es some mem Qg7=Xl QaN es some mem Qg7:=by
   unfold Xl;congr 1;funext acc m;unfold vG;by_cases h:es.getD m.toNat 0∈some
   .have:=b _ h;simp only[kx this.1,y8]
   .rw[cq (λz=>h z.1),cq (λz=>h z.1)]
  rw[← h2,h1];by_cases c:(i:Int)∈some/\cg ks i=true
  .rw[hO c,hO ?_];refine⟨c.1,by rw[c.2,kx We];rfl,?_⟩;have f:=vD (j i We (by have:=i5 c.2;rwa [jj]at this));obtain⟨k,l⟩:∃k:Nat,ch.getD i 0=k:=⟨(ch.getD i 0).toNat,We⟩;rw[l]at f;rw[jj]at f;refine⟨(k:Int),(qh g QcI (k:=k) We We).2 (.inr ⟨by rw[f.2.2];exact hs _ c.1,.inr (by rw[f.2.2,jj,l])⟩),by rw[jj];exact f.2.2⟩
  .rw[cq c,cq (λz=>c ⟨z.1,by have:=z.2.1;rw[km]at this;exact this.1⟩)]
theorem aaJ{isAll:CC}{es ss mem:AT}:∀j,IB isAll es ss mem false false 0 j=fP isAll es ss j
 | 0=>rfl
 | j+1=>by
  rw[IB,aaJ j];have e:0+1+j=j+1:=by lia
  rw[e];rfl
def F8(bY:CC)(es ch:AT):Prop:=∀k:Nat,k<es.length->bY k=true->ch.getD k 0∈gX es k
def IE(az bY isAll:CC)(es:AT):Prop:=∀k:Nat,k<es.length->(az k=true/\bY k=false/\isAll k=false/\gX es k=[])\/(az k=false/\bY k=true/\isAll k=false)\/(az k=false/\bY k=false/\isAll k=true)
theorem aaK(a:fD es)(f:IE az bY isAll es){k e:Nat}(he:e<es.length)(d:QcE)(h:es.getD k 0=(e:Int))(c:(e:Int)∈fP isAll es ch Q2)(b:¬ isAll e=true):((k:Int)∈fP isAll es ch Q2↔ch.getD e 0=(k:Int)):=by
 rw[qh a Q2 We We,h];have:=a k d;constructor
 .rintro(z|z)
  .lia
  .obtain z|z:=z.2
   .exact absurd z b
   .rwa [jj]at z
 .intro z;exact .inr ⟨c,.inr (by rw[jj];exact z)⟩
theorem aaL(b:fD es):∀(f:Nat) {t e:Int},0<=t->t<es.length->t<f->e∈bN es t->∃y:Int,(y=t\/y∈bN es t)/\0<=y/\y<es.length/\es.getD y.toNat 0=e
 | 0,t,e,h0,_,hf,_=>by lia
 | f+1,t,e,h0,h1,hf,he=>by
  have a:=gK b h0 h1;have i:=b.at h0 h1;by_cases e1:es.getD t.toNat 0=-1
  .rw[a,hO e1]at he;cases he
  .rw[cq e1]at a;rw[a]at he;obtain z|z:=hR.1 he
   .exact⟨t,.inl rfl,h0,h1,z.symm⟩
   .obtain⟨y,h,g,d,c⟩:=aaL b f We We We z;refine⟨y,.inr ?_,g,d,c⟩;rw[a];obtain z|z:=h
    .exact z▸hU
    .exact hX _ z
theorem ac7(h:fD es){t:Int}(t0:0<=t)(t1:Qbo)(x0:0<=x)(e:Qdo)(d:0<=y)(b:y<es.length)(he:es.getD x.toNat 0=es.getD y.toNat 0)(g:x=t\/x∈bN es t)(f:y=t\/y∈bN es t):x=y:=by
 have no:∀a c:Int,0<=a->a<es.length->0<=c->c<es.length->es.getD a.toNat 0=es.getD c.toNat 0->¬ a∈bN es c:=λa c j a1 c0 i k hm=>by
  have l:=h.at j a1;rw[gK h c0 i]at hm;by_cases e1:es.getD c.toNat 0=-1
  .rw[hO e1]at hm;cases hm
  .rw[cq e1]at hm;obtain z|z:=hR.1 hm
   .lia
   .have:=bF h We We z;lia
 obtain rfl|g:=g<;>obtain rfl|f:=f
 .rfl
 .exact absurd f (no _ _ d b x0 e he.symm)
 .exact absurd g (no _ _ x0 e d b he)
 .obtain z|z|z:=vC h t0 t1 g f
  .exact z
  .exact absurd z (no _ _ x0 e d b he)
  .exact absurd z (no _ _ d b x0 e he.symm)
theorem AX(h:oA es):∀(f t:Nat),t<f->t<es.length->t=0\/(0:Int)∈bN es t
 | 0,t,hf,_=>by lia
 | f+1,t,hf,b=>by
  by_cases e:t=0
  .exact .inl e
  .obtain⟨s,rfl⟩:∃s,t=s+1:=⟨t-1,We⟩;have d:=h.1 _ b;have h2:0<=es.getD (s+1) 0:=by
    obtain z|z:=h.2 s b
    .lia
    .have:=bF h.1 We We z;lia
   have c:=gK h.1 (m:=((s+1:Nat))) We We;rw[jj]at c;refine .inr ?_;rw[c];obtain⟨q,a⟩:∃q:Nat,es.getD (s+1) 0=q:=⟨(es.getD (s+1) 0).toNat,We⟩;rw[a];obtain z|z:=AX h f q We We
   .rw[z];simp
   simp_all
def Cq(es:AT)(u x:Int):Prop:=u=-1\/u∈bN es x
def P0(c:fD es)(x0:0<=x)(a:Qdo)(b:y∈bN es x)(d:Cq es u y):Cq es u x:=by
 obtain z|z:=d
 .exact .inl z
 .exact .inr (ni c x0 a b z)
def II(b:QdJ)(a:jA es u t x):Cq es u x:=by
 obtain rfl|z:=a
 .exact b
 .exact z.2
theorem Cr(h:QaM)(f:Qbo)(c:QdJ)(i:Xo az isAll es ss mem far near u t x):Cq es u x:=by
 have a:=h.pre.1;obtain z|z|⟨s,p,hs,_,_,e,_,z⟩:=i
 .exact II c z.1
 .obtain⟨x0,d,y⟩:=bV h _ f x z;obtain rfl|y:=y
  .exact c
  .exact P0 a x0 d y c
 .have b:=cH h.pre e;have j:=j3 a f hs;obtain⟨q,rfl⟩:∃q:Nat,p=q:=⟨p.toNat,We⟩;have g:=P0 a b.1 b.2.1 (b.2.2.1▸NX a b.1 b.2.1 We) (II c hs);obtain⟨x0,d,y⟩:=bV h _ We x z;obtain rfl|y:=y
  .exact g
  .exact P0 a x0 d y g
theorem Hq(X:IE az bY isAll es)(hc:F8 bY es ch)(h:QaM)(p:Qbo)
  (O:u=-1\/(u∈bN es t/\bY u=true/\u∈fP isAll es ch Q2)) :
  ∃M:AT,M.length=es.length/\F8 bY es M ∧
   (fP isAll es M Q2).Perm ((fP isAll es ch Q2).filter (λx=>!(decide (u=-1) || decide (u∈bN es x)))++p0 az isAll es ss mem far near u t)/\(t:Int)∈fP isAll es M Q2:=by
 classical
 have n:=h.pre.1;have hn:0<es.length:=by lia
 have d:u=-1\/u∈bN es t:=O.imp id (·.1);have G:∀e:Int,∃y:Int,e∈bN es t->(y=t\/y∈bN es t)/\0<=y/\y<es.length/\es.getD y.toNat 0=e:=λe=>by
  by_cases z:e∈bN es t
  .obtain⟨y,hy⟩:=aaL n (t+1) (t:=(t:Int)) We We We z;exact⟨y,λ_=>hy⟩
  .exact⟨0,λy=>absurd y z⟩
 obtain⟨st,G⟩:∃st:Int->Int,∀e:Int,e∈bN es t->(st e=t\/st e∈bN es t)/\0<=st e/\st e<es.length/\es.getD (st e).toNat 0=e:=⟨λe=>Classical.choose (G e),λe=>Classical.choose_spec (G e)⟩
 let E:Int->Bool:=λe=>(decide (e=t)&&(far || near)) || QkB
 let c:Nat->Int:=λk=>if (k:Int)=u\/(jA es u t k/\(k:Int)≠t) then st k else if Cq es u k then lu ss mem (E k) k else ch.getD k 0
 have Ie:∀k:Nat,k<es.length->((List.range es.length).map c).getD k 0=c k:=λk o=>by
  rw[kf,la,o4 o];rfl
 have B:∀e:Int,jA es u t e->Xo az isAll es ss mem far near u t e:=λe he=>by
  have Y:=j3 n p he;obtain⟨q,rfl⟩:∃q:Nat,e=q:=⟨e.toNat,We⟩;exact(PY h p q We).2 (.inl he)
 let N:Int->Prop:=λx=>(x∈fP isAll es ch Q2/\¬ Cq es u x)\/Xo az isAll es ss mem far near u t x
 have L:∀x,N x->0<=x/\x<es.length:=λx hx=>by
  obtain z|z:=hx
  .have:=kF _ z.1;lia
  .exact NY h p z
 have hN:∀k:Nat,k<es.length->(N k↔(k=0\/(N QeW/\(isAll QeW=true\/c (es.getD k 0).toNat=(k:Int))))):=by
  intro k o;have K:=n k o;have l:=gK n (m:=(k:Int)) We We;rw[jj]at l;by_cases k0:k=0
  .subst k0;rw[hO We]at l;refine⟨λ_=>.inl rfl,λ_=>?_⟩;obtain z|z:=O
   .refine .inr (B _ ?_);obtain y|y:=AX h.pre (t+1) t We p
    .exact .inl We
    .exact .inr ⟨y,.inl z⟩
   .refine .inl ⟨(qh n Q2 (k:=0) We We).2 Q4,?_⟩;rintro(y|y)
    .have:=kF _ z.2.2;lia
    .rw[l]at y;cases y
  .have e0:es.getD k 0 ≠ -1:=by
    obtain y|y:=AX h.pre (k+1) k We o
    .exact absurd y k0
    .intro z;rw[l,hO z]at y;cases y
   rw[cq e0]at l;have T:=qh (isAll:=isAll) (ch:=ch) n Q2 (k:=k) We We;have U:=PY (far:=far) (near:=near) (u:=u) h p k o;obtain⟨e,he⟩:∃e:Nat,es.getD k 0=e:=⟨(es.getD k 0).toNat,We⟩;rw[he]at l T U K ⊢;rw[jj]at T ⊢;have V:e<es.length:=by lia
   have eb:Cq es u e->Cq es u k:=λz=>P0 n We We (by rw[l];exact hU) z;have self:∀x:Int,0<=x->x<es.length->¬ x∈bN es x:=λx a0 a1 z=>by
    have:=bF n a0 a1 z;lia
   have C:(e:Int)∈bN es t->(st e=k↔((k:Int)=t\/(k:Int)∈bN es t)):=λz=>by
    obtain⟨s1,s2,s3,s4⟩:=G e z;constructor
    .intro y;rw[← y];exact s1
    .intro y;exact ac7 n (t:=(t:Int)) We We s2 s3 We We (by rw[s4,jj,he]) s1 y
   by_cases v:Cq es u k
   .by_cases i:(e:Int)=u
    .have g:=O.resolve_left We;rw[← i]at g;have J:¬ Cq es u e:=by
      rintro(z|z)
      .lia
      .rw[i]at z;exact self u We We z
     have P:¬ isAll e=true:=λz=>by
      obtain y|y|y:=X e V
      .rw[y.2.1]at g;cases g.2.1
      .rw[y.2.2]at z;cases z
      .rw[y.2.1]at g;cases g.2.1
     have j:c e=st e:=hO (.inl i);rw[j];have R:¬ Xo az isAll es ss mem far near u t e:=λz=>J (Cr h p d z);constructor
     .rintro(z|z)
      .exact absurd v z.2
      .obtain y|y:=U.1 z
       .refine .inr ⟨.inl ⟨g.2.2,J⟩,.inr ((C g.1).2 ?_)⟩;obtain y|y:=y
        .exact .inl y
        .exact .inr y.1
       .exact absurd y.1 R
     .rintro(z|⟨_,z|z⟩)
      .exact absurd z k0
      .exact absurd z P
      .refine .inr (B _ ?_);rcases(C g.1).1 z with y|y
       .exact .inl y
       .exact .inr ⟨y,v⟩
    .have s:Cq es u e:=by
      obtain z|z:=v
      .exact .inl z
      .rw[l]at z;obtain y|y:=hR.1 z
       .exact absurd y.symm i
       .exact .inr y
     have W:N k↔Xo az isAll es ss mem far near u t k:=⟨λz=>z.resolve_left (λy=>y.2 v),.inr⟩;have L2:N e↔Xo az isAll es ss mem far near u t e:=⟨λz=>z.resolve_left (λy=>y.2 s),.inr⟩;rw[W,L2,U];by_cases r:jA es u t e/\(e:Int)≠t
     .have j:c e=st e:=hO (.inr r);rw[j];have het:(e:Int)∈bN es t:=by
       obtain y|y:=r.1
       .exact absurd y r.2
       .exact y.1
      have hm:Cm az isAll es ss mem far near u t e k↔isAll e=true:=by
       unfold Cm;constructor
       .rintro(z|z)
        .exact z
        .obtain y|y:=z.2
         .exact absurd y r.2
         .exact absurd r.1 y
       .exact .inl
      rw[hm,C het];constructor
      .rintro(z|z)
       .refine .inr ⟨B _ r.1,.inr ?_⟩;obtain y|y:=z
        .exact .inl y
        .exact .inr y.1
       .exact .inr ⟨z.1,.inl z.2.2⟩
      .rintro(z|⟨z1,F⟩)
       .exact absurd z k0
       .by_cases D:jA es u t k
        .exact .inl D
        .obtain F|F:=F
         .exact .inr ⟨z1,D,F⟩
         .refine absurd ?_ D;obtain y|y:=F
          .exact .inl y
          .exact .inr ⟨y,v⟩
     .have j:c e=lu ss mem (E e) e:=by
       show Qkp=_;rw[cq (λz=>z.elim i r),hO s]
      rw[j];have I:¬ jA es u t k:=by
       rintro(z|z)
       .refine r ⟨.inr ⟨?_,s⟩,We⟩;rw[← z,l];exact hU
       .have:=bF n (m:=(t:Int)) We We z.1;exact r ⟨.inr ⟨ni n We We z.1 (by rw[l];exact hU),s⟩,We⟩
      have hm:Cm az isAll es ss mem far near u t e k↔(isAll e=true\/lu ss mem (E e) e=k):=by
       have:(e:Int)=t\/¬ jA es u t e:=by
        by_cases y:(e:Int)=t
        .exact .inl y
        .exact .inr (λw=>r ⟨w,y⟩)
       unfold Cm;constructor
       .rintro(z|z)
        .exact .inl z
        .exact .inr z.1
       .rintro(z|z)
        .exact .inl z
        .exact .inr ⟨z,this⟩
      rw[hm];constructor
      .rintro(z|z)
       .exact absurd z I
       .exact .inr ⟨z.1,z.2.2⟩
      .rintro(z|z)
       .exact absurd z k0
       .exact .inr ⟨z.1,I,z.2⟩
   .have A:¬ Cq es u e:=λz=>v (eb z);have i:(e:Int)≠u:=λz=>v (.inr (by rw[l,z];exact hU));have j:c e=ch.getD e 0:=by
     show Qkp=_;rw[cq (λz=>z.elim i (λy=>A (II d y.1))),cq A]
    rw[j];have W:N k↔(k:Int)∈fP isAll es ch Q2:=⟨λz=>z.elim (·.1) (λy=>absurd (Cr h p d y) v),λz=>.inl ⟨z,v⟩⟩;have L2:N e↔(e:Int)∈fP isAll es ch Q2:=⟨λz=>z.elim (·.1) (λy=>absurd (Cr h p d y) A),λz=>.inl ⟨z,A⟩⟩;rw[W,L2];exact T
 have LN:∀x,x∈fP isAll es ((List.range es.length).map c) Q2↔N x:=by
  have key:∀(f k:Nat),k<f->k<es.length->((k:Int)∈fP isAll es ((List.range es.length).map c) Q2↔N k):=by
   intro f
   induction f with
   | zero=>intro k h;lia
   | succ f ih=>
    intro k aa o;rw[qh n Q2 We We,hN k o];have K:=n k o;by_cases e:es.getD k 0=-1
    .rw[e];constructor
     .rintro(z|z)
      .exact .inl z
      .have:=kF _ z.1;lia
     .rintro(z|z)
      .exact .inl z
      .have:=L _ z.1;lia
    .obtain⟨q,l⟩:∃q:Nat,es.getD k 0=q:=⟨(es.getD k 0).toNat,We⟩;rw[l,ih q We We,jj,Ie q We]
  intro x;constructor
  .intro z;have:=kF _ z;obtain⟨q,rfl⟩:∃q:Nat,x=q:=⟨x.toNat,We⟩;exact(key (q+1) q We We).1 z
  .intro z;have:=L _ z;obtain⟨q,rfl⟩:∃q:Nat,x=q:=⟨x.toNat,We⟩;exact(key (q+1) q We We).2 z
 have Z:∀x:Int,((!(decide (u=-1) || decide (u∈bN es x)))=true↔¬ Cq es u x):=λx=>by
  unfold Cq;simp
 refine⟨(List.range es.length).map c,Wp,λk o H=>?_,?_,(LN _).2 (.inr (B _ Q4))⟩
 .rw[Ie k o];show(if (k:Int)=u\/(jA es u t k/\(k:Int)≠t) then st k else if Cq es u k then lu ss mem (E k) k else ch.getD k 0)∈_;by_cases z:(k:Int)=u\/(jA es u t k/\(k:Int)≠t)
  .rw[hO z];have S:(k:Int)∈bN es t:=by
    obtain y|y:=z
    .rw[y];exact d.resolve_left We
    .exact(y.1.resolve_left y.2).1
   obtain⟨_,s2,s3,s4⟩:=G k S;exact PX s2 s3 s4
  .rw[cq z];by_cases y:Cq es u k
   .rw[hO y];obtain w|w|w:=X k o
    .rw[w.2.1]at H;cases H
    .exact aaF h o w.1 w.2.2
    .rw[w.2.1]at H;cases H
   .rw[cq y];exact hc k o H
 .refine(List.perm_ext_iff_of_nodup (oB (gO _)) ?_).2 λx=>?_
  .rw[ko];refine⟨LF _ (oB (gO _)),DU h p d,λa ha b Y Ub=>?_⟩;subst Ub;exact(Z a).1 (j1.1 ha).2 (Cr h p d ((GQ h p d a).1 Y))
  .rw[LN,hV,j1,GQ h p d,Z]
abbrev nj:=AT×AT×AT
noncomputable def Ls(s:nj):D:=.tup [.lst (s.1.map .int),.lst (s.2.1.map .int),.lst (s.2.2.map .int)]
noncomputable def Wh(s:nj):T:=.tup [.lst ((s.1.map .int).map T.sh),.lst ((s.2.1.map .int).map T.sh),.lst ((s.2.2.map .int).map T.sh)]
inductive J where
 | out (m:Int)|GD (m:Int)|keep (m p q:Int)|put (x p q:Int)|LR (w:Str) (ds:BA)
noncomputable def J.w:J->Str
 | .out _=>"out"
 | .GD _=>"in"
 | .keep _ _ _=>"keep"
 | .put _ _ _=>"put"
 | .LR w _=>w
noncomputable def J.ds:J->BA
 | .out m=>[.int m]
 | .GD m=>[.int m]
 | .keep m p q=>[.int m,.int p,.int q]
 | .put x p q=>[.int x,.int p,.int q]
 | .LR _ ds=>ds
def J.d(r:J):D:=.tup (.str r.w::r.ds)
def Iy:At:=["sign","way","call","say","rest"]
def UP(d:D):Prop:=(∃i,d=.int i)\/∃x,d=.str x
def J.ok(s:nj):J->Prop
 | .keep m _ _=>0<=m/\m<s.2.1.length
 | .put x _ _=>0<=x/\x<s.2.2.length
 | .LR w ds=>w∈Iy/\ds.length<=3/\∀d∈ds,UP d
 | _=>True
def N1(back:Bool)(r:J)(ops:AT):AT:=match r with
 | .out m=>if back then sortI (ops++[m]) else ops.filter QaS
 | .GD m=>if back then ops.filter QaS else sortI (ops++[m])
 | _=>ops
noncomputable def ME(back:Bool)(r:J)(mem:AT):AT:=match r with
 | .keep m p q=>mem.set m.toNat Qi0
 | _=>mem
noncomputable def F9(back:Bool)(r:J)(bs:AT):AT:=match r with
 | .put x p q=>bs.set x.toNat Qi0
 | _=>bs
def jX(back:Bool)(s:nj)(r:J):nj:=(N1 back r s.1,ME back r s.2.1,F9 back r s.2.2)
def Fits(back:Bool):List J->nj->Prop
 | [],s=>s.1.length<60
 | r::rs,s=>s.1.length<60/\r.ok s/\Fits back rs (jX back s r)
theorem Fits.app{back:Bool}{ys:List J}:∀{xs:List J} {s:nj},Fits back xs s->Fits back ys (xs.foldl (jX back) s)->Fits back (xs++ys) s
 | [],_,_,h=>h
 | _::_,_,h,h2=>⟨h.1,h.2.1,Fits.app h.2.2 h2⟩
structure uy(n:Nat)(s:nj):Prop where
 up:s.1.Pairwise (· < ·)
 lo:∀x∈s.1,0<=x/\x<n
 mem:s.2.1.length=n
def Right(n:Nat)(s:nj):J->Prop
 | .out m=>m∈s.1
 | .GD m=>m∉s.1/\0<=m/\m<n
 | .keep m p _=>0<=m/\m<s.2.1.length/\s.2.1.getD m.toNat 0=p
 | .put x p _=>0<=x/\x<s.2.2.length/\s.2.2.getD x.toNat 0=p
 | .LR w ds=>w∈Iy/\ds.length<=3/\∀d∈ds,UP d
variable{r:J}
theorem Right.ok{s:nj}(h:Right n s r):r.ok s:=by
 cases r with
 | out m=>trivial
 | GD m=>trivial
 | keep m p q=>exact⟨h.1,h.2.1⟩
 | put m p q=>exact⟨h.1,h.2.1⟩
 | LR w ds=>exact h
theorem P1{n:Nat}:∀{l:AT} {lo:Int},l.Pairwise (· < ·)->(∀x∈l,lo<=x/\x<n)->0<=lo->l.length<=((n:Int)-lo).toNat
 | [],_,_,_,_=>i8 _
 | y::l,lo,c,b,h0=>by
  have d:=b y Wp;obtain⟨h1,h2⟩:=ll.1 c;have:=P1 (lo:=y+1) h2 (λx a=>⟨by have:=h1 x a;lia,(b x (hX _ a)).2⟩) We;simp;lia
theorem uy.len{s:nj}(h:uy n s):s.1.length<=n:=by
 have:=P1 h.up h.lo Wp;lia
theorem xS(h:l.Pairwise (· <= ·))(nd:l.Nodup):l.Pairwise (· < ·):=by
 induction l with
 | nil=>exact .nil
 | cons y l c=>
  obtain⟨h1,h2⟩:=ll.1 h;obtain⟨n1,b⟩:=ma.1 nd;refine ll.2 ⟨λx a=>?_,c h2 b⟩;have:=h1 x a;have:y≠x:=λe=>n1 (e▸a);lia
theorem IJ(h:l.Pairwise (· < ·)):l.Nodup:=h.imp We
theorem N2(h:l.Pairwise (· < ·)):l.Pairwise (· <= ·):=h.imp λh=>by lia
theorem akM(h:l.Pairwise (· < ·))(hm:m∉l):(sortI (l++[m])).Pairwise (· < ·):=by
 refine xS (iW _) ((sortI_perm _).nodup_iff.2 ?_);refine ko.2 ⟨IJ h,Wp,λx b y a e=>?_⟩;simp_all
def ac8(h:l.Pairwise (· < ·))(hm:m∈l):sortI (l.filter QaS++[m])=l:=by
 refine(uq (z:=l) ?_ (N2 h)).symm;have nd:=IJ h
 induction l with
 | nil=>cases hm
 | cons y l c=>
  obtain⟨n1,b⟩:=ma.1 nd;by_cases e:y=m
  .subst e;have:(y::l).filter (λx=>!decide (x=y))=l:=by
    rw[List.filter_cons];simp;exactλx d e=>n1 (e▸d)
   rw[this];exact(l9 (l₁:=[y]) (l₂:=l))
  .have a:m∈l:=by
    obtain h'|h':=hR.1 hm
    .exact absurd h'.symm e
    .exact h'
   have:(y::l).filter QaS=y::l.filter QaS:=by
    rw[List.filter_cons];simp[e]
   rw[this,mi];exact List.Perm.cons y (c (ll.1 h).2 a b)
def agj(h:l.Pairwise (· < ·))(hm:m∉l):(sortI (l++[m])).filter QaS=l:=by
 have p:((sortI (l++[m])).filter QaS).Perm ((l++[m]).filter QaS):=(sortI_perm _).filter _;have e:(l++[m]).filter QaS=l:=by
  rw[nv];have:l.filter QaS=l:=KU.2 λx a=>by
   have:x≠m:=λe=>hm (e▸a);simp[this]
  rw[this];simp
 rw[e]at p;have s1:((sortI (l++[m])).filter QaS).Pairwise (· <= ·):=(iW _).sublist List.filter_sublist;have:=uq p s1;rw[this];exact xO (N2 h)
theorem UJ{q:Int}(h0:0<=m)(h1:m<l.length)(a:l.getD m.toNat 0=p):(l.set m.toNat q).set m.toNat p=l:=by
 have hm:m.toNat<l.length:=by lia
 subst a;rw[kf,kA hm];simp
theorem zm{s:nj}(g:uy n s)(h:Right n s r):uy n Qie:=by
 obtain⟨g1,g2,g3⟩:=g;cases r with
 | out m=>exact⟨g1.sublist List.filter_sublist,λx a=>g2 x (j1.1 a).1,g3⟩
 | GD m=>
  refine⟨akM g1 h.1,λx a=>?_,g3⟩;have:=lg.1 a;obtain h'|h':=hV.1 this
  .exact g2 x h'
  .have:=by simpa using h'
   subst this;exact h.2
 | keep m p q=>exact⟨g1,g2,by show(s.2.1.set _ _).length=n;rw[m4];exact g3⟩
 | put m p q=>exact⟨g1,g2,g3⟩
 | LR w ds=>exact⟨g1,g2,g3⟩
theorem N3{s:nj}(g:uy n s)(h:Right n s r):jX true Qie r=s:=by
 obtain⟨g1,g2,g3⟩:=g;cases r with
 | out m=>exact Prod.ext (ac8 g1 h) rfl
 | GD m=>exact Prod.ext (agj g1 h.1) rfl
 | keep m p q=>exact Prod.ext rfl (Prod.ext (UJ h.1 h.2.1 h.2.2) rfl)
 | put m p q=>exact Prod.ext rfl (Prod.ext rfl (UJ h.1 h.2.1 h.2.2))
 | LR w ds=>rfl
def lJ(n:Nat):List J->nj->Prop
 | [],_=>True
 | r::rs,s=>Right n s r/\lJ n rs Qie
theorem lJ.app{n:Nat}{ys:List J}:∀{xs:List J} {s:nj},lJ n (xs++ys) s↔lJ n xs s/\lJ n ys (xs.foldl Qf0 s)
 | [],s=>⟨λh=>⟨trivial,h⟩,λh=>h.2⟩
 | x::xs,s=>by
  show Right n s x/\lJ n (xs++ys) _↔(Right n s x/\lJ n xs _)/\_;rw[lJ.app,and_assoc];rfl
theorem Fp{n:Nat}:∀{rs:List J} {s:nj},uy n s->lJ n rs s->uy n Qki
 | [],_,g,_=>g
 | r::rs,s,g,h=>Fp (rs:=rs) (zm g h.1) h.2
theorem Ft{n:Nat}(a:n<60):∀{rs:List J} {s:nj},uy n s->lJ n rs s->Fits false rs s
 | [],_,g,_=>by have:=g.len;show _<60;lia
 | _::_,_,g,h=>⟨by have:=g.len;lia,h.1.ok,Ft a (zm g h.1) h.2⟩
theorem akN{s:nj}(h:Right n s r):r.ok Qie:=by
 cases r with
 | out m=>trivial
 | GD m=>trivial
 | keep m p q=>exact⟨h.1,by show m<((s.2.1.set _ _).length);rw[m4];exact h.2.1⟩
 | put m p q=>exact⟨h.1,by show m<((s.2.2.set _ _).length);rw[m4];exact h.2.1⟩
 | LR w ds=>exact h
theorem Fv{n:Nat}(a:n<60):∀{rs:List J} {s:nj},uy n s->lJ n rs s →
  Fits true rs.reverse Qki/\rs.reverse.foldl (jX true) Qki=s
 | [],s,g,_=>⟨by have:=g.len;show s.1.length<60;lia,rfl⟩
 | r::rs,s,g,h=>by
  obtain⟨h1,h2⟩:=Fv a (zm g h.1) h.2;rw[mn,rj,List.foldl_append];refine⟨Fits.app h1 ?_,?_⟩
  .rw[h2];refine⟨by have:=(zm g h.1).len;lia,akN h.1,?_⟩;rw[N3 g h.1];have:=g.len;show _<60;lia
  .rw[h2];exact N3 g h.1
noncomputable def J.JO:J->Bool
 | .put _ _ _=>true
 | _=>false
noncomputable def J.P4:J->Bool
 | .keep _ _ _=>true
 | _=>false
noncomputable def J.comes(back:Bool):J->Bool
 | .out _=>back
 | .GD _=>!back
 | _=>false
def P5{w:Str}(h:w∈Iy):¬ w="put" /\ ¬ w="keep" /\ ¬ w="in" /\ ¬ w="out":=by
 have:∀w∈Iy,¬ w="put" /\ ¬ w="keep" /\ ¬ w="in" /\ ¬ w="out":=by decide +kernel
 exact this w h
theorem RI{s:nj}(h:r.ok s):decide (r.w="put")=r.JO:=by
 cases r with
 | LR w ds=>exact lr (P5 h.1).1
 | _=>first|exact decide_eq_true rfl|(apply decide_eq_false;dsimp [J.w];decide +kernel)
theorem auU{s:nj}(h:r.ok s):decide (r.w="keep")=r.P4:=by
 cases r with
 | LR w ds=>exact lr (P5 h.1).2.1
 | _=>first|exact decide_eq_true rfl|(apply decide_eq_false;dsimp [J.w];decide +kernel)
theorem auV{s:nj}(h:r.ok s)(back:Bool):decide (r.w=(if back then "out" else "in":Str))=r.comes back:=by
 cases r with
 | LR w ds=>cases back<;>first|exact lr (P5 h.1).2.2.1|exact lr (P5 h.1).2.2.2
 | _=>cases back<;>first|exact decide_eq_true rfl|(apply decide_eq_false;dsimp [J.w];decide +kernel)
variable{back:Bool}
theorem akO(h:r.comes back=true)(ops:AT):∃m,r.ds=[.int m]/\N1 back r ops=sortI (ops++[m]):=by
 cases r with
 | out m=>cases back<;>first|exact⟨m,rfl,rfl⟩|cases h
 | GD m=>cases back<;>first|exact⟨m,rfl,rfl⟩|cases h
 | _=>cases h
theorem auW(h:r.comes (!back)=true)(ops:AT):∃m,r.ds=[.int m]/\N1 back r ops=ops.filter QaS:=by
 cases r with
 | out m=>cases back<;>first|exact⟨m,rfl,rfl⟩|cases h
 | GD m=>cases back<;>first|exact⟨m,rfl,rfl⟩|cases h
 | _=>cases h
theorem akP(h1:r.comes back=false)(h2:r.comes (!back)=false)(ops:AT):N1 back r ops=ops:=by
 cases r with
 | out m=>cases back<;>first|(cases h1;done)|(cases h2)
 | GD m=>cases back<;>first|(cases h1;done)|(cases h2)
 | _=>rfl
def RF(r:J):uW (D.str r.w::r.ds) 0=some (.str r.w):=d8 rfl
def agk(back:Bool)(r:J)(l:AT):(F9 back r l).length=l.length:=by
 cases r<;>first|rfl|exact m4
noncomputable def iH(bs nm:BA)(tr:D)(is os ws:BA):D:=.ins "Chart" [("boxes",.lst bs),("names",.lst nm),("tree",tr),("ins",.lst is),("outs",.lst os),("ways",.lst ws)]
section
variable{bs nm is os ws:BA}{tr:D}
def Fw:List.lookup ("boxes":Str) [(("boxes":Str),D.lst bs),("names",.lst nm),("tree",tr),("ins",.lst is),("outs",.lst os),("ways",.lst ws)]=some (.lst bs):=Pn
def Fx:List.lookup ("names":Str) [(("boxes":Str),D.lst bs),("names",.lst nm),("tree",tr),("ins",.lst is),("outs",.lst os),("ways",.lst ws)]=some (.lst nm):=rfl
def fX:List.lookup ("tree":Str) [(("boxes":Str),D.lst bs),("names",.lst nm),("tree",tr),("ins",.lst is),("outs",.lst os),("ways",.lst ws)]=some tr:=rfl
def ac9:List.lookup ("ins":Str) [(("boxes":Str),D.lst bs),("names",.lst nm),("tree",tr),("ins",.lst is),("outs",.lst os),("ways",.lst ws)]=some (.lst is):=rfl
def Xq:List.lookup ("outs":Str) [(("boxes":Str),D.lst bs),("names",.lst nm),("tree",tr),("ins",.lst is),("outs",.lst os),("ways",.lst ws)]=some (.lst os):=rfl
def iY:List.lookup ("ways":Str) [(("boxes":Str),D.lst bs),("names",.lst nm),("tree",tr),("ins",.lst is),("outs",.lst os),("ways",.lst ws)]=some (.lst ws):=rfl
end
noncomputable def IK(bs nm:BA):BN:=[("boxes",.lst (bs.map T.sh)),("names",.lst (nm.map T.sh))]
noncomputable def IL(is os ws:BA):BN:=[("ins",.lst (is.map T.sh)),("outs",.lst (os.map T.sh)),("ways",.lst (ws.map T.sh))]
def DV(bs nm:BA)(t:T)(is os ws:BA):BN:=IK bs nm++(("tree":Str),t)::IL is os ws
def Xr(bs nm:BA)(t:T)(is os ws:BA):T.gW (.ins "Chart" (DV bs nm t is os ws))=iH bs nm t.gW is os ws:=by
 unfold DV IK IL;rw[mi,mi,ri,T.gW,T.xj,T.xj,T.xj,T.xj,T.xj,T.xj,fQ,fQ,fQ,fQ,fQ];rfl
def dF{ds:BA}(h:QbZ):(T.lst Qa7).clean=true:=by
 rw[yX]
 induction ds with
 | nil=>rfl
 | cons d ds a=>
  rw[D.bS,km]at h;rw[kc,T.dP,a h.2,T.clean,h.1];rfl
def P6{bs nm:BA}(h1:D.bS bs=true)(h2:D.bS nm=true):T.f7 (IK bs nm)=true:=by
 unfold IK;rw[T.f7,T.f7,dF h1,dF h2];rfl
def P7{is os ws:BA}(h1:D.bS is=true)(h2:D.bS os=true)(a:D.bS ws=true):T.f7 (IL is os ws)=true:=by
 unfold IL;rw[T.f7,T.f7,T.f7,dF h1,dF h2,dF a];rfl
noncomputable def qi(p:Str×Int):D:=.tup [.str p.1,.int p.2]
def akQ{l:Q1}{f:α->D}{g:D->T}{h:α->T}(e:∀a∈l,g (f a)=h a):T.lst (((l.map f).filter λ_=>true).map g)=T.lst (l.map h):=by
 rw[jF,ia];exact congrArg _ (oo e)
structure bT where
 src:Int
 sign:Str
 asks:BA
 sE:BA
 iq:Int
 mode:Str
def iu(w:bT):D:=.tup [.int w.src,.str w.sign,.tup w.asks,.tup w.sE,.int w.iq,.str w.mode]
noncomputable def w0:bT:=⟨0,Str.empty,[],[],0,Str.empty⟩
def ig(ws:Q3)(i:Int):bT:=ws.getD i.toNat w0
variable{ws:Q3}
theorem sF{i:Int}(h0:0<=i)(h1:i<ws.length):ig ws i∈ws:=by
 unfold ig;simp_all
def jd(ks:At)(es:AT)(w:bT):Int:=PR QaN es w.src w.iq
def L0(es:AT)(u x:Int):Bool:=decide (u=-1) || decide (u∈bN es x)
def IQ:L0 es u x=true↔Cq es u x:=by
 unfold L0 Cq;simp
def Ab(es ops:AT)(u:Int):AT:=(ops.filter (λm=>decide (u=-1) || decide (u∈bN es m))).reverse
def Ap(es:AT)(u v:Int):Prop:=u ≠ -1/\v ≠ -1/\u≠v/\u∉bN es v/\v∉bN es u
theorem Ap.symm{v:Int}(h:Ap es u v):Ap es v u:=⟨h.2.1,h.1,λe=>h.2.2.1 e.symm,h.2.2.2.2,h.2.2.2.1⟩
def N4(b:fD es){v:Int}(x0:0<=x)(a:Qdo)(ap:Ap es u v)(h:Cq es u x):¬ Cq es v x:=λk=>by
 have h:=h.resolve_left ap.1;have k:=k.resolve_left ap.2.1;obtain e|e|e:=vC b x0 a h k
 .exact ap.2.2.1 e
 .exact ap.2.2.2.1 e
 .exact ap.2.2.2.2 e
theorem DW(nd:l.Nodup)(b:∀x∈l,0<=x/\x<n):l.length<=n:=by
 have:=P1 (xS (iW l) ((sortI_perm l).nodup_iff.2 nd)) (λx a=>b x (lg.1 a)) Wp;rw[qE]at this;lia
theorem AY{α:Type}{es:AT}(h:fD es){top:α->Int}{f:α->AT}:∀{gs:Q1},gs.Pairwise (λa c=>Ap es (top a) (top c))->(∀a∈gs,(f a).Nodup/\∀x∈f a,QhB/\Cq es (top a) x) →
  (gs.flatMap f).Nodup/\∀x∈gs.flatMap f,QhB/\∃a∈gs,Cq es (top a) x
 | [],_,_=>⟨Wp,λx b=>by simp at b⟩
 | a::gs,j,hf=>by
  obtain⟨h1,h2⟩:=ll.1 j;obtain⟨i1,i2⟩:=AY h h2 (λc d=>hf c (hX _ d));obtain⟨f1,f2⟩:=hf a Wp;refine⟨ko.2 ⟨f1,i1,λx b y i e=>?_⟩,λx b=>?_⟩
  .subst e;obtain⟨b1,c,d,g⟩:=i2 x i;exact N4 h b1.1 b1.2 (h1 c d) (f2 x b).2 g
  .obtain b|b:=hV.1 b
   .exact⟨(f2 x b).1,a,hU,(f2 x b).2⟩
   .obtain⟨b1,c,d,g⟩:=i2 x b;exact⟨b1,c,hX _ d,g⟩
theorem Xs{isAll:CC}{es ch:AT}(d:fD es):∀(f:Nat) {x y:Int},x<f->x∈fP isAll es ch Q2->y∈bN es x->y∈fP isAll es ch Q2
 | 0,x,y,hf,b,a=>by
  have:=(kF _ b).1;lia
 | f+1,x,y,hf,b,a=>by
  have i:=kF _ b;by_cases g:es.length=0
  .have e:=List.eq_nil_of_length_eq_zero g;subst e;have x0:x=0:=by simpa [fP] using b
   simp[bN,GN]at a;lia
  .obtain⟨k,rfl⟩:∃k:Nat,x=k:=⟨x.toNat,We⟩;have h:k<es.length:=by lia
   have e:=gK d (m:=(k:Int)) We We;rw[jj]at e;have j:=d k h;by_cases hz:es.getD k 0=-1
   .rw[e,hO hz]at a;cases a
   .rw[e,cq hz]at a;have c:es.getD k 0∈fP isAll es ch Q2:=by
     rcases(qh d _ (k:=k) We We).1 b with z|z
     .lia
     .exact z.1
    obtain rfl|a:=hR.1 a
    .exact c
    .exact Xs d f We c a
def Tj(ks:At)(es ss mem:AT)(w:bT):AT:=p0 QaD QU es ss mem (fC w.mode) (iG w.mode) QaT w.iq.toNat
def Goes(ks:At)(es ops:AT)(w:bT):Prop:=(0<=w.iq/\w.iq<es.length)/\(jd ks es w=-1\/(jd ks es w∈bN es w.iq.toNat/\cg ks QaT=true/\jd ks es w∈ops))
variable{ops:AT}
theorem Goes.up{w:bT}(h:Goes ks es ops w):jd ks es w=-1\/jd ks es w∈bN es w.iq.toNat:=h.2.imp id (·.1)
theorem Y2(b:Qg8){w:bT}(h:Goes ks es ops w):(Tj ks es ss mem w).Nodup/\∀x∈Tj ks es ss mem w,QhB/\Cq es QaT x:=by
 have a:w.iq.toNat<es.length:=by have:=h.1;lia
 refine⟨DU b a h.up,λx c=>?_⟩;have hi:=(GQ b a h.up x).1 c;exact⟨NY b a hi,Cr b a h.up hi⟩
theorem UH{ks:At}{es ss mem:AT}(h:IE QaD QaN QU es)(b:Qg8)(n:0<es.length):∀{gs:Q3} {ch:AT},ch.length=es.length->F8 QaN es ch->gs.Pairwise Qim →
  (∀w∈gs,Goes ks es QaB w) →
  ∃f:AT,f.length=es.length/\F8 QaN es f/\(fP QU es f Q2).Perm ((fP QU es ch Q2).filter Qgv++gs.flatMap Qc8)
 | [],ch,g,d,_,_=>⟨ch,g,d,by simp[jF]⟩
 | w::gs,ch,g,d,o,i=>by
  obtain⟨h1,h2⟩:=ll.1 o;have e:=i w hU;have m:w.iq.toNat<es.length:=by have:=e.1;lia
  obtain⟨r,l1,k1,p1,_⟩:=Hq (far:=fC w.mode) (near:=iG w.mode) h d b m e.2;have g1:∀v∈gs,Goes ks es (fP QU es r Q2) v:=λv hv=>by
   have j:=i v (hX _ hv);refine⟨j.1,j.2.imp id λz=>⟨z.1,z.2.1,p1.mem_iff.2 (ik _ (j1.2 ⟨z.2.2,?_⟩))⟩⟩;have ap:=h1 v hv;have e1:¬ (jd ks es w=-1\/jd ks es w∈bN es (jd ks es v)):=λq=>q.elim ap.1 ap.2.2.2.1;simp_all
  obtain⟨p,l2,k2,p2⟩:=UH h b n l1 k1 h2 g1;refine⟨p,l2,k2,p2.trans ?_⟩;have k:=(p1.filter Qgv).append_right (gs.flatMap Qc8);refine k.trans ?_;rw[nv,List.filter_filter,sT,← hZ];have e1:(p0 QaD QU es ss mem (fC w.mode) (iG w.mode) QaT w.iq.toNat).filter Qgv=Tj ks es ss mem w:=by
   refine KU.2 λx l=>?_;obtain⟨b1,b2⟩:=(Y2 b e).2 x l;rw[KI,List.any_eq_false];intro v hv q;exact N4 b.pre.1 b1.1 b1.2 (h1 v hv) b2 (IQ.1 q)
  have e2:(fP QU es ch Q2).filter (λa=>(!(gs.any λw=>L0 es QaT a)) && !(decide (jd ks es w=-1) || decide (jd ks es w∈bN es a)))=(fP QU es ch Q2).filter (λx=>!((w::gs).any λw=>L0 es QaT x)):=by
   refine List.filter_congr λx _=>?_;show((!(gs.any λw=>L0 es QaT x)) && !(L0 es QaT x))=_;rw[p7,Bool.not_or,Bool.and_comm]
  rw[e1,e2]
def kY(ks:At)(es ops:AT)(gs:Q3):AT:=(sortI (gs.flatMap λw=>Ab es ops QaT)).reverse
noncomputable def N5(h:l.Nodup):l.reverse.Nodup:=List.pairwise_reverse.2 (h.imp λh e=>h e.symm)
def xT:x∈Ab es ops u↔x∈ops/\Cq es u x:=by
 unfold Ab Cq;simp
variable{gs:Q3}
def zo:x∈kY ks es ops gs↔x∈ops/\∃w∈gs,Cq es QaT x:=by
 unfold kY;rw[y4,lg,l5];constructor
 .rintro⟨w,hw,a⟩;exact⟨(xT.1 a).1,w,hw,(xT.1 a).2⟩
 .rintro⟨a,w,hw,b⟩;exact⟨w,hw,xT.2 ⟨a,b⟩⟩
def UK(d:fD es)(e:ops.Pairwise (· < ·))(f:∀x∈ops,0<=x/\x<es.length)(g:QhR) :
  (gs.flatMap λw=>Ab es ops QaT).Nodup/\(gs.flatMap λw=>Ab es ops QaT).length<=es.length:=by
 have h:=AY d g (λw _=>⟨by
  exact N5 ((IJ e).filter _),λx b=>⟨f x (xT.1 b).1,(xT.1 b).2⟩⟩)
 exact⟨h.1,DW h.1 λx b=>(h.2 x b).1⟩
def DX(b:fD es)(d:ops.Pairwise (· < ·))(e:∀x∈ops,0<=x/\x<es.length)(f:QhR):(kY ks es ops gs).Nodup/\(kY ks es ops gs).length<=es.length:=by
 obtain⟨h1,h2⟩:=UK b d e f;unfold kY;exact⟨N5 ((sortI_perm _).nodup_iff.2 h1),by rw[rF,qE];exact h2⟩
def DY{a c:AT}(h:a.Perm c):sortI a=sortI c:=uq ((sortI_perm a).trans h) (iW a)
def zY(ks:At)(es ss mem:AT)(gs:Q3):AT:=sortI (gs.flatMap Qc8)
def IU(b:Qg8)(f:QhR)(e:∀w∈gs,Goes ks es ops w) :
  (gs.flatMap Qc8).Nodup/\(gs.flatMap Qc8).length<=es.length/\∀x∈gs.flatMap Qc8,QhB/\∃w∈gs,Cq es QaT x:=by
 have h:=AY b.pre.1 f (λw hw=>Y2 b (e w hw));exact⟨h.1,DW h.1 λx d=>(h.2 x d).1,h.2⟩
def xn(ks:At)(es ss mem ops:AT)(gs:Q3):AT:=sortI (ops.filter (λx=>!decide (x∈kY ks es ops gs))++zY ks es ss mem gs)
theorem IV(j:IE QaD QaN QU es)(m:Qg8)(h:0<es.length)(i:QhG)(l:Qia)
  (n:QhR) (k:∀w∈gs,Goes ks es QaB w) :
  ∃d:AT,d.length=es.length/\F8 QaN es d/\xn ks es ss mem QaB gs=fP QU es d Q2/\((fP QU es ch Q2).filter Qk9++zY ks es ss mem gs).length<=es.length:=by
 obtain⟨f,l2,k2,p2⟩:=UH j m h i l n k;have e1:(fP QU es ch Q2).filter Qk9=(fP QU es ch Q2).filter Qgv:=by
  refine List.filter_congr λx g=>?_;congr 1;rw[y3,decide_eq_true_iff,zo,List.any_eq_true];constructor
  .rintro⟨_,w,hw,b⟩;exact⟨w,hw,IQ.2 b⟩
  .rintro⟨w,hw,b⟩;exact⟨g,w,hw,IQ.1 b⟩
 have e:((fP _ es ch _).filter _++zY ks es ss _ gs).Perm _:=e1▸(mD _ (sortI_perm _)).trans p2.symm;refine⟨f,l2,k2,?_,?_⟩
 .unfold xn;exact DY e▸xO (N2 (gO _))
 .rw[e.length_eq];have:=GO (isAll:=ao ks) (es:=es) (ch:=f) Q2;lia
def qj(ws:Q3)(i:Int):Bool:=!decide ((ig ws i).iq=-1)
def lB(ws:Q3)(some:AT):List bT:=(some.filter QcL).map QbE
theorem sX{β:Type}{f:α->List β}(l:Q1)(j:Nat):((l.take j).flatMap f).length<=(l.flatMap f).length:=by
 have h2:=GI j l
 conv=>rhs;rw[← h2]
 rw[y6,j2];lia
theorem DZ{α:Type}{f:α->AT}:∀l:List α,(l.flatMap λa=>sortI (f a)).Perm (l.flatMap f)
 | []=>.refl _
 | a::l=>(sortI_perm _).append (DZ l)
def ze(n:Nat)(w:bT):Prop:=(0<=w.src/\w.src<n)/\(w.iq=-1\/(0<=w.iq/\w.iq<n))/\vH w.mode/\w.sE.length<=2/\D.bS w.sE=true/\D.bS w.asks=true
def N6(es:AT)(m:Int)(w:bT):Bool:=(!decide (w.mode="new")&&decide (w.iq=m)) || (decide (w.mode="far")&&(decide (w.iq=-1) || decide (w.iq∈bN es m)))
def jY(ks:At)(es:AT)(ws:Q3)(m:Int):Bool:=cg ks m&&ws.any (N6 es m)
abbrev _root_.EQ:=List BA
noncomputable def inR(is:EQ)(a:AT):BA:=a.flatMap λm=>D.tup [.str "in",.int m]::is.getD m.toNat []
def vI(is:EQ):Prop:=∀l∈is,l.length<=2/\D.bS l=true
noncomputable def L4(jn:CC)(os:EQ)(mem bh gone:AT):BA:=gone.flatMap λm=>D.tup [.str "out",.int m]::(Qkr++os.getD m.toNat [])
def L5(ws:Q3)(some:AT):BA:=some.flatMap λi=>D.tup [.str "way",.int i]::(ig ws i).sE
theorem vI.get{is:EQ}(h:vI is)(k:Nat):(is.getD k []).length<=2/\D.bS (is.getD k [])=true:=by
 by_cases a:k<is.length
 .rw[kf,kA a];exact h _ Wp
 .rw[kf,tj We];exact⟨Wp,rfl⟩
theorem zq{α β:Type}{f:α->List β}{c:Nat}:∀l:List α,(∀a∈l,(f a).length<=c)->(l.flatMap f).length<=c*l.length
 | [],_=>by simp
 | a::l,h=>by
  have h1:=h a hU;have h2:=zq l (λb d=>h b (hX _ d));rw[sT,j2,k8];lia
def D0{f:α->BA}{l:Q1}(h:∀a∈l,D.bS (f a)=true):D.bS (l.flatMap f)=true:=jr λd hd=>by
 obtain⟨a,b,hd⟩:=l5.1 hd;exact jG (h a b) d hd
def UL{a c:BA}(h1:D.bS a=true)(h2:D.bS c=true):D.bS (a++c)=true:=jr λd hd=>(hV.1 hd).elim (jG h1 d) (jG h2 d)
variable{os:EQ}
theorem P8{jn:CC}{bh:AT}(h:vI os)(gone:AT):(L4 jn os mem bh gone).length<=4*gone.length/\D.bS (L4 jn os mem bh gone)=true:=by
 refine⟨zq _ λm _=>?_,D0 λm _=>?_⟩
 .have:=(h.get m.toNat).1;have h1:(if jn m=true then [D.tup [.str "keep",.int m,.int Qht,.int Qfs]] else []).length<=1:=by split<;>simp
  rw[k8,j2];lia
 .refine UL ?_ (h.get _).2;split<;>rfl
theorem IW{is:EQ}(h:vI is)(a:AT):(inR is a).length<=3*a.length/\D.bS (inR is a)=true:=by
 refine⟨zq _ λm _=>?_,D0 λm _=>?_⟩
 .have:=(h.get m.toNat).1;simp_all
 .exact(h.get _).2
theorem P9{some:AT}(h:∀i∈some,ze n QbQ):(L5 ws some).length<=3*some.length/\D.bS (L5 ws some)=true:=by
 refine⟨zq _ λm hm=>?_,D0 λm hm=>?_⟩
 .have:=(h m hm).2.2.2.1;simp;lia
 .exact(h m hm).2.2.2.2.1
def adb(jn:CC)(os:EQ)(mem bh gone:AT)(m:Int):L4 jn os mem bh (gone++[m])=L4 jn os mem bh gone++(D.tup [.str "out",.int m]::(Qkr++os.getD m.toNat [])):=by
 unfold L4;simp
def ade(ws:Q3)(some:AT)(i:Int):L5 ws (some++[i])=L5 ws some++(D.tup [.str "way",.int i]::(ig ws i).sE):=by
 unfold L5;simp
def agm(is:EQ)(a:AT)(m:Int):inR is (a++[m])=inR is a++(D.tup [.str "in",.int m]::is.getD m.toNat []):=by
 unfold inR;simp
def Qa(ks:At)(es:AT)(ws:Q3)(mem ops:AT)(gs:Q3):AT:=Xl QaN es ((kY ks es ops gs).filter Qcf) mem ops
def Xu(ks:At)(es ss:AT)(is os:EQ)(ws:Q3)(mem ops some:AT):BA:=
 L4 Qcf os mem Qjg (kY ks es ops QaU)++L5 ws some++inR is (zY ks es ss Qjg QaU)
def IX(ks:At)(es mem:AT):Prop:=mem.length=es.length/\∀k:Nat,k<es.length->cg ks k=true->mem.getD k 0=-1\/mem.getD k 0∈gX es k
structure lK(ks:At)(es ss:AT)(is os:EQ)(ws:Q3):Prop where
 n0:0<es.length
 n1:es.length<=40
 kl:ks.length=es.length
 sl:ss.length=es.length
 il:is.length=es.length
 ol:os.length=es.length
 kd:IE QaD QaN QU es
 pre:oA es
 st:F8 QaN es ss
 ir:vI is
 or:vI os
 wo:∀w∈ws,ze es.length w
 wl:ws.length<=8
structure sY(ks:At)(es:AT)(ws:Q3)(ops some:AT):Prop where
 i:∀i∈some,QeD/\(ig ws i).src∈ops
 l:some.length<=8
 ap:(lB ws some).Pairwise Qim
section
variable{is:EQ}{some:AT}
theorem lK.tree(h:QdI)(hm:IX ks es mem):dR QaD QU es ss mem:=⟨h.pre,(λk a e=>by
  obtain⟨_,_,_,z⟩|⟨z,_⟩|⟨z,_⟩:=h.kd k a
  .exact z
  .rw[z]at e;cases e
  simp_all),λk a e1 e2=>by
  obtain⟨z,_⟩|⟨_,z,_⟩|⟨_,_,z⟩:=h.kd k a
  .rw[z]at e1;cases e1
  .exact⟨h.st k a z,hm.2 k a z⟩
  simp_all⟩
theorem lK.kinds(h:QdI):∀k:Nat,k<es.length->aY ks k=true\/ao ks k=true\/ks.getD k Str.empty="one":=λk a=>by
 obtain⟨z,_⟩|⟨_,z,_⟩|⟨_,_,z⟩:=h.kd k a
 .exact .inl z
 .refine .inr (.inr ?_);have:=i5 z;assumption
 .exact .inr QcQ
theorem Ct(b:0<es.length)(a:x∈fP QU es ch Q2):0<=x/\x<es.length:=by
 have:=kF _ a;lia
def aqf{w:bT}(hw:w∈lB ws some):∃i∈some,w=ig ws i/\w.iq ≠ -1:=by
 obtain⟨i,hi,rfl⟩:=ip.1 hw;obtain⟨h1,h2⟩:=j1.1 hi;refine⟨i,h1,rfl,?_⟩;unfold qj at h2;simpa using h2
theorem sY.q7(h:QdI)(hs:sY ks es ws QaB some):∀w∈lB ws some,Goes ks es QaB w:=λw hw=>by
 obtain⟨i,hi,rfl,d⟩:=aqf hw;obtain⟨⟨c,i1⟩,b⟩:=hs.i i hi;have w3:=h.wo _ (sF c i1);have a:=w3.2.1.resolve_left d;refine⟨a,?_⟩;have e:((ig ws i).iq.toNat)=(ig ws i).iq:=by lia
 obtain z|z:=aky h.pre.1 w3.1.1 w3.1.2
 .exact .inl z.1
 .refine .inr ⟨ e▸z.2.1,z.2.2.1,?_⟩;exact Xs h.pre.1 ((ig ws i).src.toNat+1) We b z.1
theorem sY.w3(h:QdI)(hs:sY ks es ws ops some):∀i∈some,ze es.length QbQ:=λi hi=>h.wo _ QiR
def NU(h:QdI)(d:Qia)(a:QhG)(hm:mem.length=es.length)(gs:Q3):Qa ks es ws mem QaB gs=x2 QaN ch mem ((kY ks es QaB gs).filter Qcf):=by
 refine ac6 h.pre.1 rfl h.n0 hm a (λk c e=>d k c ?_) (λx b=>(zo.1 (j1.1 b).1).1);exact kx e
def JJ(h:QdI)(c:Qia)(d:QhG)(hm:IX ks es mem)(gs:Q3):IX ks es (Qa ks es ws mem QaB gs):=by
 rw[NU h c d hm.1];refine⟨by rw[Iz];exact hm.1,λk a b=>?_⟩;rw[Ci _ _ (λe he=>?_) k (hm.1▸a)]
 .split
  .exact .inr (c k a b)
  .exact hm.2 k a b
 .exact hm.1▸Ct h.n0 (zo.1 (j1.1 he).1).1
end
def UM{p:α->Bool}{l:Q1}{j:Nat}{x:α}(h:l[j]? = some x)(a:p x=true):l.any p=true:=List.any_eq_true.2 ⟨x,l7 h,a⟩
theorem any_none{p:α->Bool}{l:Q1}(h:∀(j:Nat) (x:α),l[j]? = some x->p x=false):l.any p=false:=by
 rw[List.any_eq_false];intro x a;obtain⟨j,b,e⟩:=List.getElem_of_mem a;rw[h j x W7];decide
noncomputable def qW(a mo:Int)(bs:AT):Int:=if a=-1 then mo else bs.getD a.toNat 0+mo
inductive cU where
 | put (x b m:Int)
 | call (s:Str)
 | say (s:Str) (b m:Int)
noncomputable def cU.w:cU->Str
 | .put _ _ _=>"put"
 | .call _=>"call"
 | .say _ _ _=>"say"
noncomputable def cU.ds:cU->BA
 | .put x b m=>[.int x,.tup [.int b,.int m]]
 | .call s=>[.str s]
 | .say s b m=>[.str s,.tup [.int b,.int m]]
def cU.d(q:cU):D:=.tup (.str q.w::q.ds)
def w8(bs:AT)(b:Int):Prop:=b=-1\/(0<=b/\b<bs.length)
def cU.ok(bs:AT):cU->Prop
 | .put x b _=>(0<=x/\x<bs.length)/\w8 bs b
 | .call _=>True
 | .say _ b _=>w8 bs b
def cU.row(bs:AT):cU->J
 | .put x b m=>.put x (bs.getD x.toNat 0) (qW b m bs)
 | .call s=>.LR "call" [.str s]
 | .say s b m=>.LR "say" [.str s,.int (qW b m bs)]
theorem N7{s:nj}{q:cU}(h:q.ok s.2.2):Right n s (q.row s.2.2):=by
 cases q with
 | put x b m=>exact⟨h.1.1,h.1.2,rfl⟩
 | call s=>exact⟨Wg,Wp,λd hd=>by simp at hd;exact .inr ⟨_,hd⟩⟩
 | say s b m=>exact⟨Wg,by show 2<=3;decide,λd hd=>by
   simp at hd;obtain e|e:=hd
   .exact .inr ⟨_,e⟩
   .exact .inl ⟨_,e⟩⟩
variable{bs:AT}
def aqg{q:cU}(h:q.ok bs):∃o m,(q.row bs).ok (o,m,bs):=⟨[],[],(N7 (n:=0) (s:=([],[],bs)) h).ok⟩
def GR(bs:AT)(q:cU):(q.row bs).d.u9=true:=by cases q<;>rfl
def uz(q:cU):q.d.u9=true:=by cases q<;>rfl
def aft(bs:AT)(q:cU):AT:=F9 false (q.row bs) bs
def Qc(bs:AT)(q:cU):(aft bs q).length=bs.length:=agk ..
theorem IY(a:List cU):∀bs:AT,(a.foldl aft bs).length=bs.length:=by
 induction a with
 | nil=>intro bs;rfl
 | cons q a b=>intro bs;rw[rj,b,Qc]
def uA:List cU->AT->List J
 | [],_=>[]
 | q::a,bs=>q.row bs::uA a (aft bs q)
noncomputable def N8:cU->Option Str
 | .call s=>some s
 | _=>none
def xU(a:List cU):At:=a.filterMap N8
theorem ago(a:List cU)(q:cU):∀bs:AT,uA (a++[q]) bs=uA a bs++[q.row (a.foldl aft bs)]:=by
 induction a with
 | nil=>intro bs;rfl
 | cons p a b=>intro bs;rw[mi,uA,b,uA,rj,mi]
theorem agp(a:List cU):∀bs:AT,(uA a bs).length=a.length:=by
 induction a with
 | nil=>intro bs;rfl
 | cons p a b=>intro bs;rw[uA,k8,b,k8]
theorem Qd{b2:AT}(h:b2.length=bs.length)(q:cU)(a:q.ok bs):q.ok b2:=by
 cases q with
 | put x b m=>
  have a:=a;show(0<=x/\x<b2.length)/\w8 b2 b;unfold w8 at a ⊢;rw[h];exact a
 | call s=>trivial
 | say s b m=>
  have a:=a;show w8 b2 b;unfold w8 at a ⊢;rw[h];exact a
def nu{l:Q1}{j:Nat}{x:α}(h:l[j]? = some x):l.take QP=l.take j++[x]:=by rw[rr,h];rfl
inductive It where
 | out (m:Int)|keep (m p q:Int)|way (i:Int)|GD (m:Int)|lM (q:cU)
def It.sj:It->J
 | .out m=>.out m
 | .keep m p q=>.keep m p q
 | .way i=>.LR "way" [.int i]
 | .GD m=>.GD m
 | .lM q=>.LR q.w q.ds
def It.d(x:It):D:=x.sj.d
def It.j(bs:AT):It->J
 | .lM q=>q.row bs
 | x=>x.sj
def It.ok(bs:AT):It->Prop
 | .lM q=>q.ok bs
 | _=>True
def It.af(bs:AT):It->AT
 | .lM q=>aft bs q
 | _=>bs
def It.call:It->Option Str
 | .lM q=>N8 q
 | _=>none
noncomputable def It.told:It->Bool
 | .lM _=>true
 | _=>false
noncomputable def It.num:It->CU
 | .way i=>some i
 | _=>none
noncomputable def Qe:At:=["out","keep","way","in"]
theorem akR(x:It):decide (x.sj.w∈Qe)=!x.told:=by
 cases x with
 | lM q=>
  cases q with
  | put x b m=>rfl
  | call s=>rfl
  | say s b m=>rfl
 | out m=>rfl
 | keep m p q=>rfl
 | way i=>rfl
 | GD m=>rfl
theorem Qf(x:It):x.d.u9=true:=by
 cases x with
 | lM q=>exact uz q
 | _=>rfl
theorem agq(bs:AT)(x:It):(x.j bs).d.u9=true:=by
 cases x with
 | lM q=>exact GR bs q
 | _=>rfl
theorem adf(bs:AT)(x:It):(x.af bs).length=bs.length:=by
 cases x with
 | lM q=>exact Qc bs q
 | _=>rfl
abbrev _root_.Ee:=List It
theorem vJ(xs:Ee):∀bs:AT,(xs.foldl It.af bs).length=bs.length:=by
 induction xs with
 | nil=>intro bs;rfl
 | cons x xs a=>intro bs;rw[rj,a,adf]
def D3:Ee->AT->List J
 | [],_=>[]
 | x::xs,bs=>x.j bs::D3 xs (x.af bs)
def dG(xs:Ee):At:=xs.filterMap It.call
theorem akS(xs:Ee)(ys:Ee):∀bs:AT,D3 (xs++ys) bs=D3 xs bs++D3 ys (xs.foldl It.af bs):=by
 induction xs with
 | nil=>intro bs;rfl
 | cons p xs a=>intro bs;rw[mi,D3,a,D3,rj,mi]
theorem Cu(xs:Ee):∀bs:AT,(D3 xs bs).length=xs.length:=by
 induction xs with
 | nil=>intro bs;rfl
 | cons p xs a=>intro bs;rw[D3,k8,a,k8]
theorem Qg(xs:Ee):∀bs:AT,D.bS ((D3 xs bs).map J.d)=true:=by
 induction xs with
 | nil=>intro bs;rfl
 | cons x xs a=>intro bs;rw[D3,kc,D.bS,agq,a];rfl
theorem adg(a:List cU):∀bs:AT,D.bS ((uA a bs).map J.d)=true:=by
 induction a with
 | nil=>intro bs;rfl
 | cons q a b=>intro bs;rw[uA,kc,D.bS,GR,b];rfl
def UN(xs:Ee)(x:It):dG (xs++[x])=dG xs++x.call.toList:=by
 unfold dG;simp;congr 1
theorem akT{b2:AT}(h:b2.length=bs.length)(x:It)(a:x.ok bs):x.ok b2:=by
 cases x with
 | lM q=>exact Qd h q a
 | _=>trivial
theorem IZ:∀{ds:BA},D.bS ds=true->T.dP Qa7=true
 | [],_=>rfl
 | d::ds,h=>by simp_all [D.bS,T.dP,IZ,T.clean]
def ayX(l1 l2 a:BA):(T.tup [.lst (l1.map T.sh),.lst (l2.map T.sh),.lst (a.map T.sh)]).gW=.tup [.lst l1,.lst l2,.lst a]:=by simp[T.gW,T.iD,kC]
theorem Qh{l1 l2 a:BA}(h1:D.bS l1=true)(h2:D.bS l2=true)(b:D.bS a=true):(T.tup [.lst (l1.map T.sh),.lst (l2.map T.sh),.lst (a.map T.sh)]).clean=true:=by simp_all [T.clean,T.dP,IZ]
def Xv(bs a:AT)(q:cU):(T.tup [.lst ((a.map D.int).map T.sh),.sh (q.row bs).d]).clean=true:=by
 rw[T.clean,T.dP,T.dP,T.clean,T.clean,sC,GR];rfl
def Um{d:D}{ds:BA}:uW (d::ds) 0=some d:=d8 rfl
inductive Go(n:Nat):Ee->nj->nj->Prop
 | nil {s:nj}:Go n [] s s
 | cons {x:It} {xs:Ee} {s s':nj}:Right n s (x.j s.2.2)->Go n xs (jX false s (x.j s.2.2)) s'->Go n (x::xs) s s'
theorem agr(s:nj)(x:It):(jX false s (x.j s.2.2)).2.2=x.af s.2.2:=by
 cases x with
 | lM q=>rfl
 | _=>rfl
variable{xs:Ee}
theorem Go.app{ys:Ee}{s t u:nj}(h:Go n xs s t)(k:Go n ys t u):Go n (xs++ys) s u:=by
 induction h with
 | nil=>exact k
 | cons r _ a=>exact .cons r (a k)
theorem Go.is{s t:nj}(h:Go n xs s t):lJ n (D3 xs s.2.2) s/\(D3 xs s.2.2).foldl Qf0 s=t/\t.2.2=xs.foldl It.af s.2.2:=by
 induction h with
 | nil=>exact⟨trivial,rfl,rfl⟩
 | @cons x xs s s' r _ a=>
  rw[agr]at a;exact⟨⟨r,a.1⟩,a.2.1,a.2.2⟩
theorem UO{n:Nat}:∀(a:List cU) (s:nj),(∀q∈a,q.ok s.2.2)->Go n (a.map It.lM) s (s.1,s.2.1,a.foldl aft s.2.2)
 | [],_,_=>.nil
 | q::a,s,h=>by
  refine .cons (N7 (h q hU)) ?_;have e:jX false s ((It.lM q).j s.2.2)=(s.1,s.2.1,aft s.2.2 q):=by cases q<;>rfl
  exact e▸UO a _ λp b=>Qd (Qc ..) p (h p (hX _ b))
def iZ(nb:Nat)(l:BA):Prop:=∃a:List cU,l=a.map cU.d/\∀bs:AT,bs.length=nb->∀q∈a,q.ok bs
variable{nb:Nat}
theorem iZ.nil:iZ nb []:=⟨[],rfl,Wp ⟩
variable{is:EQ}
theorem iZ.get(h:∀l∈is,iZ nb l)(k:Nat):iZ nb (is.getD k []):=by
 by_cases a:k<is.length
 .rw[kf,kA a];exact h _ Wp
 .rw[kf,tj We];exact .nil
def adh(a:List cU):a.map cU.d=(a.map It.lM).map It.d:=by rw[ia];rfl
def jv(n:Nat)(l:BA)(ns:AT)(s t:nj):Prop:=∃xs:Ee,l=xs.map It.d/\xs.filterMap It.num=ns/\(∀bs:AT,bs.length=s.2.2.length->∀x∈xs,x.ok bs)/\Go n xs s t/\t.2.2.length=s.2.2.length
theorem jv.nil{s:nj}:jv n [] [] s s:=⟨[],rfl,rfl,Wp,.nil,rfl⟩
theorem jv.app{l m:BA}{ns ms:AT}{s t u:nj}(h:jv n l ns s t)(k:jv n m ms t u):jv n (l++m) (ns++ms) s u:=by
 obtain⟨xs,rfl,rfl,d,f,ex⟩:=h;obtain⟨ys,rfl,rfl,c,e,g⟩:=k;refine⟨ _,Wp,Wp,λbs b x a=>?_,f.app e,g.trans ex⟩;obtain a|a:=hV.1 a
 .exact d bs b x a
 .exact c bs (b.trans ex.symm) x a
theorem N9:∀a:List cU,(a.map It.lM).filterMap It.num=[]
 | []=>rfl
 | _::a=>N9 a
theorem jv.sE{l:BA}{s:nj}(h:iZ nb l)(c:s.2.2.length=nb):∃a,a.length=nb/\jv n l [] s (s.1,s.2.1,a):=by
 obtain⟨b,rfl,d⟩:=h;refine⟨ _,(IY ..).trans c,_,adh b,N9 b,λbs f x e=>?_,UO b s (d _ c),IY ..⟩;obtain⟨q,h1,rfl⟩:=ip.1 e;exact d bs Qch q h1
theorem jv.one{s:nj}(x:It)(a:x.told=false)(r:Right n s x.sj):jv n [x.d] x.num.toList s (jX false s x.sj):=by
 have e:x.j s.2.2=x.sj:=by cases x<;>first|rfl|cases a
 refine⟨[x],rfl,rfl,λbs _ y b=>?_,.cons (e▸r) (e ▸ .nil),?_⟩
 .cases i4.1 b;cases x<;>first|trivial|cases a
 .cases x<;>first|rfl|cases a
noncomputable def pZ(jn:CC)(bh mem:AT)(m:Int):AT:=if jn m=true then mem.set m.toNat Qfs else mem
def D4(jn:CC)(bh mem:AT)(m:Int):(pZ jn bh mem m).length=mem.length:=by
 unfold pZ;split
 .exact m4
 .rfl
def UQ(jn:CC)(bh mem:AT)(h:m.toNat≠k.toNat):(pZ jn bh mem m).getD k.toNat 0=mem.getD k.toNat 0:=by
 unfold pZ;split
 .rw[kf,yn h,← kf]
 .rfl
theorem D5(jn:CC)(bh:AT):∀(gone mem:AT),(gone.foldl (pZ jn bh) mem).length=mem.length
 | [],_=>rfl
 | m::gone,mem=>by simp[D5,D4]
theorem UR(jn:CC)(bh:AT):∀(gone mem:AT) (k:Nat),(∀m∈gone,0<=m)->k<mem.length->(gone.foldl (pZ jn bh) mem).getD k 0=if (k:Int)∈gone/\jn k=true then bh.getD k 0 else mem.getD k 0
 | [],mem,k,_,_=>rfl
 | m::gone,mem,k,h0,d=>by
  rw[rj,UR _ bh _ _ k (λx c=>h0 x (hX _ c)) (by simp_all [D4])];have hm:=h0 m Wp;by_cases e:k=m
  .subst e;by_cases a:jn k=true
   .rw[hO (⟨ Wp,a⟩:(k:Int)∈(k:Int)::gone/\jn k=true)];split
    .rfl
    .unfold pZ;simp_all
   .rw[cq (λz=>a z.2),cq (λz=>a z.2)];unfold pZ;rw[cq a]
  .have b:m.toNat≠((k:Int)).toNat:=by lia
   have:=UQ jn bh mem b;simp_all
theorem Oa{n nb:Nat}{jn:CC}{os:EQ}{mem bh:AT}(i:∀l∈os,iZ nb l):∀(gone:AT) (s:nj),s.2.2.length=nb->gone.Nodup->(∀m∈gone,m∈s.1/\0<=m/\m<s.2.1.length/\s.2.1.getD m.toNat 0=mem.getD m.toNat 0) →
  ∃a:AT,a.length=nb/\jv n (L4 jn os mem bh gone) [] s (s.1.filter (λx=>!decide (x∈gone)),gone.foldl (pZ jn bh) s.2.1,a)
 | [],s,g,_,_=>⟨s.2.2,g,by
   have e:s.1.filter (λx=>!decide (x∈([]:AT)))=s.1:=KU.2 λx _=>by simp
   rw[e];exact .nil⟩
 | m::gone,s,g,nd,hm=>by
  obtain⟨n1,o⟩:=ma.1 nd;obtain⟨m1,m2,q,p⟩:=hm m hU;have l1:jv n [(It.out m).d] [] s _:=jv.one (.out m) rfl m1;have l2:jv n (if jn m=true then [(It.keep m Qht Qfs).d] else []) [] (s.1.filter QaS,s.2.1,s.2.2) (s.1.filter QaS,pZ jn bh s.2.1 m,s.2.2):=by
   unfold pZ;by_cases b:jn m=true
   .rw[hO b,hO b];exact jv.one (.keep m _ _) rfl ⟨m2,q,p⟩
   .rw[cq b,cq b];exact .nil
  obtain⟨b1,f,t⟩:=jv.sE (n:=n) (s:=(s.1.filter QaS,pZ jn bh s.2.1 m,s.2.2)) (iZ.get i m.toNat) g;obtain⟨b2,c,r⟩:=Oa (n:=n) (jn:=jn) (mem:=mem) (bh:=bh) i gone (s.1.filter QaS,pZ jn bh s.2.1 m,b1) f o (λk h=>by
   obtain⟨k1,k2,v,u⟩:=hm k (hX _ h);have j:k≠m:=λe=>n1 (e▸h);refine⟨j1.2 ⟨k1,by simp[j]⟩,k2,by rw[D4];exact v,?_⟩;rw[← u];exact UQ _ _ _ We)
  refine⟨b2,c,?_⟩;have w:(s.1.filter QaS).filter (λx=>!decide (x∈gone))=s.1.filter (λx=>!decide (x∈m::gone)):=by
   rw[List.filter_filter];refine List.filter_congr λx _=>?_;rw[y3];simp;exact⟨λz=>⟨z.2,z.1⟩,λz=>⟨z.2,z.1⟩⟩
  have:=(l1.app (l2.app t)).app r;rw[w]at this;exact this
theorem Ob{n nb:Nat}{ws:Q3}:∀(a:AT) (s:nj),s.2.2.length=nb->(∀i∈a,iZ nb (ig ws i).sE)->∃b:AT,b.length=nb/\jv n (L5 ws a) a s (s.1,s.2.1,b)
 | [],s,f,_=>⟨ _,f,.nil⟩
 | i::a,s,f,hw=>by
  have l1:jv n _ _ s s:=jv.one (.way i) rfl ⟨Wg,Wp,λd hd=>by simp at hd;exact .inl ⟨_,hd⟩⟩;obtain⟨b1,e,l2⟩:=jv.sE (hw i hU) f;obtain⟨b2,c,g⟩:=Ob a (s.1,s.2.1,b1) e λk h=>hw k (hX _ h);exact⟨b2,c,(l1.app l2).app g⟩
theorem I0{n nb:Nat}{is:EQ}(g:∀l∈is,iZ nb l):∀(a:AT) (s:nj),s.2.2.length=nb->s.1.Pairwise (· <= ·)->(s.1++a).Nodup->(∀m∈a,0<=m/\m<n) →
  ∃b:AT,b.length=nb/\jv n (inR is a) [] s (sortI (s.1++a),s.2.1,b)
 | [],s,f,hs,_,_=>⟨ _,f,by
   rw[iz,xO hs];exact .nil⟩
 | m::a,s,f,hs,nd,hm=>by
  have c:=λh=>(ko.1 nd).2.2 m h m Wp rfl;have l1:=jv.one (.GD m) rfl ⟨c,hm m Wp ⟩;obtain⟨b1,e,l2⟩:=jv.sE (s:=(sortI _,s.2.1,s.2.2)) (iZ.get g _) f;have pm:(sortI (s.1++[m])++a).Perm (s.1++m::a):=by
   apply((sortI_perm _).append_right _).trans;simp
  obtain⟨b2,d,i⟩:=I0 g _ (sortI _,s.2.1,b1) e (iW _) QjR λk j=>hm k (hX _ j);refine⟨b2,d,?_⟩;have:=(l1.app l2).app i;rw[DY pm]at this;exact this
section
variable{some:AT}
theorem Xw{t:AT}(b:QdI)(o:Qia)(j:QhG)(hm:IX ks es mem)(hs:sY ks es ws QaB some)(B:t.length=nb)
  (E:∀l∈is,iZ nb l) (D:∀l∈os,iZ nb l) (C:∀w∈ws,iZ nb w.sE) :
  ∃g:AT,g.length=nb/\jv es.length (Xu ks es ss is os ws mem QaB some) some (fP QU es ch Q2,mem,t) (xn ks es ss (Qa ks es ws mem QaB QaU) QaB QaU,Qa ks es ws mem QaB QaU,g):=by
 have h:∀x∈fP QU es ch Q2,0<=x/\x<es.length:=λx k=>Ct b.n0 k;have c:=gO (isAll:=ao ks) (es:=es) (ch:=ch) Q2;obtain⟨g1,g2⟩:=DX (ks:=ks) (gs:=lB ws some) b.pre.1 c h hs.ap;have d:=JJ b o j hm QaU;have f:=b.tree d;have p:=NU b o j hm.1 QaU;obtain⟨I,H,F⟩:=IU f hs.ap (hs.q7 b);obtain⟨G,_,_,e1,_⟩:=IV b.kd f b.n0 j o hs.ap (hs.q7 b);have v:=(oB (gO (isAll:=ao ks) (es:=es) (ch:=G) Q2));rw[← e1]at v;have a:∀x∈kY ks es QaB QaU,x∈fP QU es ch Q2:=λx k=>(zo.1 k).1;generalize fP QU es ch Q2=ops at *;have J:=d.1;have K:=hm.1;have u:(kY ks es ops QaU).foldl (pZ Qcf Qjg) mem=Qa ks es ws mem ops QaU:=by
  apply UE
  .rw[D5];lia
  .intro i hi;rw[D5]at hi;rw[UR _ _ _ _ _ (λm hm=>(h m (a m hm)).1) hi];split
   .rfl
   .rename_i A;rw[p,Ci _ _ (λe he=>by have:=h e (a e (j1.1 he).1);lia) i hi];rw[cq λz=>A ⟨(j1.1 z.1).1,(j1.1 z.1).2⟩]
 unfold Xu;unfold xn at v ⊢;generalize Qa ks es ws mem ops QaU=bh at *;obtain⟨b1,s,l1⟩:=Oa (n:=es.length) (jn:=jY ks es ws) (mem:=mem) (bh:=bh) D (kY ks es ops QaU) (ops,mem,t) B g1 (λm hm=>⟨a m hm,(h m (a m hm)).1,by have:=(h m (a m hm)).2;show m<((mem.length:Nat):Int);lia,rfl⟩);obtain⟨b2,r,l2⟩:=Ob (n:=es.length) (ws:=ws) some (ops.filter Qk6,(kY ks es ops QaU).foldl (pZ Qcf bh) mem,b1) s λi hi=>C _ QiR;obtain⟨b3,q,y⟩:=I0 (n:=es.length) E (zY ks es ss bh QaU) (ops.filter Qk6,(kY ks es ops QaU).foldl (pZ Qcf bh) mem,b2) r (N2 (c.sublist List.filter_sublist)) ((sortI_perm _).nodup_iff.1 v) λm hm=>(F m (lg.1 hm)).1;refine⟨b3,q,?_⟩;have:=(l1.app l2).app y;rw[u,iz]at this;exact this
end
def agt(n:Nat):(List.replicate n [D.int (-1)]).flatten=(List.replicate n (-1:Int)).map D.int:=by simp
noncomputable def cR(ns:AT)(k:Int):Int:=if k<ns.length then ns.getD k.toNat 0 else 0
noncomputable def w6:At:=["out","put","say","shut","then","to"]
def j8(l:AT):AG 60 Qii:=.lst λd hd=>by
 obtain⟨i,_,rfl⟩:=ip.1 hd;exact .int _ _
def Xx(mk:Str)(i j:Int):Bool:=if mk="<" then decide (i<j) else if mk="<=" then decide (i<=j) else if mk="=" then decide (i=j) else !decide (i=j)
inductive xo where
 | Ja (op:Bool) (m:Int)
 | num (mk:Str) (b1 m1 b2 m2:Int)
def qX:xo->D
 | .Ja op m=>.tup [.str (if op then "open" else "shut"),.int m]
 | .num mk b1 m1 b2 m2=>.tup [.str mk,.tup [.int b1,.int m1],.tup [.int b2,.int m2]]
noncomputable def Qi:At:=["<","<=","=","!="]
def xo.Ok(n:Nat)(bs:AT):xo->Prop
 | .Ja _ m=>0<=m/\m<n
 | .num mk b1 _ b2 _=>mk∈Qi/\(b1=-1\/(0<=b1/\b1<bs.length))/\(b2=-1\/(0<=b2/\b2<bs.length))
def Jb(a:xo):(qX a).u9=true:=by cases a<;>rfl
def Oc(es:AT)(t u:Int):Bool:=decide (t=u) || (decide (t=-1) || decide (u=-1)) || (decide (u∈bN es t) || decide (t∈bN es u))
variable{c:Int}
theorem agu{a:Int}:PR bY es a c=-1\/PR bY es a c∈bN es a:=by
 unfold PR;cases e:(bN es a).find? _ with
 | none=>exact .inl rfl
 | some x=>exact .inr (List.mem_of_find?_eq_some e)
def Md(ks:At)(es:AT)(w v:bT):Bool:=(!decide (w.iq=-1) && !decide (v.iq=-1))&&Oc es QaT (jd ks es v)
def auZ(w v:bT):Md ks es w v=Md ks es v w:=by
 unfold Md Oc;simp[Bool.and_comm (!decide (w.iq=-1))];have e1:decide (jd ks es w=jd ks es v)=decide (jd ks es v=jd ks es w):=by simp[eq_comm]
 rw[e1,Bool.or_comm (decide (jd ks es w=-1)),Bool.or_comm (decide (jd ks es v∈bN es _))]
noncomputable def aCy:D->Int
 | .tup (_::_::_::_::.int t::_)=>t
 | _=>0
noncomputable def D6(ln:AT)(y:Int):Nat:=ln.findIdx (λz=>decide (z=y))
variable{ln:AT}
noncomputable def Y1(h:y∈ln):D6 ln y<ln.length:=List.findIdx_lt_length_of_exists ⟨y,h,Wp⟩
def Qj(h:y∈ln):ln[D6 ln y]? = some y:=by
 have a:=Y1 h;have:=List.findIdx_getElem (w:=a);exact kA a▸congrArg _ (i5 this)
def aqi{i:Nat}(h:i<D6 ln y):ln[i]? ≠ some y:=λe=>by
 have:=List.not_of_lt_findIdx h;rw[(l4.1 e).2]at this;simp at this
def akV(nd:ln.Nodup){i:Nat}(a:y∈ln):D6 ln y=i↔ln[i]? = some y:=by
 constructor
 .rintro rfl;exact Qj a
 .intro e;have h1:=Qj a;have b:=Y1 a;have hi:=(l4.1 e).1;rw[kA b]at h1;rw[kA hi]at e;have c:=(k4 h1).trans (k4 e).symm;have np:=List.pairwise_iff_getElem.1 nd;obtain z|z|z:=Nat.lt_trichotomy _ i
  .exact absurd c (np _ _ b hi z)
  .exact z
  .exact absurd c.symm (np _ _ hi b z)
noncomputable def xm(ops:AT):D->Bool
 | .tup [.str k,.int m]=>if k="open" then decide (m∈ops) else if k="shut" then !decide (m∈ops) else true
 | _=>true
def Od(ops:AT)(l:BA):Bool:=l.all (xm ops)
def xo.Mo:xo->Prop
 | .Ja _ _=>True
 | .num mk _ _ _ _=>mk∈Qi
theorem xo.Ok.mk{a:xo}(h:a.Ok n bs):a.Mo:=by
 cases a with
 | Ja op m=>trivial
 | num mk b1 m1 b2 m2=>exact h.1
def akW{mk:Str}(h:mk∈Qi):mk≠"open" /\ mk≠"shut":=by
 have:∀x∈Qi,x≠"open" /\ x≠"shut":=by decide +kernel
 exact this mk h
def agw(ops:AT)(op:Bool)(m:Int):xm ops (qX (.Ja op m))=if op then decide (m∈ops) else !decide (m∈ops):=by
 cases op
 .rfl
 rfl
def u4(ops:AT)(sg:Str)(ln:AT)(w:bT):Bool:=decide (w.sign=sg)&&(decide (w.src∈ln)&&Od ops w.asks)
def sq(ws:Q3)(ops:AT)(sg:Str)(ln:AT)(n:Nat):Cc:=(List.range n).filter λk=>u4 ops sg ln (ws.getD k w0)
def xf(ws:Q3)(ops:AT)(sg:Str)(ln:AT):AT:=e9 (λk:Int=>(D6 ln (ws.getD k.toNat w0).src:Int)) ((sq ws ops sg ln ws.length).map λ(k:Nat)=>(k:Int))
def aaP(ws:Q3)(ops:AT)(sg:Str)(ln:AT)(n:Nat):(sq ws ops sg ln n).length<=n:=by
 have:=qr (λk=>u4 ops sg ln (ws.getD k w0)) (List.range n);rw[ov]at this;exact this
def agx(ws:Q3)(ops:AT)(sg:Str)(ln:AT)(n:Nat):sq ws ops sg ln (n+1)=sq ws ops sg ln n++(if u4 ops sg ln (ws.getD n w0)=true then [n] else []):=by
 unfold sq;rw[FV,nv,List.filter_cons,vx]
def YU(ws:Q3):Prop:=∀w∈ws,∃l:List xo,w.asks=l.map qX/\∀a∈l,a.Mo
abbrev Ask:=Str×Int×Int×Int×Int
noncomputable def EY(q:Ask):D:=.tup [.str q.1,.tup [.int q.2.1,.int q.2.2.1],.tup [.int q.2.2.2.1,.int q.2.2.2.2]]
def Pf(bs:AT)(q:Ask):Prop:=(q.2.1=-1\/(0<=q.2.1/\q.2.1<bs.length))/\(q.2.2.2.1=-1\/(0<=q.2.2.2.1/\q.2.2.2.1<bs.length))
def hQ(bs:AT)(q:Ask):Bool:=Xx q.1 (qW q.2.1 q.2.2.1 bs) (qW q.2.2.2.1 q.2.2.2.2 bs)
def Mn(l:BA):BA:=l.filter λd=>!decide (d.o1.toS∈(["open","shut"]:At))
def EZ:xo->List Ask
 | .Ja _ _=>[]
 | .num mk b1 m1 b2 m2=>[(mk,b1,m1,b2,m2)]
theorem akX{l:List xo}(h:∀a∈l,a.Ok n bs):Mn (l.map qX)=(l.flatMap EZ).map EY:=by
 unfold Mn
 induction l with
 | nil=>rfl
 | cons a l b=>
  have b:=b λq c=>h q (hX _ c);have d:=h a hU;rw[kc,sT,js,← b];cases a with
  | Ja op m=>
   rw[G1]
   .rfl
   .show ¬ (!decide ((if op=true then("open":Str) else "shut")∈(["open","shut"]:At)))=true;grind
  | num mk b1 m1 b2 m2=>
   rw[vu]
   .rfl
   .have:∀x∈Qi,(!decide (x∈(["open","shut"]:At)))=true:=by decide +kernel
    exact this mk d.1
theorem akY{l:List xo}(h:∀a∈l,a.Ok n bs):∀q∈l.flatMap EZ,Pf bs q:=λq b=>by
 obtain⟨a,d,b⟩:=l5.1 b;have c:=h a d;cases a with
 | Ja op m=>cases b
 | num mk b1 m1 b2 m2=>
  exact i4.1 b▸c.2
def hD(vs:AT):D->Bool
 | .tup [.str mk,.tup [.int b1,.int m1],.tup [.int b2,.int m2]]=>Xx mk (qW b1 m1 vs) (qW b2 m2 vs)
 | _=>true
def zr(vs:AT)(w:bT):Bool:=w.asks.all (hD vs)
variable{vs:AT}
theorem aqm{l:List xo}(h:∀a∈l,a.Ok n bs):(l.map qX).all (hD vs)=(l.flatMap EZ).all (hQ vs):=by
 induction l with
 | nil=>rfl
 | cons a l b=>
  have b:=b λq c=>h q (hX _ c);rw[kc,vw,sT,List.all_append];congr 1;cases a with
  | Ja op m=>rfl
  | num mk b1 m1 b2 m2=>exact(y8 _).symm
def GU(n:Nat)(bs:AT)(ws:Q3):Prop:=∀w∈ws,∃l:List xo,w.asks=l.map qX/\l.length<=2/\∀a∈l,a.Ok n bs
theorem GU.ok(h:GU n bs ws):YU ws:=λw hw=>by
 obtain⟨l,e,_,b⟩:=h w hw;exact⟨l,e,λa c=>(b a c).mk⟩
noncomputable def L6(l:AT)(s:Int):AT:=if s∈l then l else l++[s]
noncomputable def oD(l:AT):List (Key×D):=l.map λs=>((Sum.inl s:Key),D.bl true)
theorem akZ(l:AT)(s:Int):((oD l).any λa=>decide (a.1=Sum.inl s))=decide (s∈l):=by
 unfold oD
 induction l with
 | nil=>rfl
 | cons y l b=>
  by_cases h:y=s
  .subst h;simp
  .have h':¬ s=y:=λe=>h e.symm;simp_all
def ak0(l:AT)(s:Int):NK (oD l) (.inl s) Qbj=oD (L6 l s):=by
 unfold NK;rw[akZ];unfold L6;by_cases h:s∈l
 .rw[hO (kx h),hO h];unfold oD;rw[ia];refine oo λy _=>?_;simp
 .rw[if_neg (by simpa using h),if_neg h];unfold oD;rw[js];rfl
def agC(l:AT):((oD l).map (·.1)).map x1=l.map D.int:=by
 unfold oD;rw[ia,ia];rfl
def agD(l:AT)(s:Int):(L6 l s).length<=l.length+1:=by
 unfold L6;split<;>simp
def HD(ws:Q3)(ops vs:AT)(sg:Str)(es:AT)(leaf:Int):AT:=(xf ws ops sg (leaf::bN es leaf)).filter λk=>zr vs (ws.getD k.toNat w0)
def pE(ws:Q3)(ops vs:AT)(sg:Str)(es:AT)(acc:AT)(leaf:Int):AT:=match HD ws ops vs sg es leaf with
 | []=>acc
 | k::_=>L6 acc k
noncomputable def RS(ks:At)(x:Int):Bool:=decide (ks.getD x.toNat Str.empty="leaf")
def nk(ks:At)(ops:AT):AT:=ops.filter (RS ks)
def Tp(ws:Q3)(ops vs:AT)(sg:Str)(es:AT)(l:AT):AT:=l.foldl Qhu []
theorem ak1(ws:Q3)(ops vs:AT)(sg:Str)(es:AT)(acc:AT)(leaf:Int):(pE ws ops vs sg es acc leaf).length<=acc.length+1:=by
 unfold pE;split
 .lia
 .exact agD _ _
theorem aaQ(ws:Q3)(ops vs:AT)(sg:Str)(es:AT):∀l:AT,(Tp ws ops vs sg es l).length<=l.length:=by
 have gen:∀(l acc:List _),(l.foldl Qhu acc).length<=acc.length+l.length:=by
  intro l
  induction l with
  | nil=>simp
  | cons y l a=>
   intro acc;have h1:=ak1 ws ops vs sg es acc y;have:=a (pE ws ops vs sg es acc y);simp;lia
 intro l;have:=gen l [];simpa [Tp] using this
def agE(ws:Q3)(ops vs:AT)(sg:Str)(es:AT)(l:AT)(x:Int):Tp ws ops vs sg es (l++[x])=pE ws ops vs sg es (Tp ws ops vs sg es l) x:=by simp[Tp]
variable{sg:Str}
theorem Qk(h:k∈xf ws ops sg ln):0<=k/\k<ws.length:=by
 obtain⟨i,hi,rfl⟩:=ip.1 (nh.1 h);have:=ml.1 (j1.1 hi).1;lia
variable{j:Nat}
def adl{p:α->Bool}{l:Q1}{x:α}(h:l[j]? = some x)(b:p x=true)(c:∀y∈l.take j,p y=false):∃r,l.filter p=x::r:=by
 have d:=(l4.1 h).1;have e:=by
  have h2:=GI j l;rw[LA d,(l4.1 h).2]at h2;exact h2.symm
 refine⟨(l.drop QP).filter p,?_⟩
 conv=>lhs;rw[e]
 rw[nv,List.filter_eq_nil_iff.2 (λy a=>by rw[c y a];decide),vu b];rfl
noncomputable def nq(h:CC)(tp:Qfd)(tm:QfO)(s:AT×AT)(k:Int):AT×AT:=
 if h k=true then(if s.2.any (tm (tp k))=true then s else(s.1++[k],s.2++[tp k])) else(s.1++[k],s.2)
structure LS(h:CC)(tp:Qfd)(tm:QfO)(R:QhU)(P:AT)(s:AT×AT):Prop where
 sub:s.1.Sublist P
 Cv:s.2=(s.1.filter h).map tp
 apart:∀a∈s.1,∀b∈s.1,a≠b->h a=true->h b=true->tm (tp a) (tp b)=false
 over:∀x∈P,x∉s.1->h x=true/\∃y∈s.1,R y x/\h y=true/\tm (tp x) (tp y)=true
theorem T2{h:CC}{tp:Qfd}{tm:QfO}{R:QhU}(r:∀a b,tm a b=tm b a):∀(l P:AT) (s:AT×AT),(P++l).Nodup->(P++l).Pairwise R->LS h tp tm R P s->LS h tp tm R (P++l) (l.foldl (nq h tp tm) s)
 | [],P,s,_,_,I=>by rw[iz];exact I
 | x::l,P,s,nd,pr,I=>by
  have e:P++x::l=(P++[x])++l:=by simp
  rw[e]at nd pr ⊢;rw[rj];refine T2 r l (P++[x]) _ nd pr ?_;have nx:x∉P:=λc=>by
   have:=(ko.1 (ko.1 nd).1).2.2 x c x Wp;exact this rfl
  have u:∀y∈P,R y x:=λy g=>(yl.1 (yl.1 pr).1).2.2 y g x Wp;have v:x∉s.1:=λc=>nx (I.sub.subset c);have keep:(∀z∈s.1,h x=true->h z=true->tm (tp x) (tp z)=false)->(h x=true->(s.1++[x],s.2++[tp x])=(s.1++[x],((s.1++[x]).filter h).map tp))->∀t,t=((s.1++[x]).filter h).map tp->LS h tp tm R (P++[x]) (s.1++[x],t):=λhz _ t o=>by
   refine⟨I.sub.append (my _),o,λa d b f ne n m=>?_,λy g p=>?_⟩
   .obtain d|d:=hV.1 d
    .obtain f|f:=hV.1 f
     .exact I.apart a d b f ne n m
     .rw[i4.1 f]at m ⊢;rw[r];exact hz a d m n
    .rw[i4.1 d]at n ne ⊢;obtain f|f:=hV.1 f
     .exact hz b f n m
     .exact absurd (i4.1 f).symm ne
   .have j:y∉s.1/\y≠x:=⟨λz=>p (ik _ z),λz=>p (h5 _ (by rw[z];simp))⟩;obtain g|g:=hV.1 g
    .obtain⟨h1,z,hz,h2⟩:=I.over y g j.1;exact⟨h1,z,ik _ hz,h2⟩
    .exact absurd (i4.1 g) j.2
  unfold nq;by_cases c:h x=true
  .rw[hO c];by_cases d:s.2.any (tm (tp x))=true
   .rw[hO d];obtain⟨t,o,hm⟩:=List.any_eq_true.1 d;rw[I.Cv]at o;obtain⟨y,g,rfl⟩:=ip.1 o;obtain⟨i,q⟩:=j1.1 g;refine⟨I.sub.trans (OF _ _),I.Cv,I.apart,λz hz p=>?_⟩;obtain hz|hz:=hV.1 hz
    .exact I.over z hz p
    .rw[i4.1 hz];exact⟨c,y,i,u y (I.sub.subset i),q,hm⟩
   .rw[cq d];refine keep (λz hz _ k=>?_) (λ_=>by rw[nv,vu c];simp[I.Cv]) _ ?_
    .cases e:tm (tp x) (tp z) with
     | false=>rfl
     | true=>exact absurd (List.any_eq_true.2 ⟨tp z,by rw[I.Cv];exact ip.2 ⟨z,j1.2 ⟨hz,k⟩,rfl⟩,e⟩) d
    .rw[nv,vu c];simp[I.Cv]
  .rw[cq c];refine keep (λz hz k _=>absurd k c) (λk=>absurd k c) _ ?_;rw[nv,G1 c];simp[I.Cv]
theorem UT{g:Qfd}(nd:l.Nodup):(e9 g l).Pairwise λa c=>g a<g c\/(g a=g c/\D6 l a<D6 l c):=by
 have f:l=(List.range _).map _:=v3 λi=>by
  simp;by_cases hi:i<l.length
  .rw[o4 hi];show _=some (l.getD i 0);rw[kf,kA hi];rfl
  .rw[tj We,tj W7];rfl
 have b:=λi hi=>by
  have e:l[i]? = some (l.getD i 0):=by rw[kf,kA hi];rfl
  exact(akV nd (l7 e)).2 e
 have h1:e9 g l=(e9 (λi=>g (l.getD i 0)) (List.range l.length)).map λi=>l.getD i 0:=by
  conv=>lhs;rw[f]
  exact qG _ _
 rw[h1];refine List.pairwise_map.2 ((DM Lq).imp_of_mem λ{i j} hi d h=>?_);have hi:=ml.1 (nh.1 hi);have d:=ml.1 (nh.1 d);rw[b i hi,b j d];exact h
def agF(es:AT)(t u:Int):Oc es t u=Oc es u t:=by
 unfold Oc;have e1:decide (t=u)=decide (u=t):=by simp[eq_comm]
 rw[e1,Bool.or_comm (decide (t=-1)),Bool.or_comm (decide (u∈bN es t))]
def Jc(es:AT)(ws:Q3)(k:Int):Int:=-((bN es (ig ws k).src).length:Nat)
def n6(ks:At)(es:AT)(ws:Q3)(l:AT):AT×AT:=l.foldl Qg0 ([],[])
def agG(ks:At)(es:AT)(ws:Q3)(l:AT)(k:Int):n6 ks es ws (l++[k])=nq QcL Qgj (Oc es) (n6 ks es ws l) k:=by
 unfold n6;simp
theorem ak2{h:CC}{tp:Qfd}{tm:QfO}(s:AT×AT)(k:Int):(nq h tp tm s k).1.length<=s.1.length+1/\(nq h tp tm s k).2.length<=s.2.length+1:=by
 unfold nq;split
 .split
  .lia
  .simp
 .simp
theorem aaR(ks:At)(es:AT)(ws:Q3):∀l:AT,(n6 ks es ws l).1.length<=l.length/\(n6 ks es ws l).2.length<=l.length:=by
 have gen:∀(l:List _) (s:List _×List _),(l.foldl Qg0 s).1.length<=s.1.length+l.length/\(l.foldl Qg0 s).2.length<=s.2.length+l.length:=by
  intro l
  induction l with
  | nil=>simp
  | cons k l a=>
   intro s;have h1:=ak2 (h:=qj ws) (tp:=λk=>jd ks es QdY) (tm:=Oc es) s k;have h2:=a (nq QcL Qgj (Oc es) s k);simp;lia
 intro l;have:=gen l ([],[]);simpa [n6] using this
def ak3{row:AT}(nd:row.Nodup) :
  LS QcL Qgj (Oc es) (λa c=>Jc es ws a<Jc es ws c\/(Jc es ws a=Jc es ws c/\D6 row a<D6 row c)) QfV (n6 ks es ws QfV):=by
 have:=T2 (h:=qj ws) (tp:=λk=>jd ks es QdY) (R:=λa c=>Jc es ws a<Jc es ws c\/(Jc es ws a=Jc es ws c/\D6 row a<D6 row c)) (agF es) QfV [] ([],[]) (by rw[ri];exact(jI row).nodup_iff.2 nd) (by rw[ri];exact UT nd) ⟨.slnil,rfl,λa d=>(by cases d),λx b=>(by cases b)⟩;rw[ri]at this;exact this
def T1(ks:At)(es:AT)(ws:Q3)(row:AT):AT:=sortI (n6 ks es ws QfV).1
def z6(ws:Q3)(ops vs:AT)(sg:Str)(es l:AT):AT:=l.flatMap λleaf=>(HD ws ops vs sg es leaf).take 1
def agH:x∈L6 l s↔x∈l\/x=s:=by
 unfold L6;split
 .constructor
  .exact .inl
  .rintro(h|rfl)
   .exact h
   .assumption
 .rw[hV,i4]
def Xy(h:l.Nodup):(L6 l s).Nodup:=by
 unfold L6;split
 .exact h
 .rename_i c;exact ko.2 ⟨h,Wp,λa f b d e=>c (by rw[← i4.1 d,← e];exact f)⟩
theorem GV(ws:Q3)(ops vs:AT)(sg:Str)(es:AT):∀(l acc:AT),acc.Nodup->(l.foldl Qhu acc).Nodup/\∀x,x∈l.foldl Qhu acc↔x∈acc\/x∈z6 ws ops vs sg es l
 | [],acc,h=>⟨h,λx=>⟨.inl,λz=>by
   obtain z|z:=z
   .exact z
   .cases z⟩⟩
 | y::l,acc,h=>by
  simp;have e:z6 ws _ vs sg es (y::l)=(HD ws ops vs sg es y).take 1++z6 ws _ vs sg es l:=rfl;rw[e];unfold pE;generalize HD ws _ vs sg es y=f;cases f with
  | nil=>
   obtain⟨a,c⟩:=GV ws _ vs sg es l _ h;exact⟨a,‹_› ⟩
  | cons k f=>
   obtain⟨a,c⟩:=GV ws _ vs sg es l _ (Xy h);refine⟨a,λx=>(c x).trans ?_⟩;rw[agH,List.take_succ_cons,List.take_zero,hV,i4,or_assoc]
noncomputable def agI(ws:Q3)(ops vs:AT)(sg:Str)(es l:AT):(Tp ws ops vs sg es l).Nodup:=(GV ws _ vs sg es l [] Wp).1
theorem agJ:x∈Tp ws ops vs sg es l↔x∈z6 ws ops vs sg es l:=by
 have:=(GV ws ops vs sg es l [] Wp).2 x;unfold Tp;simp_all
structure RO(ws:Q3)(ops vs:AT)(sg:Str)(es:AT)(k:Int):Prop where
 k0:0<=k
 k1:k<ws.length
 sign:(ig ws k).sign=sg
 src:(ig ws k).src∈ops
 fit:Od ops (ig ws k).asks=true
 hold:zr vs QdY=true
theorem TZ{es ops:AT}(c:fD es)(up:∀x∈ops,x=0\/es.getD x.toNat 0∈ops)(d:∀x∈ops,0<=x/\x<es.length):∀(n:Nat) {x y:Int},x<n->x∈ops->y∈bN es x->y∈ops
 | 0,x,y,f,b,_=>absurd (d x b).1 We
 | n+1,x,y,f,b,a=>by
  obtain⟨x0,e⟩:=d x b;rw[gK c x0 e]at a;split at a
  .cases a
  .have g:=c.at x0 e;have he:=(up x b).resolve_left λz=>by subst z;lia
   obtain rfl|a:=hR.1 a
   .exact he
   .exact TZ c up d n We he a
theorem au5(f:fD es)(up:∀x∈ops,x=0\/es.getD x.toNat 0∈ops)(e:∀x∈ops,0<=x/\x<es.length)(c:∀x∈l,x∈ops)(h:k∈z6 ws ops vs sg es l):RO ws ops vs sg es k:=by
 obtain⟨leaf,hm,a⟩:=l5.1 h;have a:=tf a;obtain⟨d,g⟩:=j1.1 a;obtain⟨k0,k1⟩:=Qk d;obtain⟨i,hi,rfl⟩:=ip.1 (nh.1 d);have b:=(j1.1 hi).2;unfold u4 at b;rw[km,km]at b;obtain⟨g1,g2,g3⟩:=b;refine⟨k0,k1,i5 g1,?_,g3,g⟩;obtain z|z:=hR.1 (i5 g2)
 .show(ws.getD i w0).src∈ops;rw[z];simp_all
 .obtain⟨j,l1⟩:=e _ (c _ hm);exact TZ f up e es.length We (c _ hm) z
noncomputable def UU(cd pl:D)(pa:BA)(bs:AT)(ex:BN):BN:=("chart",.sh cd)::("place",.sh pl)::("past",.lst (pa.map T.sh))::("boxes",.sh Qew)::ex
noncomputable def vK(cd pl:D)(pa:BA)(bs:AT)(ex:EN):EN:=("chart",cd)::("place",pl)::("past",.lst pa)::("boxes",.lst Qb7)::ex
noncomputable def Lv:ES->BN
 | none=>[]
 | some r=>[("first_rows",.lst (r.map T.sh))]
noncomputable def Wi:ES->EN
 | none=>[]
 | some r=>[("first_rows",.lst r)]
variable{cd pl:D}{pa:BA}{ex:EN}{eo:ES}{m:Str}
def D7:List.lookup ("chart":Str) QhC=some cd:=Pn
def uB:List.lookup ("place":Str) QhC=some pl:=rfl
def agK:List.lookup ("past":Str) QhC=some (.lst pa):=rfl
def D8:List.lookup ("boxes":Str) QhC=some Qew:=rfl
def ado{r:BA}:List.lookup ("first_rows":Str) (vK cd pl pa bs QeT)=some (.lst r):=rfl
theorem Ql(h1:QjG)(h2:QjH)(c:QjO)(b:QjI)(a:Qjc):(vK cd pl pa bs (Wi eo)).lookup m=none:=by
 unfold vK;rw[iV h1,iV h2,iV c,iV b];cases eo with
 | none=>rfl
 | some r=>
  unfold Wi;rw[iV a];rfl
theorem ak4(h1:QjG)(h2:QjH)(c:QjO)(b:QjI)(a:Qjc):(UU cd pl pa bs QbV).lookup m=none:=by
 unfold UU;rw[iV h1,iV h2,iV c,iV b];cases eo with
 | none=>rfl
 | some r=>
  unfold Lv;rw[iV a];rfl
theorem agL(cd pl:D)(pa:BA)(bs:AT)(eo:ES):(UU cd pl pa bs QbV).length<1000:=by
 cases eo with
 | none=>exact h7 rfl
 | some r=>exact h7 rfl
noncomputable def kZ(cd pl:D)(pt:Bn)(bs:AT)(ex:BN):BN:=("chart",.sh cd)::("place",.sh pl)::("past",.lst pt)::("boxes",.sh Qew)::ex
abbrev Pl:=AT×AT
noncomputable def GX(p:Pl):D:=.tup [.lst (p.1.map .int),.lst (p.2.map .int)]
abbrev Xz:=Pl×AT×BA
def sG(l:Qb2):Bn:=l.map λq=>.tup [.sh (GX q.1),.sh (.lst Qh4),.lst (q.2.2.map T.sh)]
variable{p:D}{pt:Bn}{et:BN}{y:Addr}
theorem UW:T.gW Qlq=.ins "NestRun" (vK cd pl (T.iD pt) bs (Wi eo)):=by
 cases eo with
 | none=>
  rfl
 | some r=>
  unfold kZ vK Lv Wi;rw[T.gW,T.xj,T.xj,T.xj,T.xj,T.xj,T.xj,T.gW,T.gW,T.gW,T.gW,fQ]
def Oe:T.gW (.pin y Qlq)=.ins "NestRun" (vK cd pl (T.iD pt) bs (Wi eo)):=by
 rw[T.gW,UW]
theorem aaS(h1:QjG)(h2:QjH)(c:QjO)(b:QjI)(a:Qjc):(kZ cd pl pt bs QbV).lookup m=none:=by
 unfold kZ;rw[iV h1,iV h2,iV c,iV b];cases eo with
 | none=>rfl
 | some r=>
  unfold Lv;rw[iV a];rfl
def XA:List.lookup ("place":Str) Qer=some (.sh pl):=rfl
def Og:List.lookup ("past":Str) Qer=some (.lst pt):=rfl
def XC:List.lookup ("boxes":Str) Qer=some Qdk:=rfl
def XD:sU "place" (.sh p) Qer=kZ cd p pt bs et:=rfl
def XE{b2:AT}:sU "boxes" (.sh (.lst (b2.map .int))) Qer=kZ cd pl pt b2 et:=rfl
def XF:T.sV [.fld "place"] QgH=some (.sh pl):=rfl
def XG:T.sV [.fld "boxes"] QgH=some Qdk:=rfl
def Oh:T.sV [.fld "past"] QgH=some (.lst pt):=rfl
def XH{t2:Bn}:T.DN [.fld "past"] (.lst t2) QgH=.pin y (.ins "NestRun" (kZ cd pl t2 bs et)):=rfl
def Oi{a b t:T}:T.PJ [.fld "past",.ix pt.length,.ix 2] (.pin y (.ins "NestRun" QiM))=some t:=by
 show(List.lookup ("past":Str) QiM).bind (T.PJ [.ix pt.length,.ix 2])=_;rw[Og];show((pt++[T.tup [a,b,t]])[pt.length]?).bind (T.PJ [.ix 2])=_;rw[LB (hW _),Nat.sub_self];rfl
def adp{a b t u:T}:T.Xh [.fld "past",.ix pt.length,.ix 2] u (.pin y (.ins "NestRun" QiM))=.pin y (.ins "NestRun" (kZ cd pl (pt++[T.tup [a,b,u]]) bs et)):=by
 have e2:T.Tg (.ix pt.length) (.lst (pt++[T.tup [a,b,t]]))=some (.tup [a,b,t]):=by
  show(pt++[T.tup _])[pt.length]? = _;rw[LB Wp,Nat.sub_self];rfl
 show T.pin y _=_;rw[T.Xh,show T.core Qdz=.lst _ from rfl,e2];show T.pin y (.ins _ (sU _ Qdz _))=_;rw[List.set_append_right _ _ (hW _),Nat.sub_self];rfl
theorem UX(cd pl:D)(pt:Bn)(bs:AT)(eo:ES):(kZ cd pl pt bs QbV).length<1000:=by
 cases eo with
 | none=>exact h7 rfl
 | some r=>exact h7 rfl
def XI(l:Qb2)(q:Xz):sG (l++[q])=sG l++[.tup [.sh (GX q.1),.sh (.lst Qh4),.lst (q.2.2.map T.sh)]]:=by
 unfold sG;rw[js];rfl
def at4:D->D
 | .tup (_::_::_::d::_)=>d
 | _=>.non
def B0:D->D
 | .tup (_::_::d::_)=>d
 | _=>.non
def UY(d:D):It:=if d.o1.toS="out" then .out d.at2.ug else if d.o1.toS="keep" then .keep d.at2.ug (B0 d).ug (at4 d).ug else if d.o1.toS="way" then .way d.at2.ug else if d.o1.toS="in" then .GD d.at2.ug
 else if d.o1.toS="put" then .lM (.put d.at2.ug (B0 d).o1.ug (B0 d).at2.ug) else if d.o1.toS="call" then .lM (.call d.at2.toS) else .lM (.say d.at2.toS (B0 d).o1.ug (B0 d).at2.ug)
theorem XJ(x:It):UY x.d=x:=by
 cases x with
 | out m=>rfl
 | keep m p q=>rfl
 | way i=>rfl
 | GD m=>rfl
 | lM q=>
  cases q with
  | put i a c=>rfl
  | call s=>rfl
  | say s a c=>rfl
def pO(m:Nat)(a:Int):Prop:=a=-1\/(0<=a/\a<(m:Int))
def pf(m:Nat):It->Prop
 | .lM (.put i a _)=>(0<=i/\i<(m:Int))/\pO m a
 | .lM (.say s a _)=>PyData.strOk s=true/\pO m a
 | .lM (.call s)=>PyData.strOk s=true
 | _=>True
theorem XM{m:Nat}{x:It}(h:pf m x)(b:bs.length=m):x.ok bs:=by
 subst b;cases x with
 | lM q=>
  cases q with
  | put i a c=>exact h
  | say s a c=>exact h.2
  | call s=>trivial
 | _=>trivial
def qT(m:Nat)(d:D):Prop:=∃q:cU,d=q.d/\pf m (.lM q)
def OT(m:Nat)(d:D):Prop:=∃x:It,d=x.d/\pf m x
theorem qT.it{m:Nat}{d:D}(h:qT m d):OT m d:=by
 obtain⟨q,rfl,a⟩:=h;exact⟨ _,rfl,a⟩
def agN{m:Nat}{l:BA}(h:∀d∈l,OT m d):(l.map UY).map It.d=l/\∀x∈l.map UY,pf m x:=by
 refine⟨?_,λx a=>?_⟩
 .simp;refine(oo λd hd=>?_).trans (List.map_id _);obtain⟨x,rfl,_⟩:=h d hd;show(UY _).d=x.d;rw[XJ]
 .obtain⟨d,hd,rfl⟩:=ip.1 a;obtain⟨x,rfl,g⟩:=h d hd;rw[XJ];exact g
theorem Qm{P:D->Prop}{l:EQ}(h:∀a∈l,∀d∈a,P d)(k:Nat):∀d∈l.getD k [],P d:=λd hd=>by
 simp at hd;cases e:l[k]? with
 | none=>rw[e]at hd;cases hd
 | some a=>rw[e]at hd;exact h a (l7 e) d hd
structure CH where
 bs:List (Str×Int)
 nm:BA
 ks:At
 es:AT
 ss:AT
 is:EQ
 os:EQ
 ws:List bT
def CH.d(c:CH):D:=iH (c.bs.map qi) c.nm QhD (c.is.map .tup) (c.os.map .tup) (c.ws.map iu)
structure CH.Ok(c:CH):Prop where
 k:lK c.ks c.es c.ss c.is c.os c.ws
 q:∀bs:AT,bs.length=c.bs.length->GU c.es.length bs c.ws
 i:∀l∈c.is,∀d∈l,qT c.bs.length d
 o:∀l∈c.os,∀d∈l,qT c.bs.length d
 w:∀w∈c.ws,∀d∈w.sE,qT c.bs.length d
 nl:c.nm.length=c.es.length
 bl:c.bs.length<=1000
def Gd(c:CH)(p:Pl):Prop:=∃ch:AT,(ch.length=c.es.length/\F8 (cg c.ks) c.es ch)/\p.1=fP Qc9 c.es ch Qb4/\IX c.ks c.es p.2
def n3(c:CH)(ops bs:AT)(sg:Str):AT:=T1 c.ks c.es c.ws (Tp c.ws ops bs sg c.es (nk c.ks ops))
def uu(c:CH)(p:Pl)(a:AT):BA:=Xu c.ks c.es c.ss c.is c.os c.ws p.2 p.1 a
def toN(c:CH)(p:Pl)(a:AT):Pl:=(xn c.ks c.es c.ss (Qa c.ks c.es c.ws p.2 p.1 (lB c.ws a)) p.1 (lB c.ws a),Qa c.ks c.es c.ws p.2 p.1 (lB c.ws a))
def goN(c:CH)(p:Pl)(sg:Str)(bs:AT):Ee×Pl:=((uu c p Qdb).map UY,toN c p Qdb)
theorem aqo(h:oA es)(x0:0<=x)(a:Qdo)(e:x≠0):es.getD x.toNat 0 ≠ -1:=by
 obtain⟨k,b⟩:∃k:Nat,x.toNat=k+1:=⟨x.toNat-1,We⟩;obtain z|z:=h.2 k We
 .lia
 .have:=(bF h.1 We We z).1;lia
def au7{t:Int}(h:Oc es t u=false):Ap es t u:=by
 unfold Oc at h;simp at h;exact⟨h.1.2.1,h.1.2.2,h.1.1,h.2.2,h.2.1⟩
theorem NZ{c:CH}(h:c.Ok){p:Pl}(g:Gd c p)(bs:AT)(sg:Str):sY c.ks c.es c.ws p.1 Qdb:=by
 obtain⟨ch,⟨v,u⟩,r,t⟩:=g;have n0:=h.k.n0;have q:∀x∈p.1,0<=x/\x<c.es.length:=r▸λx a=>Ct n0 a;have up:∀x∈p.1,x=0\/c.es.getD _ 0∈p.1:=λx a=>by
  obtain⟨x0,d⟩:=q x a;by_cases e:x=0
  .exact .inl e
  .right;rw[r]at a ⊢;exact Xs h.k.pre.1 _ d a (NX h.k.pre.1 x0 d (aqo h.k.pre x0 d e))
 have nd:(Tp c.ws p.1 bs sg c.es (nk c.ks p.1)).Nodup:=agI ..;have b:∀k∈Tp _ _ bs sg _ (nk c.ks _),RO c.ws _ bs sg _ k:=λk o=>au5 h.k.pre.1 up q (λx a=>(j1.1 a).1) (agJ.1 o);have f:=ak3 (ks:=c.ks) (es:=c.es) (ws:=c.ws) nd;have sub:∀k∈n3 c _ bs sg,k∈Tp _ _ bs sg _ _:=λk o=>(jI _).mem_iff.1 (f.sub.subset (lg.1 o));have snd:(n3 c _ bs sg).Nodup:=(sortI_perm _).nodup_iff.2 (List.Nodup.sublist f.sub ((jI _).nodup_iff.2 nd));refine⟨λi hi=>⟨⟨(b i (sub i hi)).k0,(b i (sub i hi)).k1⟩,(b i (sub i hi)).src⟩,?_,?_⟩
 .have:=DW snd λx a=>⟨(b x (sub x a)).k0,(b x (sub x a)).k1⟩;have:=h.k.wl;lia
 .unfold lB;rw[List.pairwise_map];have:=snd;refine((this.sublist Wp).imp_of_mem λ{x y} a s e=>?_);obtain⟨n,m⟩:=j1.1 a;obtain⟨l,j⟩:=j1.1 s;exact au7 (f.apart x (lg.1 n) y (lg.1 l) e m j)
def aqp{c:CH}(h:c.Ok){p:Pl}{a:AT}(hs:sY c.ks c.es c.ws p.1 a):∀d∈uu c p a,OT c.bs.length d:=λd hd=>by
 obtain z|z:=hV.1 hd
 .obtain z|z:=hV.1 z
  .obtain⟨m,_,z⟩:=l5.1 z;obtain rfl|z:=hR.1 z
   .exact⟨.out m,rfl,trivial⟩
   .obtain z|z:=hV.1 z
    .split at z
     .exact i4.1 z▸⟨.keep m _ _,rfl,trivial⟩
     .cases z
    .exact(Qm h.o _ d z).it
  .obtain⟨i,hi,z⟩:=l5.1 z;obtain rfl|z:=hR.1 z
   .exact⟨.way i,rfl,trivial⟩
   .exact(h.w _ QiR d z).it
 .obtain⟨m,_,z⟩:=l5.1 z;obtain rfl|z:=hR.1 z
  .exact⟨.GD m,rfl,trivial⟩
  .exact(Qm h.i _ d z).it
theorem ak6{c:CH}(h:c.Ok){p:Pl}(g:Gd c p){b:AT}(hs:sY c.ks c.es c.ws p.1 b):(uu c p b).length<=400/\Gd c (toN c p b):=by
 obtain⟨ch,⟨j,m⟩,e,hm⟩:=g;obtain⟨ops,mem⟩:=p;subst e;have a:=h.k;have t:∀x∈fP Qc9 c.es ch _,0<=x/\x<c.es.length:=λx o=>Ct a.n0 o;have i:=gO (isAll:=ao c.ks) (es:=c.es) (ch:=ch) Qb4;have n:=hs.q7 a;have d:=JJ a m j hm QeZ;have f:=a.tree d;obtain⟨_,g2⟩:=DX a.pre.1 i t hs.ap;obtain⟨_,r,_⟩:=IU f hs.ap n;obtain⟨s,d1,d2,q,_⟩:=IV a.kd f a.n0 j m hs.ap n;have n1:=a.n1;have sl:=hs.l;refine⟨?_,s,⟨d1,d2⟩,q,d⟩;unfold uu Xu;rw[j2,j2];have y:=(P8 (jn:=jY c.ks c.es c.ws) (mem:=mem) (bh:=Qa c.ks c.es c.ws mem QgC QeZ) a.or (kY c.ks c.es QgC QeZ)).1;have w:=(P9 (hs.w3 a)).1;have v:=(IW a.ir (zY c.ks c.es c.ss Qlw QeZ)).1;have u:(zY c.ks c.es c.ss Qlw QeZ).length<=c.es.length:=by unfold zY;rw[qE];exact r
 lia
structure ay0(c:CH)(p:Pl)(sg:Str)(bs:AT):Prop where
 s:sY c.ks c.es c.ws p.1 Qdb
 d:(goN c p sg bs).1.map It.d=uu c p Qdb
 g:∀x∈(goN c p sg bs).1,pf c.bs.length x
 l:(goN c p sg bs).1.length<=400
 n:Gd c (goN c p sg bs).2
def Qn{c:CH}(h:c.Ok){p:Pl}(g:Gd c p)(sg:Str)(bs:AT):ay0 c p sg bs:=by
 have s:=NZ h g bs sg;obtain⟨l,n⟩:=ak6 h g s;obtain⟨i1,i2⟩:=agN (aqp h s);exact⟨s,i1,i2,by show(List.map _ _).length<=400;rw[hP];exact l,n⟩
abbrev t5:=At×Pl×AT
def xr(c:CH):Nat->t5->BA×t5
 | 0,s=>([],s)
 | j+1,s=>match xr c j s with
  | (rs,[],p)=>(rs,[],p)
  | (rs,sg::w,a,bs)=>(rs++QkL,w++dG (goN c a sg bs).1,(goN c a sg bs).2,(goN c a sg bs).1.foldl It.af bs)
def Oj(c:CH)(s:t5):BA:=(xr c 8 s).1++(if (xr c 8 s).2.1=[] then [] else [.tup [.str "rest",.int (((xr c 8 s).2.1.length:Nat):Int)]])
def mN(c:CH)(s:t5):Pl:=(xr c 8 s).2.2.1
def oP(c:CH)(s:t5):AT:=(xr c 8 s).2.2.2
def t4(d:D):Prop:=∃w r,d=.tup (.str w::r)/\PyData.strOk w=true/\∀x∈r,(∃i,x=.int i)\/∃s,x=.str s/\PyData.strOk s=true
def Jd{l:BA}(h:∀d∈l,t4 d):D.bS l=true:=jr λd hd=>by
 obtain⟨w,r,rfl,_,b⟩:=h d hd;refine jr λx a=>?_;obtain rfl|a:=hR.1 a
 .rfl
 .obtain⟨i,rfl⟩|⟨s,rfl,_⟩:=b x a
  .rfl
  .rfl
theorem au8{m:Nat}{x:It}(h:pf m x)(bs:AT):t4 (x.j bs).d:=by
 cases x with
 | lM q=>
  cases q with
  | put i a c=>exact⟨"put",[.int _,.int _,.int _],rfl,Wg,λx b=>.inl (by simp only[hR,ke,or_false]at b;obtain rfl|rfl|rfl:=b<;>exact⟨_,rfl⟩)⟩
  | say s a c=>exact⟨"say",[.str s,.int _],rfl,Wg,λx b=>by
    simp at b;obtain rfl|rfl:=b
    .exact .inr ⟨_,rfl,h.1⟩
    .exact .inl Wp ⟩
  | call s=>exact⟨"call",_,rfl,Wg,λx b=>.inr ⟨s,i4.1 b,h⟩⟩
 | out i=>exact⟨"out",[.int i],rfl,Wg,λx b=>.inl ⟨i,i4.1 b⟩⟩
 | keep i p q=>exact⟨"keep",[.int i,.int p,.int q],rfl,Wg,λx b=>.inl (by simp at b;obtain rfl|rfl|rfl:=b<;>exact⟨_,rfl⟩)⟩
 | way i=>exact⟨"way",[.int i],rfl,Wg,λx b=>.inl ⟨i,i4.1 b⟩⟩
 | GD i=>exact⟨"in",[.int i],rfl,Wg,λx b=>.inl ⟨i,i4.1 b⟩⟩
theorem XO{m:Nat}:∀{xs:Ee} (bs:AT),(∀x∈xs,pf m x)->∀d∈(D3 xs bs).map J.d,t4 d
 | [],_,_,d,hd=>by cases hd
 | x::xs,bs,h,d,hd=>by
  obtain rfl|hd:=hR.1 hd
  .exact au8 (h x hU) bs
  .exact XO _ (λy a=>h y (hX _ a)) d hd
theorem UZ{m:Nat}(h:∀x∈xs,pf m x):∀x∈dG xs,PyData.strOk x=true:=λx b=>by
 obtain⟨i,hi,he⟩:=List.mem_filterMap.1 b;have d:=h i hi;cases i with
 | lM q=>
  cases q with
  | call s=>cases he;exact d
  | put i a c=>cases he
  | say s a c=>cases he
 | _=>cases he
section
variable{c:CH}
theorem U0{s:t5}{j:Nat}(h:(xr c j s).2.1=[]):∀k,xr c (j+k) s=xr c j s
 | 0=>rfl
 | k+1=>by
  rw[← Nat.add_assoc,xr,U0 h k];generalize xr c j s=r at h ⊢;obtain⟨rs,w,p⟩:=r;simp_all
def Cw{s:t5}{j:Nat}{rs:BA}{sg:Str}{w:At}{a:Pl}{bs:AT}(h:xr c j s=(rs,sg::w,a,bs)) :
  xr c QP s=(rs++QkL,w++dG (goN c a sg bs).1,(goN c a sg bs).2,(goN c a sg bs).1.foldl It.af bs):=by
 rw[xr,h]
structure ay1(c:CH)(n:Nat)(j:Nat)(r:BA×t5):Prop where
 a:r.1.length<=401*j
 w:r.2.1.length<=n+400*j
 g:Gd c r.2.2.1
 b:r.2.2.2.length=c.bs.length
 i:D.bS r.1=true
theorem AZ(h:c.Ok){cs:At}{a:Pl}{bs:AT}(m:Gd c a)(k:QdG):∀j,ay1 c cs.length j (xr c j (cs,a,bs))
 | 0=>⟨i8 _,hW _,m,k,rfl⟩
 | j+1=>by
  obtain⟨h1,h2,b,i,f⟩:=AZ h (cs:=cs) m k j;cases e:xr c j (cs,a,bs) with
  | mk rs r=>
   obtain⟨w,a2,b2⟩:=r;rw[e]at h1 h2 i f b;dsimp only at h1 h2 i f b;cases w with
   | nil=>
    rw[xr,e];exact⟨by dsimp only;lia,Wp,b,i,f⟩
   | cons sg w=>
    rw[Cw e];have g:=Qn h b sg b2;have s1:=g.l;have s3:(dG (goN c a2 sg b2).1).length<=(goN c a2 sg b2).1.length:=yY _ _;rw[k8]at h2;refine⟨?_,?_,g.n,?_,?_⟩
    .dsimp only;rw[j2,k8,hP,Cu];lia
    .dsimp only;rw[j2];lia
    .exact(vJ _ _).trans i
    .refine jr λd hd=>?_;obtain z|z:=hV.1 hd
     .exact jG f d z
     .obtain rfl|z:=hR.1 z
      .rfl
      .exact jG (Qg _ _) d z
theorem Je(h:c.Ok){cs:At}{a:Pl}(e:Gd c a)(b:QdG):(Oj c (cs,a,bs)).length<=4000/\D.bS (Oj c (cs,a,bs))=true:=by
 obtain⟨h1,h2,g,i,f⟩:=AZ h (cs:=cs) e b 8;unfold Oj;refine⟨?_,jr λd hd=>?_⟩
 .split<;>simp<;>lia
 .obtain z|z:=hV.1 hd
  .exact jG f d z
  .split at z
   .cases z
   .rw[i4.1 z];rfl
theorem agQ(h:c.Ok){cs:At}{a:Pl}{bs:AT}(n:Gd c a)(m:QdG)(l:∀x∈cs,PyData.strOk x=true):∀j,(∀x∈(xr c j (cs,a,bs)).2.1,PyData.strOk x=true)/\∀d∈(xr c j (cs,a,bs)).1,t4 d
 | 0=>⟨l,λd hd=>absurd hd ke⟩
 | j+1=>by
  obtain⟨b,f⟩:=agQ h n m l j;obtain⟨_,_,o,_,_⟩:=AZ h n m j;cases e:xr c j _ with
  | mk rs r=>
   obtain⟨w,a2,b2⟩:=r;rw[e]at f o b;cases w with
   | nil=>
    rw[xr,e];exact⟨b,f⟩
   | cons sg w=>
    rw[Cw e];have k:=(Qn h o sg b2).g;refine⟨λx i=>?_,λd hd=>?_⟩
    .obtain z|z:=hV.1 i
     .exact b x (hX _ z)
     .exact UZ k x z
    .obtain z|z:=hV.1 hd
     .exact f d z
     .obtain rfl|z:=hR.1 z
      .exact⟨ _,_,rfl,Wg,λx i=>.inr ⟨sg,i4.1 i,b sg Wp ⟩⟩
      .exact XO b2 k d z
def aaU(h:c.Ok){cs:At}{a:Pl}(g:Gd c a)(f:QdG)(e:∀x∈cs,PyData.strOk x=true):∀d∈Oj c (cs,a,bs),t4 d:=λd hd=>by
 obtain z|z:=hV.1 hd
 .exact(agQ h g f e 8).2 d z
 .split at z
  .cases z
  .exact i4.1 z▸⟨ _,_,rfl,Wg,λx b=>.inl ⟨_,i4.1 b⟩⟩
end
def Ol(c:CH):Pl:=(LZ c.ks c.es c.ss (List.replicate c.es.length (-1)) "new" 0,List.replicate c.es.length (-1))
def zu(c:CH):Ee:=(inR c.is (Ol c).1).map UY
theorem aaV(a:dR QaD QU es ss Qep)(h0:0<es.length):LZ ks es ss Qep "new" 0=fP QU es ss Q2:=by
 have b:=ac4 a (far:=false) (near:=false) (d:=es.length) h0 We;rw[aaJ]at b;assumption
noncomputable def aaW(ks:At)(es:AT):IX ks es Qep:=⟨ti ..,λk a _=>.inl (by rw[kf,OE,hO a];rfl)⟩
def Jf{c:CH}(h:c.Ok):dR (aY c.ks) Qc9 c.es c.ss (List.replicate c.es.length (-1)):=h.k.tree (aaW ..)
theorem agR{c:CH}(h:c.Ok):Gd c (Ol c)/\(zu c).map It.d=inR c.is (Ol c).1/\(∀x∈zu c,pf c.bs.length x)/\(zu c).length<=200:=by
 have a:=Jf h;have n0:=h.k.n0;have n1:=h.k.n1;have b:=Ck a (far:=fC "new") (near:=iG "new") (d:=c.es.length) n0;have e:=aaV a n0;have f:=(IW h.k.ir (Ol c).1).1;have hlen:(Ol c).1.length<=c.es.length:=b;obtain⟨i1,i2⟩:=agN (l:=inR _ _) λd hd=>by
  obtain⟨m,_,z⟩:=l5.1 hd;obtain rfl|z:=hR.1 z
  .exact⟨.GD m,rfl,trivial⟩
  .exact(Qm h.i _ d z).it
 exact⟨⟨ _,⟨h.k.sl,h.k.st⟩,e,aaW ..⟩,i1,i2,by show(List.map _ _).length<=200;simp;lia⟩
def aqq:∀k∈Tp ws ops vs sg es l,0<=k/\k<ws.length:=λk a=>by
 obtain⟨leaf,_,z⟩:=l5.1 (agJ.1 a);exact Qk (j1.1 (tf z)).1
def gP(es:AT)(k:Nat):AT:=if (12:Int)<(([(k:Int)]++bN es k).length:Nat) then cutD ([(k:Int)]++bN es k) (some 1) none else [(k:Int)]++bN es k
theorem Fy{k:Nat}(h:fD es)(f:k+1=es.length):0<(gP es k).length/\(gP es k).length<=es.length+2/\∀x∈gP es k,0<=x/\x<es.length:=by
 have hm:∀x∈[(k:Int)]++bN es k,0<=x/\x<es.length:=λx a=>by
  obtain h1|h1:=hV.1 a
  .have:x=k:=by simp_all
   lia
  .have d:=h.at (k:=k) We We;have:=PN h _ d.1 We h1;lia
 have c:([(k:Int)]++bN es k).length<=es.length+2:=by
  have:=zj QeV es (es.getD (k:Int).toNat 0);rw[j2];unfold bN;simp only[k8,List.length_nil];lia
 unfold gP;split
 .have e:cutD ([(k:Int)]++bN es k) (some 1) none=bN es k:=by simp[cutD,HT.Lp]
  rw[e];have b:=j2 (as:=[(k:Int)]) (bs:=bN es k);simp only[k8,List.length_nil]at b;exact⟨We,We,λx a=>hm x (h5 _ a)⟩
 .exact⟨Wp,c,hm⟩
theorem getD_mem(h:n<l.length):l.getD n 0∈l:=by simp_all
theorem Qo{k:Nat}(a:x∈gP es k):x=k\/x∈bN es k:=by
 have hm:=by
  unfold gP at a;split at a
  .exact List.mem_of_mem_drop (tf a)
  .exact a
 simp_all
def ak7:oA [-1]:=⟨λk a=>by
  have:=by simpa using a
  subst this;exact⟨Int.le_refl _,Wl⟩,λk a=>by simp at a⟩
noncomputable def q0(m:Nat)(p:Int):Int:=p % ((m:Int)+1)-1
noncomputable def w4(m:Nat)(p:Int):Int:=p / ((m:Int)+1) / 3
def ui(m:Nat)(p:Int):Int:=if p / ((m:Int)+1) % 3=0 then w4 m p % (2*10 ^ (9:Int).toNat+1)-10 ^ (9:Int).toNat else w4 m p % 7-3
def pv(m:Nat)(p:Int):Int:=if p / ((m:Int)+1) % 3=0 then w4 m p / (2*10 ^ (9:Int).toNat+1) else w4 m p / 7
def wN(k:Int):Str:=("w":Str)++(toString k:Str)
theorem qk{n:Int}(a:0<n)(c:n<4294967296):0<n/\n.natAbs.log2<9000:=⟨a,by
 have:n.natAbs≠0:=by lia
 rw[Nat.log2_lt this];grind⟩
def zv(s es:AT)(k:Nat):Int:=(gP es k).getD (cR s ((k:Int)+1) % ((gP es k).length:Nat)).toNat 0
def mM(s:AT):Nat->AT
 | 0=>[-1]
 | j+1=>mM s j++[zv s (mM s j) j]
theorem XQ(s:AT):∀j,(mM s j).length=j+1/\oA (mM s j)
 | 0=>⟨rfl,ak7⟩
 | j+1=>by
  obtain⟨h1,h2⟩:=XQ s j;obtain⟨e,d,c⟩:=Fy h2.1 h1.symm;refine⟨by show(mM s j++_).length=_;simp_all,?_⟩;have a:=getD_mem (l:=gP (mM s j) j) (n:=(cR s QP % ((gP (mM s j) j).length)).toNat) (by
   have:=ky (cR s QP) (b:=((gP (mM s j) j).length)) We;lia)
  exact h2.snoc h1.symm (Qo a)
noncomputable def E7:AT:=[-1,0,1,1,0,4,4]
def L7(s:AT)(n st:Nat):AT:=if st=1 then E7 else mM s QcI
theorem ava:oA E7:=by
 refine⟨λk a=>?_,λk a=>?_⟩
 .have:∀k,k<7->-1<=E7.getD k 0/\E7.getD k 0<k:=by decide +kernel
  exact this k a
 .have a:k<6:=by have:k+1<7:=a;lia
  have:∀k,k<6->E7.getD QaZ 0=k\/E7.getD QaZ 0∈bN E7 k:=by decide +kernel
  exact this k a
variable{st:Nat}
theorem agS(s:AT)(a:1<=n):(L7 s n st).length=(if st=1 then 7 else n)/\oA Qgb:=by
 unfold L7;split
 .exact⟨rfl,ava⟩
 .have:=XQ s QcI;simp_all
noncomputable def uZ:At:=["one","one","all"]
def Wj(s:AT)(st:Nat)(es:AT)(k:Nat):Str:=if gX es (k:Int)=[] then "leaf" else if st=1 then(if k=0 then "all" else "one") else(["one","all",uZ.getD st Str.empty]:At).getD (cR s (k:Nat) / 60 % 3).toNat Str.empty
def ZS(s:AT)(st:Nat)(es:AT)(k:Nat):Int:=if Wj s st es k="one" then(gX es (k:Int)).getD (cR s (k:Nat) / 180 % ((gX es (k:Int)).length:Nat)).toNat 0 else -1
theorem agT{s:AT}(h:st<3)(es:AT)(k:Nat):(Wj s st es k="leaf" /\ gX es k=[])\/((Wj s st es k="one" \/ Wj s st es k="all")/\gX es k≠[]):=by
 unfold Wj;by_cases e:gX es k=[]
 .exact hO e ▸ .inl ⟨rfl,e⟩
 .rw[cq e];refine .inr ⟨?_,e⟩;split
  .split
   .exact .inr rfl
   simp
  .have:∀st,st<3->∀j,j<3->(["one","all",uZ.getD st Str.empty]:At).getD j Str.empty="one" \/ (["one","all",uZ.getD st Str.empty]:At).getD j Str.empty="all":=by decide +kernel
   exact this st h _ We
def BO(s:AT)(st:Nat)(es:AT)(n:Nat):At:=(List.range n).map (Wj s st es)
def Fz(s:AT)(st:Nat)(es:AT)(n:Nat):AT:=(List.range n).map (ZS s st es)
def agU{s:AT}{k:Nat}(h:k<n):(BO s st es n).getD k Str.empty=Wj s st es k:=by
 unfold BO;rw[kf,la,o4 h];rfl
def aqt{s:AT}{k:Nat}(h:k<n):(Fz s st es n).getD k 0=ZS s st es k:=by
 unfold Fz;rw[kf,la,o4 h];rfl
theorem agV{s:AT}(h:st<3){k:Nat}(e:Wj s st es k="one"):ZS s st es k∈gX es k:=by
 have a:gX es k≠[]:=by
  obtain z|z:=agT h es k
  .rw[z.1]at e;exact absurd e Wg
  .exact z.2
 have c:=List.length_pos_iff.2 a;unfold ZS;have h1:=ky (cR s k / 180) (b:=((gX es k).length)) We;simp_all
def avb(es:AT)(k:Int):((dU 0 ((es.length:Nat):Int).toNat).filter λd=>decide (es.getD d.ug.toNat 0=k)).map QhS=((gX es k).map D.int).map T.sh:=by
 unfold gX dU;rw[o2,ia,ia,ia];have e:((λd=>decide (es.getD d.ug.toNat 0=k))∘λ(i:Nat)=>D.int (0+i))=λi=>decide (es.getD i 0=k):=by
  funext i;show decide (es.getD (0+(i:Int)).toNat 0=k)=_;rw[mv,jj]
 rw[e];exact oo λi _=>by simp
theorem Qp(h:j<n):Np n (j:Int)=some j:=by simp_all [Np]
def Qq{l:Q1}{a b:α}(h:l.length=j):(l++[a]).set j b=l++[b]:=by
 subst h;rw[List.set_append_right _ _ (hW _),Nat.sub_self];rfl
def U1(s:AT)(st:Nat)(es:AT)(j:Nat):((BO s st es j).map D.str).map T.sh++[T.sh (.str (Wj s st es j))]=((BO s st es QP).map D.str).map T.sh:=by
 unfold BO;rw[FV,js,js,js];rfl
def U3(s:AT)(st:Nat)(es:AT)(j:Nat):((Fz s st es j).map D.int).map T.sh++[T.sh (.int (ZS s st es j))]=((Fz s st es QP).map D.int).map T.sh:=by
 unfold Fz;rw[FV,js,js,js];rfl
def xb(s:AT)(st:Nat)(es:AT)(k:Nat):Str:=if gX es (k:Int)=[] then "leaf" else(["one","all",uZ.getD st Str.empty]:At).getD (cR s (k:Nat) / 60 % 3).toNat Str.empty
def mT(m:Nat)(hs:At)(p:Int):cU:=
 if p % 5<2/\0<m then .put (p / 5 % (m:Int)) (q0 m QhN) (ui m QhN)
 else if p % 5<4 then .say (wN (p / 5 % 3)) (q0 m (p / 5 / 3)) (ui m (p / 5 / 3))
 else .call (hs.getD (p / 5 % (hs.length:Int)).toNat Str.empty)
def Ar(m:Nat)(hs:At)(p:Int):Int:=
 if p % 5<2/\0<m then pv m QhN else if p % 5<4 then pv m (p / 5 / 3) else p / 5 / (hs.length:Int)
def p3(m:Nat)(hs:At)(p:Int):Nat->Int
 | 0=>p
 | j+1=>Ar m hs (p3 m hs p j)
def n8(m:Nat)(hs:At)(p:Int)(n:Nat):List cU:=(List.range n).map λj=>mT m hs (p3 m hs p j)
def Tq(c:Int)(m:Nat)(hs:At):List cU:=n8 m hs (c % 10 ^ (64:Int).toNat / 13 / 4) ([0,1,0,2].getD (c % 10 ^ (64:Int).toNat / 13 % 4).toNat 0)
theorem JI(m:Nat)(p:Int):pO m (q0 m p):=by
 have h0:=k3 p (b:=m+1) We;have h1:=ky p (b:=m+1) We;unfold pO q0;lia
def avd:∀k:Nat,k<3->PyData.strOk (wN (k:Int))=true:=by decide +kernel
variable{hs:At}
theorem aqu{m:Nat}(h0:0<hs.length)(a:∀x∈hs,PyData.strOk x=true)(p:Int):pf m (.lM (mT m hs p)):=by
 unfold mT;split
 .exact⟨⟨k3 _ We,ky _ We⟩,JI _ _⟩
 .split
  .refine⟨?_,JI _ _⟩;have:=avd (p / 5 % 3).toNat We;grind
  .have b:=ky (p / 5) (b:=hs.length) We;apply a _;simp_all
def agW{m:Nat}(h0:0<hs.length)(b:∀x∈hs,PyData.strOk x=true)(p:Int)(n:Nat):(n8 m hs p n).length=n/\D.bS ((n8 m hs p n).map cU.d)=true/\∀d∈(n8 m hs p n).map cU.d,qT m d:=by
 refine⟨by unfold n8;simp,eY uz _,λd hd=>?_⟩;obtain⟨q,a,rfl⟩:=ip.1 hd;obtain⟨j,_,rfl⟩:=ip.1 a;exact⟨_,rfl,aqu h0 b _⟩
def p6(m n:Nat)(p:Int):xo:=if p % 6<2 then .Ja (decide (p % 6=0)) (p / 6 % (n:Int)) else .num (Qi.getD (p % 6-2).toNat Str.empty) (q0 m (p / 6)) (ui m (p / 6)) (q0 m Qib) (ui m Qib)
def Kt(m n:Nat)(p:Int):Int:=if p % 6<2 then p / 6 / (n:Int) else pv m Qib
def rf(m n:Nat)(p:Int):Nat->Int
 | 0=>p
 | j+1=>Kt m n (rf m n p j)
def vl(m n:Nat)(p:Int)(k:Nat):List xo:=(List.range k).map λj=>p6 m n (rf m n p j)
theorem aqw{m:Nat}(b:0<n)(a:bs.length=m)(p:Int):(p6 m n p).Ok n bs:=by
 subst a;unfold p6;split
 .exact⟨k3 _ We,ky _ We⟩
 .refine⟨?_,JI _ _,JI _ _⟩;have c:(p % 6-2).toNat<Qi.length:=by show _<4;lia
  simp_all
noncomputable def sm:AT:=[2,5,3,6]
noncomputable def xa:At:=["new","near","far"]
noncomputable def KA:Cc:=[0,1,1,2]
section
variable(c:Int)(n m:Nat)(hs:At)(st:Nat)
noncomputable def uf:Int:=c % 10 ^ (64:Int).toNat / (n:Int)
def si:Int:=uf c n / (hs.length:Int)
def wW:Int:=si c n hs / ((n:Int)+1)
def sf:Int:=wW c n hs / 3
def sk:Nat:=KA.getD (sf c n hs % 4).toNat 0
def wz:Int:=sf c n hs / 4
def wy:Int:=rf m n (wz c n hs) (sk c n hs)
def zp:Nat:=(wy c n m hs % 3).toNat
def n2:Int:=if st=1 then sm.getD (c % 10 ^ (64:Int).toNat % (n:Int) % 4).toNat 0 else c % 10 ^ (64:Int).toNat % (n:Int)
def pk:Int:=si c n hs % ((n:Int)+1)-1
def sy(x:Int):AT:=((List.range 7).filter λ(a:Nat)=>decide (E7.getD a 0=E7.getD x.toNat 0)).map λ(a:Nat)=>(a:Int)
def pj:Int:=if st=1/\pk c n hs % 2=0 then(sy (n2 c n st)).getD (pk c n hs / 2 % 2).toNat 0 else pk c n hs
def w1:Str:=if pj c n hs st=-1 then "new" else xa.getD (wW c n hs % 3).toNat Str.empty
def mE:bT:=⟨n2 c n st,hs.getD (uf c n % (hs.length:Int)).toNat Str.empty,(vl m n (wz c n hs) (sk c n hs)).map qX,(n8 m hs (wy c n m hs / 3) (zp c n m hs)).map cU.d,pj c n hs st,w1 c n hs st⟩
end
def Z0:∀k:Nat,k<4->0<=sm.getD k 0/\sm.getD k 0<7/\(sy (sm.getD k 0)).length=2/\∀x∈sy (sm.getD k 0),0<=x/\x<7:=by decide +kernel
theorem ZA(a:0<n)(h:st=1->n=7):0<=n2 c n st/\n2 c n st<n:=by
 unfold n2;split
 .have:=Z0 (c % 10 ^ (64:Int).toNat % n % 4).toNat We;lia
 .exact⟨k3 _ We,ky _ We⟩
theorem Zs(e:st=1)(k:Int):(sy (n2 c n st)).length=2/\∀x∈sy (n2 c n st),0<=x/\x<7:=by
 unfold n2;exact hO e▸(Z0 _ We).2.2
theorem aqy(d:0<n)(h:st=1->n=7):pj c n hs st=-1\/(0<=pj c n hs st/\pj c n hs st<n):=by
 unfold pj;split
 .rename_i e;have:=h e.1;obtain⟨b1,b2⟩:=Zs (c:=c) (n:=n) e.1 0;have b:=ky (pk c n hs / 2) (b:=2) Wl;simp_all
 .have a:=k3 (si c n hs) (b:=n+1) We;have b:=ky (si c n hs) (b:=n+1) We;unfold pk;lia
def aqz:∀k:Nat,k<3->vH (xa.getD k Str.empty):=by
 intro k a
 match k,a with
 | 0,_=>exact .inl rfl
 | 1,_=>exact .inr Q4
 | 2,_=>exact .inr Qar
noncomputable def q4:At:=["go","go2","ago"]
noncomputable def z3:AT:=[5,10 ^ (30:Int).toNat]
def Wk(s:AT)(k:Nat):Str×Int:=(("b":Str)++(toString (k:Int):Str),cR s (10+(k:Int)) % 10 ^ (30:Int).toNat % z3.getD (k % 2) 0-2)
noncomputable def oC(k:Nat):Str:=("m":Str)++(toString (k:Int):Str)
section
variable(SL:Cc)(mm:Nat)(s:AT)
def vc:Int:=cR s 0 % 10 ^ (9:Int).toNat
def cst:Nat:=SL.getD (vc s % 8).toNat 0
def sx:Int:=vc s / 8
def cmd:Nat:=(1+sx s % (mm:Int)).toNat
def xl:Int:=sx s / (mm:Int)
def mW:Nat:=(xl mm s % 4).toNat
def xk:Int:=xl mm s / 4
def sr:Nat:=(1+xk mm s % 8).toNat
def xi:Int:=xk mm s / 8
def A0:At:=q4.take (1+xi mm s % 3).toNat
def sv:Int:=xi mm s / 3
def oT:At:=if cst SL s=1/\0<sv mm s % 3 then ["go"] else A0 mm s
def HH:Int:=if cst SL s=1 then sv mm s / 3 else sv mm s
def vj:Nat:=if cst SL s=2 then(11+HH SL mm s % 20).toNat else cmd mm s
def xq:AT:=L7 s (vj SL mm s) Qd6
def vb:List bT:=e9 bT.src ((List.range (sr mm s)).map λ(k:Nat)=>mE Qgy (xq SL mm s).length (mW mm s) (oT SL mm s) Qd6)
def rb(j:Int):EQ:=(List.range (xq SL mm s).length).map λ(k:Nat)=>(Tq (cR s (j+(k:Int))) (mW mm s) (oT SL mm s)).map cU.d
def vk:CH:=⟨(List.range (mW mm s)).map (Wk s),((List.range (xq SL mm s).length).map oC).map .str,BO s Qd6 Qe2 (xq SL mm s).length,xq SL mm s,Fz s Qd6 Qe2 (xq SL mm s).length,rb SL mm s 1,rb SL mm s 2,vb SL mm s⟩
end
section
variable{SL:Cc}{mm:Nat}{s:AT}
theorem ag2(h:∀x∈SL,x<3):cst SL s<3:=by
 unfold cst;simp;cases e:SL[(vc s % 8).toNat]? with
 | none=>decide
 | some x=>exact h x (l7 e)
theorem XR:0<(oT SL mm s).length/\(oT SL mm s).length<=3/\∀x∈oT SL mm s,PyData.strOk x=true:=by
 have c:∀x∈q4,PyData.strOk x=true:=by decide +kernel
 have b:q4.length=3:=rfl;unfold oT;split
 .refine⟨Wl,Wl,λx a=>?_⟩;rw[i4.1 a];decide +kernel
 .unfold A0;grind
theorem X1(h:1<=mm/\mm<=10):1<=vj SL mm s/\vj SL mm s<=30:=by
 have c:=k3 (sx s) (b:=mm) We;have d:=ky (sx s) (b:=mm) We;unfold vj cmd;lia
theorem XS(h:1<=mm/\mm<=10):(1<=(xq SL mm s).length/\(xq SL mm s).length<=30)/\oA Qe2/\(cst SL s=1->xq SL mm s=E7):=by
 have a:=X1 (SL:=SL) (s:=s) h;obtain⟨h1,h2⟩:=agS s a.1;refine⟨?_,h2,λe=>?_⟩
 .show 1<=(L7 _ _ _).length/\(L7 _ _ _).length<=30;rw[h1];split<;>lia
 .unfold xq L7;rw[hO e]
theorem X0:mW mm s<=3:=by
 unfold mW;lia
theorem XX:1<=sr mm s/\sr mm s<=8:=by
 unfold sr;lia
theorem Qs(j:Int):(rb SL mm s j).length=(xq SL mm s).length/\∀l∈rb SL mm s j,(l.length<=2/\D.bS l=true)/\∀d∈l,qT (mW mm s) d:=by
 refine⟨by unfold rb;simp,λl a=>?_⟩;obtain⟨k,_,rfl⟩:=ip.1 a;obtain⟨e,f,c⟩:=XR;obtain⟨d1,d2,b⟩:=agW e c _ _;refine⟨⟨?_,d2⟩,b⟩;simp;show(n8 _ _ _ _).length<=2;rw[d1];have:∀j,j<4->[0,1,0,2].getD j 0<=2:=by decide +kernel
 exact this _ We
structure WyG(n m:Nat)(hs:At)(w:bT):Prop where
 i:ze n w
 q:∀bs:AT,bs.length=m->∃l:List xo,w.asks=l.map qX/\l.length<=2/\∀a∈l,a.Ok n bs
 d:∀d∈w.sE,qT m d
 s:w.sign∈hs
theorem XT{m:Nat}(d:0<n)(e:st=1->n=7)(h0:0<hs.length)(h1:∀x∈hs,PyData.strOk x=true):WyG n m hs (mE c n m hs st):=by
 obtain⟨d1,d2,i⟩:=agW h0 h1 _ _;have g1:=ky (uf c n) (b:=hs.length) We;have g:sk c n hs<=2:=by
  have:∀j,j<4->KA.getD j 0<=2:=by decide +kernel
  exact this _ We
 refine⟨⟨ZA d e,aqy d e,?_,?_,d2,eY Jb _⟩,λbs f=>⟨_,rfl,?_,λa h=>?_⟩,i,?_⟩
 .show vH (w1 c n hs st);unfold w1;split
  .exact .inl rfl
  .exact aqz _ We
 .show((n8 _ _ _ _).map _).length<=2;rw[hP,d1];unfold zp;lia
 .unfold vl;simp_all
 .obtain⟨j,_,rfl⟩:=ip.1 h;exact aqw d f _
 .show hs.getD _ _∈hs;simp_all
theorem ag3(h:1<=mm/\mm<=10):(vb SL mm s).length<=8/\∀w∈vb SL mm s,WyG (xq SL mm s).length (mW mm s) (oT SL mm s) w:=by
 obtain⟨d,c,b⟩:=XS (SL:=SL) (s:=s) h;obtain⟨d1,d2,a⟩:=XR;refine⟨?_,λw hw=>?_⟩
 .unfold vb;rw[(jI _).length_eq,hP,ov];exact XX.2
 .obtain⟨k,_,rfl⟩:=ip.1 ((jI _).mem_iff.1 hw);exact XT We (λe=>by rw[b e];rfl) d1 a
theorem aqE(o:∀x∈SL,x<3)(h:1<=mm/\mm<=10):(vk SL mm s).Ok:=by
 obtain⟨m,p,r⟩:=XS (SL:=SL) (s:=s) h;obtain⟨n,w2⟩:=ag3 (SL:=SL) (s:=s) h;have i1:=Qs (SL:=SL) (mm:=mm) (s:=s) 1;have i2:=Qs (SL:=SL) (mm:=mm) (s:=s) 2;have g:=ag2 (SL:=SL) (s:=s) o;have c:(vk SL mm s).bs.length=mW mm s:=by show(List.map _ _).length=_;rw[hP,ov]
 have a:∀f:Nat->Str,((List.range (xq SL mm s).length).map f).length=(xq SL mm s).length:=λf=>by rw[hP,ov]
 refine⟨⟨m.1,by have:=m.2;show(xq SL mm s).length<=40;lia,a _,by show(List.map _ _).length=_;rw[hP,ov];rfl,i1.1,i2.1,λk b=>?_,p,λk b e=>?_,λl a=>(i1.2 l a).1,λl a=>(i2.2 l a).1,λw hw=>(w2 w hw).i,n⟩,λbs j w hw=>?_,?_,?_,?_,by show(List.map _ _).length=_;rw[hP];exact a _,?_⟩
 .have b:k<(xq SL mm s).length:=b;have e:=agU (s:=s) (st:=cst SL s) (es:=xq SL mm s) b;have e:(vk SL mm s).ks.getD ((k:Int)).toNat Str.empty=Wj s Qd6 Qe2 k:=by rw[jj];exact e
  unfold aY cg ao;rw[e];rcases agT g (xq SL mm s) k (s:=s) with z|⟨z|z,_⟩
  .rw[z.1];exact .inl ⟨Wg,Wg,Wg,z.2⟩
  .rw[z];exact .inr (.inl ⟨Wg,Wg,Wg⟩)
  .rw[z];exact .inr (.inr ⟨Wg,Wg,Wg⟩)
 .have b:k<(xq SL mm s).length:=b;have e1:=agU (s:=s) (st:=cst SL s) (es:=xq SL mm s) b;have e2:Wj s Qd6 Qe2 k="one":=by
   rw[← e1];unfold cg at e;rw[jj]at e;exact i5 e
  show(Fz s Qd6 Qe2 (xq SL mm s).length).getD k 0∈_;rw[aqt b];exact agV g e2
 .rw[c]at j;exact(w2 w hw).q bs j
 .rw[c];exactλl a=>(i1.2 l a).2
 .rw[c];exactλl a=>(i2.2 l a).2
 .rw[c];exactλw hw=>(w2 w hw).d
 .rw[c];have:=X0 (mm:=mm) (s:=s);lia
end
variable{w:bT}
def Jg(h:ze n w):(iu w).u9=true:=by
 obtain⟨_,_,_,_,h1,h2⟩:=h;unfold iu;rw[D.u9,D.bS,D.bS,D.bS,D.bS,D.u9,D.u9,h1,h2];rfl
theorem Jh{m:Nat}:∀{l:BA},(∀d∈l,qT m d)->iZ m l
 | [],_=>.nil
 | d::l,h=>by
  obtain⟨c,rfl,f⟩:=Jh λx e=>h x (hX _ e);obtain⟨q,rfl,g⟩:=h d hU;refine⟨q::c,rfl,λbs b p a=>?_⟩;obtain rfl|a:=hR.1 a
  .exact XM g b
  .exact f bs b p a
def U4(xs:Ee):(xs.map It.d).map UY=xs:=by
 simp;exact(oo λx _=>XJ x).trans (List.map_id _)
def alb{c:CH}(h:c.Ok){p:Pl}(g:Gd c p)(sg:Str)(n:QdG):Go c.es.length (goN c p sg bs).1 (p.1,p.2,bs) ((goN c p sg bs).2.1,(goN c p sg bs).2.2,(goN c p sg bs).1.foldl It.af bs):=by
 have s:=NZ h g bs sg;obtain⟨ch,⟨f,j⟩,e,hm⟩:=g;obtain⟨ops,mem⟩:=p;dsimp only at e hm s;subst e;obtain⟨b,m,xs,e1,_,_,d,_⟩:=Xw h.k j f hm s n (λl a=>Jh (h.i l a)) (λl a=>Jh (h.o l a)) (λw hw=>Jh (h.w w hw));have ex:(goN c (fP Qc9 c.es ch Qb4,mem) sg bs).1=xs:=by
  show(Xu c.ks c.es c.ss c.is c.os c.ws mem QgC _).map UY=xs;rw[e1];exact U4 xs
 rw[ex];have:b=xs.foldl It.af bs:=d.is.2.2;rw[← this];exact d
def j9(n:Nat)(rows:BA)(s t:nj):Prop:=∃a:List J,rows=a.map J.d/\lJ n a s/\a.foldl Qf0 s=t
theorem j9.nil{s:nj}:j9 n [] s s:=⟨[],rfl,trivial,rfl⟩
theorem j9.app{a b:BA}{s t u:nj}(h:j9 n a s t)(k:j9 n b t u):j9 n (a++b) s u:=by
 obtain⟨x,rfl,h1,rfl⟩:=h;obtain⟨y,rfl,k1,rfl⟩:=k;exact⟨ _,Wp,lJ.app.2 ⟨h1,k1⟩,Wp ⟩
theorem j9.go{s t:nj}(h:Go n xs s t):j9 n ((D3 xs s.2.2).map J.d) s t:=⟨_,rfl,h.is.1,h.is.2.1⟩
theorem j9.sign{s:nj}(sg:Str):j9 n [.tup [.str "sign",.str sg]] s s:=⟨[.LR "sign" _],rfl,⟨⟨Wg,by show 1<=3;decide,λd hd=>.inr ⟨sg,i4.1 hd⟩⟩,trivial⟩,rfl⟩
theorem j9.rest{s:nj}(i:Int):j9 n [.tup [.str "rest",.int i]] s s:=⟨[.LR "rest" _],rfl,⟨⟨Wg,by show 1<=3;decide,λd hd=>.inl ⟨i,i4.1 hd⟩⟩,trivial⟩,rfl⟩
def Qt(c:CH)(mem:AT):Prop:=∀k:Nat,k<c.es.length->cg c.ks k=false->mem.getD k 0=-1
theorem ay2{c:CH}(h:c.Ok){p:Pl}(g:Gd c p)(z:Qt c p.2)(sg:Str)(bs:AT):Qt c (goN c p sg bs).2.2:=λk a h1=>by
 have s:=NZ h g bs sg;obtain⟨ch,⟨b,f⟩,e,hm⟩:=g;obtain⟨ops,mem⟩:=p;dsimp at e hm z s;subst e;have i:∀x∈fP Qc9 _ ch _,0<=x/\x<c.es.length:=λx d=>Ct h.k.n0 d;show(Qa _ _ _ _ _ _).getD k 0=-1;rw[NU h.k f b hm.1,Ci _ _ (λe he=>by have:=i e (zo.1 (j1.1 he).1).1;exact hm.1▸this) k (hm.1▸a),cq λy=>by simp_all];exact z k a h1
variable{c:CH}
theorem U5(h:c.Ok){cs:At}{a:Pl}{bs:AT}(k:Gd c a)(i:QdG)(hz:Qt c a.2):∀j,j9 c.es.length (xr c j (cs,a,bs)).1 (a.1,a.2,bs) ((xr c j (cs,a,bs)).2.2.1.1,(xr c j (cs,a,bs)).2.2.1.2,(xr c j (cs,a,bs)).2.2.2)/\Qt c (xr c j (cs,a,bs)).2.2.1.2
 | 0=>⟨.nil,hz⟩
 | j+1=>by
  obtain⟨d,b⟩:=U5 h (cs:=cs) k i hz j;obtain⟨_,_,f,l,_⟩:=AZ h (cs:=cs) k i j;cases e:xr c j (cs,a,bs) with
  | mk rs r=>
   obtain⟨w,a2,b2⟩:=r;rw[e]at d b f l;cases w with
   | nil=>
    rw[xr,e];exact⟨d,b⟩
   | cons sg w=>
    rw[Cw e];have g:=alb h f sg l;exact⟨d.app ((j9.sign sg).app (j9.go g)),ay2 h f b sg b2⟩
variable{cs:At}{a:Pl}
def U6(h:c.Ok)(d:Gd c a)(b:QdG)(hz:Qt c a.2):j9 c.es.length (Oj c (cs,a,bs)) (a.1,a.2,bs) ((mN c (cs,a,bs)).1,(mN c (cs,a,bs)).2,oP c (cs,a,bs))/\Qt c (mN c (cs,a,bs)).2:=by
 obtain⟨h1,h2⟩:=U5 h (cs:=cs) d b hz 8;refine⟨h1.app ?_,h2⟩;split
 .exact .nil
 .exact .rest _
theorem ag4(h:c.Ok):j9 c.es.length ((D3 (zu c) (c.bs.map (·.2))).map J.d) ([],List.replicate c.es.length (-1),c.bs.map (·.2)) ((Ol c).1,(Ol c).2,(zu c).foldl It.af (c.bs.map (·.2)))/\Qt c (Ol c).2:=by
 have e:=aaV (Jf h) h.k.n0;have f:=gO (isAll:=ao c.ks) (es:=c.es) (ch:=c.ss) Qb4;have j:∀x∈fP Qc9 _ c.ss _,0<=x/\x<c.es.length:=λx n=>Ct h.k.n0 n;have s:(c.bs.map (·.2)).length=c.bs.length:=hP ..;obtain⟨r,p,b,g,_,_,a,_⟩:=I0 (λl o=>Jh (h.i l o)) _ ([],List.replicate _ _,c.bs.map _) s .nil (oB f) j;have m:(Ol c).1=fP _ _ _ _:=e;have ex:zu c=b:=by
  unfold zu;rw[m,g];exact U4 _
 have q:r=b.foldl _ _:=a.is.2.2;rw[show sortI (([])++fP _ _ _ _)=fP _ _ _ _ from xO (N2 f),q]at a;rw[ex,m];refine⟨j9.go a,λk t _=>?_⟩;show(List.replicate _ _).getD k 0=-1;simp_all
structure WhS(c:CH)(O:AT):Prop where
 z:(0:Int)∈O
 up:O.Pairwise (· < ·)
 lo:∀x∈O,0<=x/\x<c.es.length
 no:∀k:Nat,k<c.es.length->(k:Int)∉O->(gX c.es k).filter Qjd=[]
 one:∀k:Nat,k<c.es.length->(k:Int)∈O->cg c.ks k=true->((gX c.es k).filter Qjd).length=1
 all:∀k:Nat,k<c.es.length->(k:Int)∈O->ao c.ks k=true->(gX c.es k).filter Qjd=gX c.es k
theorem adq(es:AT)(m:Int):(gX es m).Nodup:=by
 refine List.Pairwise.map _ (λa b h=>?_) ((List.nodup_range).filter _);lia
theorem U7(h:c.Ok){p:Pl}(g:Gd c p):WhS c p.1:=by
 obtain⟨ch,⟨v,s⟩,e,_⟩:=g;have f:=h.k;have j:=f.pre.1;have n0:=f.n0;rw[e];have Tg:∀{k:Nat} {x:Int},x∈gX c.es k->∃q:Nat,x=q/\q<c.es.length/\c.es.getD q 0=(k:Int):=λ{k x} a=>by
  have t:=vD a;refine⟨x.toNat,We,We,t.2.2⟩
 have it:∀{q:Nat},q<c.es.length->((q:Int)∈fP Qc9 c.es ch Qb4↔(q=0\/(c.es.getD q 0∈fP Qc9 c.es ch Qb4/\(ao c.ks (c.es.getD q 0)=true\/ch.getD (c.es.getD q 0).toNat 0=(q:Int))))):=λ{q} b=>qh j Qb4 We We;refine⟨(it (q:=0) n0).2 Q4,gO _,λx a=>Ct n0 a,λk d r=>?_,λk d m h1=>?_,λk d m h1=>?_⟩
 .refine List.filter_eq_nil_iff.2 λx a z=>?_;obtain⟨q,rfl,b,eq⟩:=Tg a;rcases(it b).1 (i5 z) with y|y
  .have:=(j q b).2;lia
  .rw[eq]at y;exact r y.1
 .have n:¬ ao c.ks k=true:=λz=>by
   obtain y|y|y:=f.kd k d
   .rw[y.2.1]at h1;cases h1
   .rw[y.2.2]at z;cases z
   .rw[y.2.1]at h1;cases h1
  have o:=s k d h1;have hm:ch.getD k 0∈(gX c.es k).filter Qgl:=by
   refine j1.2 ⟨o,kx ?_⟩;obtain⟨q,e1,b,eq⟩:=Tg o;rw[e1];exact(aaK j f.kd d b eq m n).2 e1
  have i:∀x∈(gX c.es k).filter Qgl,x=ch.getD k 0:=λx a=>by
   obtain⟨h2,u⟩:=j1.1 a;obtain⟨q,rfl,b,eq⟩:=Tg h2;exact((aaK j f.kd d b eq m n).1 (i5 u)).symm
  have nd:=(adq c.es k).filter Qgl;generalize (gX c.es k).filter Qgl=l at hm i nd
  match l,hm,i,nd with
  | [x],_,_,_=>rfl
  | x::y::l,_,i,nd=>
   exact absurd (by rw[i x Wp,i y Wp];exact hU) (ma.1 nd).1
 .refine KU.2 λx a=>?_;obtain⟨q,rfl,b,eq⟩:=Tg a;exact kx ((it b).2 (.inr ⟨by rw[eq];exact m,.inl (by rw[eq];exact h1)⟩))
seal L3.dh L3.WL L3.cL L3.dI L3.yW L3.Nv L3.nZ
abbrev D9:=top 66
abbrev Ea:=AT×Int
noncomputable abbrev Om:At:=["script","k"]
def oE:Ea->BA:=λ(ns,j)=>[.lst (ns.map .int),.int j]
def oF:Ea->Prop:=λ(ns,j)=>0<=j
def oG:Ea->T:=λ(ns,j)=>(.sh (.int (cR ns j)):T)
structure ads(X:Cx)(CL:BC):Prop extends bL X where
 cj:Ln X 0 "script"
 Wm:Ln X 1 "k"
 fS:Gl X "len"
 fU:kE X "len"
variable{X:Cx}{CL:BC}{b:Bx}
def adt(E:ads X CL) :
  oz X CL b D9 Om oE oF oG:=by
 rintro⟨ns,j⟩ h;refine eU (Nx QcG (ay (O8 E.fU Qdm E.fS))).1 (λa=>?_) (λa=>?_)
 .have e:=by simpa using of_decide_eq_true a
  apply bz (cS (bG Qdm QcG (gJ h e)) rfl);show T.sh _=T.sh _;rw[cR,hO e]
 .have e:¬ j<ns.length:=by simpa using of_decide_eq_false a
  refine ai (bz bB ?_);show T.sh _=T.sh _;rw[cR,cq e]
noncomputable def vN:FG Om ["script","k"] ["len"] (aj D9):=fG
abbrev XU:=top 67
abbrev Qu:=Addr×Int×Int
noncomputable abbrev ag5:At:=["pot","many","digit"]
noncomputable def lN:Qu->Bn:=λ(y,p,m)=>[.pin y Qhs,.sh Qa3]
noncomputable def kg:Qu->Bn:=λ(y,p,m)=>[.pin y (.lst [.sh (.int (p / m))]),.sh Qa3]
def pre_take:Qu->Prop:=λ(y,p,m)=>0<m/\m.natAbs.log2<9000
noncomputable def lO:Qu->T:=λ(y,p,m)=>(.sh (.int (p % m)):T)
structure aqF(X:Cx)(CL:BC):Prop extends bL X where
 dw:Ln X 0 "pot"
 cY:Ln X 1 "many"
 aa2:Ln X 2 "digit"
def aqG(E:aqF X CL)(y p m)(h:pre_take (y,p,m)) :
  dh X CL b (d9 XU) (vv ag5 (lN (y,p,m))) {nx:=λδ=>lO (y,p,m)=.sh .non/\Keeps δ (kg (y,p,m)),rt:=λa δ=>a=lO (y,p,m)/\Keeps δ (kg (y,p,m))}:=by
 exact aL E.g E.aa2 (kW QkM Qcl h.1) (DP (afQ QkM Qcl h) (jT E.dw.1 rfl) ak rfl rfl rfl (bz (v_ E.aa2.1) ⟨rfl,o9 (ds:=[_])⟩))
noncomputable def Cy:FG ag5 ["pot","many"] [] (aj XU):=fG
abbrev XW:=top 68
abbrev XY:=AT×Int
noncomputable abbrev ag6:At:=["elders","at","chain"]
noncomputable def Ji:XY->BA:=λ(es,m)=>[.lst Qct,.int m]
def Jj:XY->Prop:=λ(es,m)=>fD es/\0<=m/\m<es.length/\es.length<=1000
def Jk:XY->T:=λ(es,m)=>(.lst (((m::bN es m).map .int).map T.sh):T)
structure aqH(X:Cx)(CL:BC):Prop extends bL X where
 dJ:Ln X 0 "elders"
 ay5:Ln X 1 "at"
 kI:Ln X 2 "chain"
theorem aqI(E:aqH X CL) :
  oz X CL b XW ag6 Ji Jj Jk:=by
 rintro⟨es,m⟩ h;obtain⟨f,h0,h1,hlen⟩:=h;apply aL E.g E.kI (aK (dQ (aO (v_ E.ay5.1) bD) aQ) rfl);apply Pk E.g (λn δ=>∃(k:Int) (l:AT),δ=[some _,some _,some (.lst (((l++[k]).map _).map _))]/\0<=k/\k<es.length/\k.toNat=n/\l++k::bN es k=m::bN es m) _ ⟨m,[],rfl,h0,h1,rfl,rfl⟩;rintro n δ ⟨k,l,rfl,k0,k1,k2,a⟩;have o:=f.at k0 k1;have i:uW ((l++[k]).map D.int) (-1)=some (.int k):=js▸aeP _ _;have c:=gK f k0 k1;have hle:(m::bN es m).length<=es.length+2:=by rw[k8];have:(bN es m).length<=es.length+1:=zj _ _ _;lia
 refine⟨_,_,(ve QkS QbA).1,λd=>?_,λd=>?_⟩
 .have e:¬ es.getD k.toNat 0=-1:=by simpa using d
  rw[cq e]at c;have j:(l++[k]).length<=1100:=by
   have:=congrArg List.length a;rw[j2]at this;rw[j2,vr];lia
  refine mY E.kI.1 rfl (cS QkS rfl) rfl (by rw[hP,hP];lia) (ai ⟨ _,We,es.getD k.toNat 0,l++[k],?_,We,We,rfl,?_⟩)
  .rw[js (l₂:=[es.getD _ 0]),js (l₂:=[es.getD _ 0].map _)];rfl
  .rw[← a,c,hZ];rfl
 .have e:es.getD k.toNat 0=-1:=by simpa using d
  rw[hO e]at c;rw[c]at a;exact a▸bz (vM E.kI.1) rfl
noncomputable def GY:FG ag6 ["elders","at"] [] (aj XW):=fG
abbrev Jl:=top 69
abbrev Jm:=AT×Nat×Nat
noncomputable abbrev U8:At:=["script","moods","style","elders","k","chain"]
noncomputable def A2:Jm->BA:=λ(s,n,st)=>[.lst (s.map .int),.int n,.int st]
def A3:Jm->Prop:=λ(s,n,st)=>s.length<=1000/\1<=n/\n<=40
def A4:Jm->T:=λ(s,n,st)=>(.lst (((L7 s n st).map .int).map T.sh):T)
structure ag7(X:Cx)(CL:BC):Prop extends bL X where
 cj:Ln X 0 "script"
 fV:Ln X 1 "moods"
 i6:Ln X 2 "style"
 dJ:Ln X 3 "elders"
 Wm:Ln X 4 "k"
 kI:Ln X 5 "chain"
 fE:Gl X "range"
 U9:Gl X "_law_line"
 fS:Gl X "len"
 iI:Gl X "_law_cell_at"
 fF:kE X "range"
 aqJ:Fc X CL "_law_line" 1 2 Ji Jj Jk
 fU:kE X "len"
 jl:Fc X CL "_law_cell_at" 1 2 oE oF oG
theorem ag8(E:ag7 X CL) :
  oz X CL b Jl U8 A2 A3 A4:=by
 rintro⟨s,n,st⟩ h;obtain⟨_,w,r⟩:=h;show dh X CL b _ _ {nx:=_,rt:=λv _=>v=T.lst _,bk:=_,ct:=_};refine eU (fW QcH ak).1 (λc=>?_) (λc=>ai ?_)
 .have e:st=1:=by lia
  exact show L7 s n st=E7 by unfold L7;rw[hO e]▸bz (aK (dN (aJ (gV ak) (aJ bB (aJ bB Qfk))) aQ) rfl) rfl
 have e:¬ st=1:=by lia
 rw[show L7 s n st=mM s _ by unfold L7;rw[cq e]];apply aL E.g E.dJ (dN (aJ (gV ak) gi) aQ);refine jc E.g E.Wm (λj δ=>∃i f,δ=[some _,some _,some _,some (.lst (((mM s j).map _).map _)),i,f])
  (acj E.fF ak (aC E.fV) We E.fE) ⟨_,_,rfl⟩ (λj δ ⟨_,_,e⟩=>by subst e;exact h7 rfl) ?turn ?fin
 case turn=>
  rintro j d δ t ⟨i,f,rfl⟩;obtain⟨rfl,x⟩:=HQ t;obtain⟨o,u⟩:=XQ s j;have k:=u.1;obtain⟨m,l,p⟩:=Fy k o.symm;have q:mM s QP=mM s j++[zv s _ j]:=rfl;show dh X CL b _ _ _;rw[q];generalize mM s j=es at o k m l p ⊢;refine aL E.g E.kI (aK (c_ (es,(j:Int)) E.aqJ E.U9 (ah (vL E.dJ.1) (ah (wY (ay (Ay QcG ak)) We) aE)) (⟨k,We,We,We⟩) (aN _)) rfl) ?_;refine B6 (λδ=>δ=[some Qbf,some Qa8,some Qap,some (.lst ((es.map .int).map T.sh)),some (.sh (.int (1+j))),some (.lst (((gP es j).map .int).map T.sh))]) (Jn (ay (gT (hP ..) E.fU (vL E.kI.1) E.fS)) ak).1 (λc=>?_) (λc=>?_) ?_
  .have e:(12:Int)<(([(j:Int)]++bN es j).length):=i5 c;refine aL E.g E.kI (HR (vL E.kI.1) (cC _) (za ak) y9) (ai ?_);rw[T9];unfold gP;rw[hO e];rfl
  .have e:¬ (12:Int)<(([(j:Int)]++bN es j).length):=lx c;apply ai;unfold gP;rw[cq e];rfl
  rintro δ rfl;have a:((es.map D.int).map T.sh)++[T.sh (.int (zv s es j))]=((es++[zv s es j]).map D.int).map T.sh:=by simp
  unfold zv at a ⊢;rw[show 1+j=(j:Int)+1 by lia];generalize gP es j=rs at m l a ⊢;have b1:=k3 (cR s QP) (b:=rs.length) We;have b2:=ky (cR s QP) (b:=rs.length) We;refine mY E.dJ.1 rfl (cS (bG (vL E.kI.1) (ay (kW (ay (c_ ((s,(j:Int)+1)) E.jl E.iI QjK (show 0<=(j:Int)+1 by lia) rfl)) (ay (gT (hP ..) E.fU (vL E.kI.1) E.fS)) We)) (gJ b1 b2)) rfl) rfl (by rw[hP,hP];lia) (ai ?_);rw[a];exact⟨_,_,rfl⟩
 case fin=>
  rintro δ ⟨i,f,rfl⟩;apply bz (vM E.dJ.1);rw[show(dU 1 _).length=n-1 by simp[dU]]
noncomputable def iJ:FG U8 ["script","moods","style"] ["range","_law_line","len","_law_cell_at"] (aj Jl):=fG
abbrev xV:=inClass (top 11) 0
abbrev xW:=At×AT×AT
noncomputable abbrev FD:At:=["self","kinds","elders","starts"]
noncomputable def Ac:xW->BA:=λ(ks,es,ss)=>[.lst QdT,.lst Qct,.lst QdU]
def Ad:xW->Prop:=λ(ks,es,ss)=>True
def Ae:xW->BN:=λ(ks,es,ss)=>(Ce ks es ss:BN)
structure Va(X:Cx)(CL:BC):Prop extends bL X where
 bW:Ln X 0 "self"
 sH:Ln X 1 "kinds"
 dJ:Ln X 2 "elders"
 uC:Ln X 3 "starts"
 cM:Gl X "list"
 cD:kE X "list"
 bO:jP X.K Qag
 aZ:aF X.K Qag "kinds"
 cZ:aF X.K Qag "elders"
 sZ:aF X.K Qag "starts"
def Vb(E:Va X CL)(ks:At)(es ss:AT)(y:Addr)(h:True) :
  dh X CL b (d9 xV) (WR FD y "Tree" [.lst QdT,.lst Qct,.lst QdU]) {nx:=λδ=>δ[0]? = some (some (.pin y (.ins "Tree" (Ce ks es ss)))),rt:=λ_ _=>False}:=by
 have hi:D.bS (ks.map D.str)=true:=eY Qde _;refine qS E.bO E.aZ E.bW.1 (g7 E.cD (aC E.sH) hi E.cM bH) rfl Qbd ?_;exact qS E.bO E.cZ E.bW.1 (g7 E.cD (aC E.dJ) (cC _) E.cM bH) rfl Qbd (qS E.bO E.sZ E.bW.1 (g7 E.cD (aC E.uC) (cC _) E.cM bH) rfl Qbd (ai rfl))
noncomputable def i7:FG FD ["self","kinds","elders","starts"] ["list"] (aj xV):=fG
abbrev Qv:=top 70
abbrev XZ:=AT×Nat×Nat
noncomputable abbrev ag9:At:=["script","moods","style","elders","kinds","starts","k","near"]
noncomputable def Jo:XZ->BA:=λ(s,n,st)=>[.lst (s.map .int),.int n,.int st]
def Jp:XZ->Prop:=λ(s,n,st)=>s.length<=1000/\1<=n/\n<=40/\st<3
def Jq:XZ->T:=λ(s,n,st)=>(.ins "Tree" (Ce (BO s st Qgb (L7 s n st).length) Qgb (Fz s st Qgb (L7 s n st).length)):T)
structure aqL(X:Cx)(CL:BC):Prop extends bL X where
 cj:Ln X 0 "script"
 fV:Ln X 1 "moods"
 i6:Ln X 2 "style"
 dJ:Ln X 3 "elders"
 xX:zW X "elders"
 sH:Ln X 4 "kinds"
 uC:Ln X 5 "starts"
 Wm:Ln X 6 "k"
 k_k:zW X "k"
 tu:Ln X 7 "near"
 L8:Gl X "_law_elders"
 fE:Gl X "range"
 fS:Gl X "len"
 iI:Gl X "_law_cell_at"
 Cz:Gl X "int"
 aqM:Gl X "Tree"
 aha:Fc X CL "_law_elders" 2 3 A2 A3 A4
 fF:kE X "range"
 fU:kE X "len"
 jl:Fc X CL "_law_cell_at" 1 2 oE oF oG
 CB:kE X "int"
 aqN:Fm X CL "Tree" 1 4 Ac Ad Ae
theorem aqO(E:aqL X CL) :
  oz X CL b Qv ag9 Jo Jp Jq:=by
 rintro⟨s,n,st⟩ h;obtain⟨h0,r,m,t⟩:=h;refine aL E.g E.dJ (eW (aK (c_ (s,n,st) E.aha E.L8 Qlt ⟨h0,r,m⟩ (aN _)) rfl)) ?_;obtain⟨v,I⟩:=agS s (st:=st) r;have q:(L7 s n st).length<=40:=by rw[v];split<;>lia
 show dh X CL b _ _ {nx:=_,rt:=λF _=>F=T.ins "Tree" (Ce _ Qgb _),bk:=_,ct:=_};generalize L7 s n st=es at q ⊢;refine aL E.g E.sH Qa9 ?_;refine aL E.g E.uC Qa9 ?_;refine jc E.g E.Wm (λj δ=>∃f c,δ=[some _,some Qa8,some Qap,some _,some (.lst (((BO s st es j).map .str).map T.sh)),some (.lst (((Fz s st es j).map .int).map T.sh)),f,c])
  (jD E.fF (ay (gT (hP ..) E.fU (aC E.dJ) E.fS)) We E.fE) ⟨_,_,rfl⟩ (λj δ ⟨_,_,e⟩=>by subst e;exact h7 rfl) ?turn ?fin
 case turn=>
  rintro j d δ w ⟨f,c,rfl⟩;obtain⟨rfl,J⟩:=HQ w;rw[mv];have lk:(BO s st es j).length=j:=by unfold BO;rw[hP,ov]
  have ls:(Fz s st es j).length=j:=by unfold Fz;rw[hP,ov]
  refine vq (p:=λd=>decide (es.getD d.ug.toNat 0=(j:Int))) (gg:=λd=>T.sh d) E.g E.tu (bu (.cons E.dJ.1 (.inl E.xX) (.cons E.Wm.1 (.inl E.k_k) .nil)) Wg) (jD E.fF (ay (gT (hP ..) E.fU (aC E.dJ) E.fS)) We E.fE) Qar (λC s0 K f0 H d hd=>?zX) (by simp[dU,lh];lia) ?rest (by exact h7 rfl) QbM
  case zX=>
   obtain⟨i,hi,rfl⟩:=ip.1 hd;have hi:=ml.1 hi;exact⟨(fW (bG (fZ 1) (ju 0) (gJ (show(0:Int)<=0+(i:Int) by lia) (show 0+(i:Int)<es.length by lia))) (fZ 2)).1,λ_=>v_ (DR 0)⟩
  case rest=>
  have y:((dU 0 ((es.length:Nat):Int).toNat).filter _).map QhS=((gX es j).map D.int).map T.sh:=avb es j;rw[y];refine mY E.sH.1 rfl f9 rfl (by rw[hP,hP];lia) ?_;refine mY E.uC.1 rfl (gV ak) rfl (by rw[hP,hP];lia) ?_;have l1:(((BO s st es j).map D.str).map T.sh).length=j:=by rw[hP,hP,lk]
  have l2:(((Fz s st es j).map D.int).map T.sh).length=j:=by rw[hP,hP,ls]
  have ix:∀{x:T},Np ((((BO s st es j).map D.str).map T.sh)++[x]).length (j:Int)=some j:=λ{x}=>by rw[j2,l1];exact Qp (y5 j)
  have k:∀{x:T},Np ((((Fz s st es j).map D.int).map T.sh)++[x]).length (j:Int)=some j:=λ{x}=>by rw[j2,l2];exact Qp (y5 j)
  have c0:=k3 (cR s (j:Nat) / 60) (b:=3) Wl;have A:=ky (cR s (j:Nat) / 60) (b:=3) Wl;have ne:(!T8 (.lst ((gX es j).map D.int)) Qfe)=decide (gX es j≠[]):=by
   rw[show T8 _ Qfe=decide (gX es j=[]) from afs (gX es j) []];by_cases e:gX es j=[]
   .rw[kx e,lr (λz=>z e)];rfl
   .rw[lr e,kx e];rfl
  refine B6 (λδ=>δ=[some Qbf,some Qa8,some Qap,some Qbq,some (.lst (((BO s st es j).map .str).map T.sh++[T.sh (.str (xb s st es j))])),some QkF,some Qc1,some QiH]) (UA (AH E.u Qd4 (cu Qa9) (j8 _) (j8 [])).1 ne) (λa=>?_) (λa=>?_) ?_
  .have hz:=i5 a;refine DP (cS (bG (cu (dN (ds:=(["one","all",uZ.getD st Str.empty]:At).map .str) (aJ f9 (aJ f9 (aJ (cS (bG (cu (dN (nS (l:=uZ) rfl) aQ)) QcH (gf Str.empty (l:=uZ) We (show((st:Nat):Int)<3 by lia))) rfl) gi))) aQ)) (ay (kW (ay (GC (ay (c_ ((s,(j:Int))) E.jl E.iI QjK (show(0:Int)<=(j:Int) by lia) rfl)) ak ⟨Wl,Wl⟩)) ak Wl)) (gf Str.empty c0 (A))) rfl) (jT E.sH.1 rfl) QcG rfl rfl ix (ai ?_);show [_,_,_,_,some (T.lst ((((BO s st es j).map D.str).map T.sh++[T.sh (.str "leaf")]).set j _)),_,_,_]=_;rw[Qq l1];unfold xb;rw[cq hz]
  .have hz:gX es j=[]:=Classical.not_not.1 (lx a);refine ai ?_;unfold xb;rw[hO hz];rfl
  rintro δ rfl;refine B6 (λδ=>δ=[some Qbf,some Qa8,some Qap,some Qbq,some QkX,some QkF,some Qc1,some QiH]) (UA (oY (ic (fW QcH ak).1 (λG=>(iU (AH E.u Qd4 (cu Qa9) (j8 _) (j8 [])).1)))) (show _=(decide (st=1)&&decide (gX es j≠[])) by rw[show(!T8 _ (.lst (([]:AT).map D.int)))=decide (gX es j≠[]) from ne];congr 1;rw[decide_eq_decide];lia)) (λa=>?_) (λa=>?_) ?_
  .rw[km]at a;have h1:=i5 a.1;have hz:=i5 a.2;refine DP (cS (bG Qhl (ay (vh E.CB (ay (fW QcG ak).2) E.Cz)) (gf Str.empty (by split<;>decide) (by split<;>decide))) rfl) (jT E.sH.1 rfl) QcG rfl rfl ix (ai ?_);show [_,_,_,_,some (T.lst ((((BO s st es j).map D.str).map T.sh++[T.sh (.str (xb s st es j))]).set j _)),_,_,_]=_;rw[Qq l1,← U1];rw[show Wj s st es j=if j=0 then("all":Str) else "one" by unfold Wj;rw[cq hz,hO h1]];by_cases e:j=0
   .subst e;rfl
   .rw[cq e,lr (show ¬ (j:Int)=0 by lia)];rfl
  .refine ai ?_;rw[← U1];have e:Wj s st es j=xb s st es j:=by
    unfold Wj xb;by_cases hz:gX es j=[]
    .rw[hO hz,hO hz]
    .have:¬ st=1:=λz=>by rw[kx z,kx hz]at a;exact absurd a Wl
     rw[cq hz,cq hz,cq this]
   rw[e]
  rintro δ rfl;have o:uW ((BO s st es QP).map D.str) (j:Int)=some (.str (Wj s st es j)):=by
   refine d8 ?_;unfold BO;rw[la,la,o4 (y5 j)];rfl
  refine B6 (λδ=>δ=[some Qbf,some Qa8,some Qap,some Qbq,some QkX,some (.lst (((Fz s st es QP).map .int).map T.sh)),some Qc1,some QiH]) (dg (bG (vL E.sH.1) QcG o) bQ).1 (λa=>?_) (λa=>?_) ?_
  .have e:=i5 a;have hm:=agV t e;have B:0<(gX es j).length:=List.length_pos_of_mem hm;have b1:=k3 (cR s (j:Nat) / 180) (b:=((gX es j).length:Nat)) We;have b2:=ky (cR s (j:Nat) / 180) (b:=((gX es j).length:Nat)) We;refine DP (cS (bG Qd4 (ay (kW (ay (GC (ay (c_ ((s,(j:Int))) E.jl E.iI QjK (show(0:Int)<=(j:Int) by lia) rfl)) ak ⟨Wl,Wl⟩)) (ay (gT (hP ..) E.fU Qd4 E.fS)) We)) (gJ b1 b2)) rfl) (jT E.uC.1 rfl) QcG rfl rfl k (ai ?_);show [_,_,_,_,_,some (T.lst ((((Fz s st es j).map D.int).map T.sh++[T.sh (.int (-1))]).set j _)),_,_]=_;rw[Qq l2,← U3];unfold ZS;rw[hO e]
  .have e:=lx a;refine ai ?_;rw[← U3];unfold ZS;rw[cq e]
  rintro δ rfl;exact ai ⟨_,_,rfl⟩
 case fin=>
  rintro δ ⟨f,c,rfl⟩;rw[show(dU 0 ((es.length:Nat):Int).toNat).length=es.length by simp[dU]];exact bz (aK (mk_ (BO s st es es.length,es,Fz s st es es.length) E.aqN E.aqM (ah (vL E.sH.1) (ah (aC E.dJ) (ah (vL E.uC.1) aE))) trivial (Fo ..)) rfl) rfl
def iA:Te (aj Qv) ([("script",cG),("moods",cG),("style",cG),("elders",.cell),("kinds",cG),("starts",cG),("k",.cell),("near",cG),("_law_elders",bI),("range",bI),("len",bI),("_law_cell_at",bI),("int",bI),("Tree",bI)])=true:=by decide +kernel
noncomputable def alc:dz ag9 ["script","moods","style"] (aj Qv):=jt
abbrev X3:=top 71
abbrev Qw:=Addr×Int×Nat
noncomputable abbrev YE:At:=["pot","many","box","far"]
noncomputable def uD:Qw->Bn:=λ(y,p,m)=>[.pin y Qhs,.sh Qa3]
def qY:Qw->Bn:=λ(y,p,m)=>[.pin y (.lst [.sh (.int (pv m p))]),.sh Qa3]
def xY:Qw->Prop:=λ(y,p,m)=>m<=10
def uE:Qw->T:=λ(y,p,m)=>(.sh (.tup [.int (q0 m p),.int (ui m p)]):T)
structure aqP(X:Cx)(CL:BC):Prop extends bL X where
 dw:Ln X 0 "pot"
 cY:Ln X 1 "many"
 Af:Ln X 2 "box"
 XN:Ln X 3 "far"
 aU:Gl X "_law_take"
 eG:W6 X CL "_law_take" 1 2 lN pre_take lO kg
def aqQ(E:aqP X CL)(y p m)(h:xY (y,p,m)) :
  dh X CL b (d9 X3) (vv YE (uD (y,p,m))) {nx:=λδ=>uE (y,p,m)=.sh .non/\Keeps δ (qY (y,p,m)),rt:=λc δ=>c=uE (y,p,m)/\Keeps δ (qY (y,p,m))}:=by
 dsimp only [xY,uD,uE,qY]at h ⊢;refine iE E.g E.Af (sW (GL (AU (y,p,((m:Int)+1)) _ E.eG E.aU (gu E.dw.1 rfl (e7 (vd Qcl ak) dm)) Qec rfl ⟨rfl,.inr rfl,trivial⟩) bB.m) rfl) ?_;refine iE E.g E.XN (AU (y,(p / (m+1)),3) _ E.eG E.aU Qa1 QaX rfl ⟨rfl,.inr rfl,trivial⟩) ?_;refine eU (fW (aC E.XN) ak).1 (λa=>?_) (λa=>ai ?_)
 .have a:=i5 a;refine xQ (qU (ds:=[.int (q0 m p),.int _]) (fL (v_ E.Af.1).m (fL (GL (AU (y,(w4 m p),(2*10 ^ (9:Int).toNat+1)) _ E.eG E.aU (gu E.dw.1 rfl (e7 (vd (ay (ae2 ak (ay (Az ak ak ⟨Wl,Wl,Wl⟩)) (.inl ⟨Wl,Wl⟩))) ak) dm)) QaX rfl ⟨rfl,.inr rfl,trivial⟩) ((Az ak ak ⟨Wl,Wl,Wl⟩)).m) vz)) aQ) ⟨?_,?_⟩
  .unfold ui;rw[hO a]
  .unfold pv;rw[hO a];exact o9 (ds:=[_])
 .have a:=lx a;refine xQ (qU (ds:=[.int (q0 m p),.int _]) (fL (v_ E.Af.1).m (fL (GL (AU (y,(w4 m p),7) _ E.eG E.aU Qa1 QaX rfl ⟨rfl,.inr rfl,trivial⟩) bB.m) vz)) aQ) ⟨?_,?_⟩
  .unfold ui;rw[cq a]
  .unfold pv;rw[cq a];exact o9 (ds:=[_])
noncomputable def vO:FG YE ["pot","many"] ["_law_take"] (aj X3):=fG
abbrev X4:=top 72
abbrev Qx:=Addr×Int×Nat×At
noncomputable abbrev YA:At:=["pot","many","heard","way","box"]
noncomputable def xZ:Qx->Bn:=λ(y,p,m,hs)=>[.pin y Qhs,.sh Qa3,.sh (.lst Qik)]
def uF:Qx->Bn:=λ(y,p,m,hs)=>[.pin y (.lst [.sh (.int (Ar m hs p))]),.sh Qa3,.sh (.lst Qik)]
def CD:Qx->Prop:=λ(y,p,m,hs)=>m<=10/\0<hs.length/\hs.length<=10
def x6:Qx->T:=λ(y,p,m,hs)=>(.sh (mT m hs p).d:T)
structure aqR(X:Cx)(CL:BC):Prop extends bL X where
 dw:Ln X 0 "pot"
 cY:Ln X 1 "many"
 jw:Ln X 2 "heard"
 gQ:Ln X 3 "way"
 Af:Ln X 4 "box"
 aU:Gl X "_law_take"
 oH:Gl X "_law_term"
 avj:Gl X "str"
 fS:Gl X "len"
 eG:W6 X CL "_law_take" 1 2 lN pre_take lO kg
 Jr:W6 X CL "_law_term" 2 2 uD xY uE qY
 Kl:kE X "str"
 fU:kE X "len"
theorem aqS(E:aqR X CL)(y p m hs)(h:CD (y,p,m,hs)) :
  dh X CL b (d9 X4) (vv YA (xZ (y,p,m,hs))) {nx:=λδ=>x6 (y,p,m,hs)=.sh .non/\Keeps δ (uF (y,p,m,hs)),rt:=λj δ=>j=x6 (y,p,m,hs)/\Keeps δ (uF (y,p,m,hs))}:=by
 obtain⟨hm,h0,h1⟩:=h;refine iE E.g E.gQ (AU (y,p,5) _ E.eG E.aU Qa1 QaX rfl ⟨rfl,.inr rfl,trivial⟩) ?_;refine eU (oY (ic (Nx QbN ak).1 (λn=>(iU (Jn Qcl ak).1)))) (λa=>?_) (λa=>ai ?_)
 .rw[km]at a;have p1:=i5 a.1;have f:p % 5<2/\0<m:=⟨p1,We⟩;refine iE E.g E.Af (AU (y,(p / 5),(m:Int)) _ E.eG E.aU Qfj Qec rfl ⟨rfl,.inr rfl,trivial⟩) ?_;refine xQ (qU (ds:=[.str "put",.int (p / 5 % (m:Int)),.tup _]) (fL f9.m (fL (v_ E.Af.1).m (fL (AU (t:=.sh _) (y,QhN,m) _ E.Jr E.oH Qfj (show m<=10 by lia) rfl ⟨rfl,.inr rfl,trivial⟩) vz))) aQ) ⟨?_,?_⟩
  .show T.sh _=T.sh (mT m hs p).d;unfold mT;rw[hO f]
   try rfl
  .show Keeps _ [.pin y _,.sh Qa3,.sh _];unfold Ar;rw[hO f];exact o9 (ds:=[_,_])
 have c:¬ (p % 5<2/\0<m):=λ⟨i,l⟩=>by
  rw[kx i,kx (show(0:Int)<(m:Int) by lia)]at a;exact absurd a Wl
 refine eU (Nx QbN ak).1 (λa=>?_) (λa=>ai ?_)
 .have a:=i5 a;have s0:=k3 (p / 5) (b:=3) Wl;have cl:∀k:Nat,k<3->(toString (k:Int):Str).length<=2/\(k:Int).natAbs.log2<1920:=by decide +kernel
  obtain⟨sl,sg⟩:=cl (p / 5 % 3).toNat We;rw[show(((p / 5 % 3).toNat:Nat):Int)=p / 5 % 3 by lia]at sl sg;refine xQ (qU (ds:=[.str "say",.str (wN (p / 5 % 3)),.tup _]) (fL f9.m (fL (af1 f9.m (af3 E.Kl E.avj (AU (y,(p / 5),3) _ E.eG E.aU Qa1 QaX rfl ⟨rfl,.inr rfl,trivial⟩) sg) (by rw[lh];have h1:("w":Str).length=1:=Wg;lia)) (fL (AU (y,(p / 5 / 3),m) _ E.Jr E.oH Qfj (show m<=10 by lia) rfl ⟨rfl,.inr rfl,trivial⟩) vz))) aQ) ⟨?_,?_⟩
  .show T.sh _=T.sh (mT m hs p).d;unfold mT;rw[cq c,hO a]
   try rfl
  .show Keeps _ [.pin y _,.sh Qa3,.sh _];unfold Ar;rw[cq c,hO a];exact o9 (ds:=[_,_])
 have e:=lx a;have g0:=k3 (p / 5) (b:=(hs.length:Int)) We;have g1:=ky (p / 5) (b:=(hs.length:Int)) We
 .refine xQ (qU (ds:=[.str "call",.str _]) (fL f9.m (fL (zg (v_ E.jw.1).m (AU (y,(p / 5),(hs.length:Int)) _ E.eG E.aU (gu E.dw.1 rfl (e7 (gT (hP ..) E.fU (aC E.jw) E.fS) dm)) Qec rfl ⟨rfl,.inr rfl,trivial⟩) (gf Str.empty g0 g1)) vz)) aQ) ⟨?_,?_⟩
  .show T.sh _=T.sh (mT m hs p).d;unfold mT;rw[cq c,cq e]
   try rfl
  .show Keeps _ [.pin y _,.sh Qa3,.sh _];unfold Ar;rw[cq c,cq e];exact o9 (ds:=[_,_])
noncomputable def lP:FG YA ["pot","many","heard"] ["_law_take","_law_term","str","len"] (aj X4):=fG
abbrev ql:=top 75
abbrev vP:=Int×Nat×At
noncomputable abbrev CF:At:=["cell","many","heard","pot"]
noncomputable def qZ:vP->BA:=λ(c,m,hs)=>[.int c,.int m,.lst Qik]
def q8:vP->Prop:=λ(c,m,hs)=>m<=10/\0<hs.length/\hs.length<=10
def rg:vP->T:=λ(c,m,hs)=>(.sh (.tup ((Tq c m hs).map cU.d)):T)
structure Qy(X:Cx)(CL:BC):Prop extends bL X where
 Eb:Ln X 0 "cell"
 cY:Ln X 1 "many"
 x8:zW X "many"
 jw:Ln X 2 "heard"
 vQ:zW X "heard"
 dw:Ln X 3 "pot"
 Kk:zW X "pot"
 sI:Gl X "tuple"
 fE:Gl X "range"
 aU:Gl X "_law_take"
 sJ:kE X "tuple"
 fF:kE X "range"
 eG:W6 X CL "_law_take" 1 2 lN pre_take lO kg
 X5:W6 X CL "_law_deed" 3 3 xZ CD x6 uF
theorem Qz(E:Qy X CL) :
  oz X CL b ql CF qZ q8 rg:=by
 rintro⟨c,m,hs⟩ h;have q:=h;refine aL E.g E.dw (aK (dQ (aO (GC (ay (kW (aC E.Eb) (ay (Az ak ak ⟨Wl,Wl,Wl⟩)) Wl)) ak ⟨Wl,Wl⟩) bD) aQ) rfl) ?_;refine PL (i:=3) rfl λy=>?_;obtain⟨p,l⟩:∃p,p=c % 10 ^ (64:Int).toNat / 13:=⟨_,rfl⟩;show dh X CL b _ _ {nx:=_,rt:=λr _=>r=T.sh _,bk:=_,ct:=_};unfold Tq;rw[← l];have s:=ky p (b:=4) Wl;obtain⟨k,a⟩:∃k:Nat,k=[0,1,0,2].getD (p % 4).toNat 0:=⟨_,rfl⟩;have o:k<=2:=by
  have:∀j,j<4->[0,1,0,2].getD j 0<=2:=by decide +kernel
  exact a▸this _ We
 rw[← a];refine xQ (af6 E.sJ (sW (NW (n:=k) (i:=3) (λj=>.lst [.sh (.int (p3 m hs _ j))]) (λj=>(mT m hs (p3 m hs (p / 4) j)).d) Qks E.g.calm E.fF E.fE (sW (zg (eW (dN Qfk aQ)).m (AU (y,p,4) _ E.eG E.aU Qa1 QaX rfl ⟨rfl,.inr rfl,trivial⟩) ?ix) rfl) We rfl Wl Wl (λC s0 u f0 t j f=>?zX)) ?ceq) (eY uz _) E.sI) rfl
 case zX=>
  exact AU (y,p3 m hs _ j,m,hs) _ (Io E.X5) vA QkO q rfl ⟨rfl,.inr rfl,trivial⟩
 case ceq=>
  unfold n8;rw[ia,ia];rfl
 case ix=>
  obtain⟨j,f⟩:∃j:Nat,p % 4=j:=⟨(p % 4).toNat,We⟩;have e:j<4:=by lia
  rw[f,jj]at a;rw[f,a]
  match j,e with
  | 0,_=>rfl
  | 1,_=>rfl
  | 2,_=>rfl
  | 3,_=>rfl
def dW:Te (aj ql) ([("cell",cG),("many",.cell),("heard",.cell),("pot",.cell),("tuple",bI),("range",bI),("_law_take",bI)])=true:=by decide +kernel
noncomputable def Ma:dz CF ["cell","many","heard"] (aj ql):=jt
abbrev NI:=top 73
abbrev Kj:=Addr×Int×Nat×Nat
noncomputable abbrev XB:At:=["pot","many","moods","way","one"]
noncomputable def GZ:Kj->Bn:=λ(y,p,m,n)=>[.pin y Qhs,.sh Qa3,.sh Qdp]
def CG:Kj->Bn:=λ(y,p,m,n)=>[.pin y (.lst [.sh (.int (Kt m n p))]),.sh Qa3,.sh Qdp]
def QB:Kj->Prop:=λ(y,p,m,n)=>m<=10/\0<n/\n<=100
def G0:Kj->T:=λ(y,p,m,n)=>(.sh (qX (p6 m n p)):T)
structure avl(X:Cx)(CL:BC):Prop extends bL X where
 dw:Ln X 0 "pot"
 cY:Ln X 1 "many"
 fV:Ln X 2 "moods"
 gQ:Ln X 3 "way"
 rq:Ln X 4 "one"
 aU:Gl X "_law_take"
 oH:Gl X "_law_term"
 eG:W6 X CL "_law_take" 1 2 lN pre_take lO kg
 Jr:W6 X CL "_law_term" 2 2 uD xY uE qY
theorem avm(E:avl X CL)(y p m n)(h:QB (y,p,m,n)) :
  dh X CL b (d9 NI) (vv XB (GZ (y,p,m,n))) {nx:=λδ=>G0 (y,p,m,n)=.sh .non/\Keeps δ (CG (y,p,m,n)),rt:=λd δ=>d=G0 (y,p,m,n)/\Keeps δ (CG (y,p,m,n))}:=by
 obtain⟨hm,h0,h1⟩:=h;have w0:=k3 p (b:=6) Wl;refine iE E.g E.gQ (AU (y,p,6) _ E.eG E.aU Qa1 QaX rfl ⟨rfl,.inr rfl,trivial⟩) ?_;refine eU (Nx QbN ak).1 (λa=>?_) (λa=>ai ?_)
 .have a:=i5 a;refine xQ (qU (ds:=[.str _,.int (p / 6 % (n:Int))]) (fL (cS (bG Qhl QbN (gf Str.empty (l:=(["open","shut"]:At)) w0 (show p % 6<2 from a))) rfl).m (fL (AU (y,(p / 6),(n:Int)) _ E.eG E.aU (gu E.dw.1 rfl (e7 (v_ E.fV.1) dm)) Qec rfl ⟨rfl,.inr rfl,trivial⟩) vz)) aQ) ⟨?_,?_⟩
  .show T.sh _=T.sh _;unfold p6;rw[hO a];have:p % 6=0\/p % 6=1:=by lia
   obtain z|z:=this<;>rw[z]<;>rfl
  .show Keeps _ [.pin y _,.sh Qa3,.sh Qdp];unfold Kt;rw[hO a];exact o9 (ds:=[_,_])
 have c:=lx a;refine iE E.g E.rq (AU (y,(p / 6),m) _ E.Jr E.oH Qfj (show m<=10 by lia) rfl ⟨rfl,.inr rfl,trivial⟩) ?_;refine xQ (qU (ds:=[.str _,.tup _,.tup _]) (fL (cS (bG (cu (dN (nS (l:=Qi) rfl) aQ)) (ay (Ay QbN ak)) (gf Str.empty (l:=Qi) We (show p % 6-2<4 by lia))) rfl).m (fL (v_ E.rq.1).m (fL (AU (t:=.sh _) (y,Qib,m) _ E.Jr E.oH Qfj (show m<=10 by lia) rfl ⟨rfl,.inr rfl,trivial⟩) vz))) aQ) ⟨?_,?_⟩
 .show T.sh _=T.sh (qX (p6 m n p));unfold p6;rw[cq c];rfl
 .show Keeps _ [.pin y _,.sh Qa3,.sh Qdp];unfold Kt;rw[cq c];exact o9 (ds:=[_,_])
noncomputable def vR:FG XB ["pot","many","moods"] ["_law_take","_law_term"] (aj NI):=fG
abbrev Ki:=top 74
abbrev NH:=Int×AT×Nat×At×Nat
noncomputable abbrev Ta:At:=["cell","elders","many","heard","style","pot","moods","source","sign","target","mode","asks","deeds"]
noncomputable def G3:NH->BA:=λ(c,es,m,hs,st)=>[.int c,.lst Qct,.int m,.lst Qik,.int st]
def G4:NH->Prop:=λ(c,es,m,hs,st)=>m<=10/\0<hs.length/\hs.length<=10/\0<es.length/\es.length<=100/\(st=1->es=E7)
def G5:NH->T:=λ(c,es,m,hs,st)=>(.sh (iu (mE c es.length m hs st)):T)
structure avn(X:Cx)(CL:BC):Prop extends bL X where
 Eb:Ln X 0 "cell"
 dJ:Ln X 1 "elders"
 xX:zW X "elders"
 cY:Ln X 2 "many"
 x8:zW X "many"
 jw:Ln X 3 "heard"
 vQ:zW X "heard"
 i6:Ln X 4 "style"
 dw:Ln X 5 "pot"
 Kk:zW X "pot"
 fV:Ln X 6 "moods"
 ald:zW X "moods"
 x9:Ln X 7 "source"
 ahf:zW X "source"
 lQ:Ln X 8 "sign"
 lR:Ln X 9 "target"
 tD:Ln X 10 "mode"
 A5:Ln X 11 "asks"
 CJ:Ln X 12 "deeds"
 fS:Gl X "len"
 aU:Gl X "_law_take"
 fE:Gl X "range"
 sI:Gl X "tuple"
 fU:kE X "len"
 eG:W6 X CL "_law_take" 1 2 lN pre_take lO kg
 fF:kE X "range"
 sJ:kE X "tuple"
 avo:W6 X CL "_law_ask" 3 3 GZ QB G0 CG
 X5:W6 X CL "_law_deed" 3 3 xZ CD x6 uF
theorem avp(E:avn X CL) :
  oz X CL b Ki Ta G3 G4 G5:=by
 rintro⟨c,es,m,hs,st⟩ h;dsimp only [G4,G3,G5]at h ⊢;obtain⟨hm,h0,h1,n0,n1,hE⟩:=h;obtain⟨n,U⟩:∃n,n=es.length:=⟨_,rfl⟩;have I:st=1->n=7:=λe=>by rw[U,hE e];rfl
 have L:=ZA (c:=c) (st:=st) (n:=n) We I;have K:=λe=>(Zs (c:=c) (n:=n) (st:=st) e 0).1;have z:mE c n m hs st=⟨n2 c n st,hs.getD (uf c n % (hs.length:Int)).toNat Str.empty,(vl m n (wz c n hs) (sk c n hs)).map qX,_,pj c n hs st,w1 c n hs st⟩:=rfl;have S:sk c n hs<=2:=by
  have:∀j:Nat,j<4->KA.getD j 0<=2:=by decide +kernel
  have a0:=k3 (sf c n hs) (b:=4) Wl;have a1:=ky (sf c n hs) (b:=4) Wl;exact this _ We
 have B:wy c n m hs % 3=(zp c n m hs:Nat):=by
  have d0:=k3 (wy c n m hs) (b:=3) Wl;unfold zp;lia
 have w:n2 c n st=if st=1 then sm.getD (c % 10 ^ (64:Int).toNat % (n:Int) % 4).toNat 0 else c % 10 ^ (64:Int).toNat % (n:Int):=rfl
 have e1:uf c n=c % 10 ^ (64:Int).toNat / (n:Int):=rfl;have e2:si c n hs=uf c n / (hs.length:Int):=rfl;have e0:pk c n hs=si c n hs % ((n:Int)+1)-1:=rfl;have e3:wW c n hs=si c n hs / ((n:Int)+1):=rfl;have f:pj c n hs st=if st=1/\pk c n hs % 2=0 then(sy (n2 c n st)).getD (pk c n hs / 2 % 2).toNat 0 else pk c n hs:=rfl
 have q:w1 c n hs st=if pj c n hs st=-1 then("new":Str) else xa.getD (wW c n hs % 3).toNat Str.empty:=rfl
 have e4:sf c n hs=wW c n hs / 3:=rfl;have F:sk c n hs=KA.getD (sf c n hs % 4).toNat 0:=rfl;have Z:wz c n hs=sf c n hs / 4:=rfl;have O:wy c n m hs=rf m n (wz c n hs) (sk c n hs):=rfl;generalize zp c n m hs=J at z B;generalize wy c n m hs=o at z B O;generalize sk c n hs=an at z S F O;generalize wz c n hs=u at z Z O;generalize sf c n hs=r at e4 F Z;generalize w1 c n hs st=mo at z q;generalize wW c n hs=s at e3 q e4;generalize pj c n hs st=tg at z f q;generalize pk c n hs=t0 at e0 f;generalize si c n hs=M at e2 e0 e3;generalize uf c n=A at z e1 e2;generalize n2 c n st=k at z w f L K;obtain⟨v,H⟩:∃p,p=c % 10 ^ (64:Int).toNat:=⟨_,rfl⟩;rw[← H]at w e1;refine aL E.g E.dw (aK (dQ (aO (kW (aC E.Eb) (ay (Az ak ak ⟨Wl,Wl,Wl⟩)) Wl) bD) aQ) (t2:=.lst [.sh (.int v)]) (by rw[H])) ?_;refine PL (i:=5) rfl λy=>?_;refine aL E.g E.fV (aK (gT (hP ..) E.fU (aC E.dJ) E.fS) (t2:=.sh (.int (n:Nat))) (by rw[U])) ?_;show dh X CL b _ [some Qcc,some Qbq,some Qbr,some Qb8,some Qap,some (.pin y (.lst [.sh (.int v)])),some Qa8,none,none,none,none,none,none] {nx:=_,rt:=λDS _=>DS=T.sh (iu (mE c es.length m hs st)),bk:=_,ct:=_};rw[← U]at n0 n1 ⊢;have g0:=k3 (A) (b:=(hs.length:Int)) We;have g1:=ky (A) (b:=(hs.length:Int)) We;have m0:=k3 (s) (b:=3) Wl;have m1:=ky (s) (b:=3) Wl;refine iE E.g E.x9 (AU (t:=.sh Qho) (y,v,(n:Int)) (.pin y (.lst [.sh (.int A)])) E.eG E.aU (gu E.dw.1 rfl (e7 (v_ E.fV.1) dm)) Qec rfl ⟨rfl,.inr (by rw[e1]),trivial⟩) ?_;show dh X CL b _ [some Qcc,some Qbq,some Qbr,some Qb8,some Qap,some (.pin y (.lst [.sh (.int A)])),some Qa8,some (.sh Qho),none,none,none,none,none] _;refine iE E.g E.lQ (zg (v_ E.jw.1).m (AU (t:=.sh (.int (A % (hs.length:Int)))) (y,A,(hs.length:Int)) (.pin y (.lst [.sh (.int M)])) E.eG E.aU (gu E.dw.1 rfl (e7 (gT (hP ..) E.fU (aC E.jw) E.fS) dm)) Qec rfl ⟨rfl,.inr (by rw[e2]),trivial⟩) (gf Str.empty g0 g1)) ?_;show dh X CL b _ [some Qcc,some Qbq,some Qbr,some Qb8,some Qap,some (.pin y (.lst [.sh (.int M)])),some Qa8,some (.sh Qho),some _,none,none,none,none] _;refine iE E.g E.lR (sW (GL (AU (t:=.sh (.int (M % ((n:Int)+1)))) (y,M,((n:Int)+1)) QgQ E.eG E.aU (gu E.dw.1 rfl (e7 (vd (aC E.fV) ak) dm)) Qec rfl ⟨rfl,.inr (by rw[e3]),trivial⟩) bB.m) (t2:=.sh (.int t0)) (by rw[e0])) ?_;show dh X CL b _ [some Qcc,some Qbq,some Qbr,some Qb8,some Qap,some QgQ,some Qa8,some (.sh Qho),some _,some (.sh (.int t0)),none,none,none] _;obtain⟨sg,G⟩:∃sg,sg=hs.getD (A % (hs.length:Int)).toNat Str.empty:=⟨_,rfl⟩;rw[← G];refine B6 (λδ=>δ=[some Qcc,some Qbq,some Qbr,some Qb8,some Qap,some QgQ,some Qa8,some (.sh (.int (k))),some QdQ,some (.sh (.int (t0))),none,none,none]) (fW QcH ak).1 (λa=>?_) (λa=>?_) ?_
 .have e:st=1:=by have:=i5 a;lia
  have a0:=k3 (v % (n:Int)) (b:=4) Wl;have a1:=ky (v % (n:Int)) (b:=4) Wl;refine aL E.g E.x9 (cS (bG (cu (dN (ds:=sm.map .int) Qfk aQ)) (ay (kW (aC E.x9) ak Wl)) (gJ (bs:=sm) a0 (show _<((4:Nat):Int) from a1))) rfl) (ai ?_);rw[w,hO e];rfl
 .have e:¬ st=1:=by have:=lx a;lia
  refine ai ?_;rw[w,cq e]
 rintro δ rfl;have u0:=k3 (t0 / 2) (b:=2) Wl;have u1:=ky (t0 / 2) (b:=2) Wl;refine B6 (λδ=>δ=[some Qcc,some Qbq,some Qbr,some Qb8,some Qap,some QgQ,some Qa8,some (.sh (.int (k))),some QdQ,some (.sh (.int (tg))),none,none,none]) (oY (ic (fW QcH ak).1 (λY=>(iU (fW (ay (kW (aC E.lR) ak Wl)) ak).1)))) (λa=>?_) (λa=>?_) ?_
 .rw[km]at a;have e:st=1:=by have:=i5 a.1;lia
  have ev:=i5 a.2;have N:=hE e;have Y:=K e;have R:k<7:=by have:=I e;lia
  obtain⟨bl,Tf⟩:∃bl,bl=sy k:=⟨_,rfl⟩;rw[← Tf]at Y f;obtain⟨P,hx⟩:∃x,x=E7.getD k.toNat 0:=⟨_,rfl⟩;refine aL E.g E.lR (cS (bG (cu (aK (lH (p:=λd=>decide (E7.getD d.ug.toNat 0=P)) (g:=λd=>T.sh d) (bu (.cons E.dJ.1 (.inl E.xX) (.cons E.x9.1 (.inl E.ahf) .nil)) Wg) E.g.calm (jD E.fF ak We E.fE) Qar (λC s0 H0 f0 b' d hd=>?zX) (by simp[dU,lh])) (t2:=.lst ((bl.map .int).map T.sh)) ?ceq)) (ay (kW (ay (GC (aC E.lR) ak ⟨Wl,Wl⟩)) ak Wl)) (gJ (bs:=bl) u0 (by rw[Y];exact u1))) rfl) (ai ?_)
  case zX=>
   obtain⟨i,hi,rfl⟩:=ip.1 hd;have hi:=ml.1 hi;have hi:i<7:=hi;exact⟨(fW (wY (bG (fZ 1) (ju 0) (gJ (show(0:Int)<=0+(i:Int) by lia) (show 0+(i:Int)<es.length by rw[N];show 0+(i:Int)<7;lia))) (by rw[N];rfl)) (wY (bG (fZ 1) (fZ 2) (gJ L.1 (show k<es.length by rw[N];exact R))) (by rw[N,hx]))).1,λ_=>v_ (DR 0)⟩
  case ceq=>
   refine congrArg T.lst ?_;rw[Tf];unfold sy dU;rw[← hx,o2,ia,ia,ia];have e1:((λd:D=>decide (E7.getD d.ug.toNat 0=P))∘λ(i:Nat)=>D.int QaJ)=λ(i:Nat)=>decide (E7.getD i 0=P):=by
    funext i;show decide (E7.getD (0+(i:Int)).toNat 0=_)=_;rw[mv,jj]
   rw[e1];exact oo λi _=>by
    show T.sh (.int QaJ)=T.sh (.int (i:Int));rw[mv]
  rw[f,hO ⟨e,ev⟩];rfl
 .refine ai ?_;rw[f,cq λ⟨z1,z2⟩=>by rw[kx (show(st:Int)=1 by lia),kx z2]at a;exact absurd a Wl]
 rintro δ rfl;refine iE E.g E.tD (zg (eW (dN (nS (l:=xa) rfl) aQ)).m (AU (t:=.sh (.int (s % 3))) (y,s,3) Qi4 E.eG E.aU Qa1 QaX rfl ⟨rfl,.inr (by rw[e4]),trivial⟩) (gf Str.empty (l:=xa) m0 (show s % 3<3 from m1))) ?_;show dh X CL b _ [some Qcc,some Qbq,some Qbr,some Qb8,some Qap,some Qi4,some Qa8,some QeN,some QdQ,some QfU,some (.sh (.str (xa.getD (s % 3).toNat Str.empty))),none,none] _;refine B6 (λδ=>δ=[some Qcc,some Qbq,some Qbr,some Qb8,some Qap,some Qi4,some Qa8,some (.sh (.int (k))),some QdQ,some (.sh (.int (tg))),some (.sh (.str (mo))),none,none]) (fW (aC E.lR) QbA).1 (λa=>?_) (λa=>?_) ?_
 .refine aL E.g E.tD f9 (ai ?_);rw[q,hO (i5 a)];rfl
 .refine ai ?_;rw[q,cq (lx a)]
 rintro δ rfl;have a0:=k3 (r) (b:=4) Wl;have a1:=ky (r) (b:=4) Wl;refine aaB (n:=an) (i:=5) (y:=y) (λj=>.lst [.sh (.int (rf m n (u) j))]) (λj=>qX QjD) E.g E.A5 (bu (.cons E.cY.1 (.inl E.x8) (.cons E.fV.1 (.inl E.ald) (.cons E.dw.1 (.inl E.Kk) .nil))) Wg) E.fF E.fE (zg (eW (dN (ds:=[.int 0,.int 1,.int 1,.int 2]) Qfk aQ)).m (AU (t:=.sh (.int (r % 4))) (y,r,4) (.pin y (.lst [.sh (.int u)])) E.eG E.aU Qa1 QaX rfl ⟨rfl,.inr (by rw[Z]),trivial⟩) ?ix) We rfl Wl Wl (λC s0 H0 f0 b' j W=>?X6) ?rest (by exact h7 rfl) QbM
 case ix=>
  show uW [D.int 0,.int 1,.int 1,.int 2] (r % 4)=some (.int (an:Nat));rw[F];obtain⟨j,W⟩:∃j:Nat,r % 4=j:=⟨(r % 4).toNat,We⟩;have V:j<4:=by lia
  rw[W,jj];refine d8 ?_
  match j,V with
  | 0,_=>rfl
  | 1,_=>rfl
  | 2,_=>rfl
  | 3,_=>rfl
 case X6=>
  exact AU (t:=.sh (qX QjD)) (y,rf m n (u) j,m,n) _ (Io E.avo) vA (gu (LY 3) rfl (e7 (v_ (LY 1)) (e7 (v_ (LY 2)) dm))) ⟨hm,n0,n1⟩ rfl ⟨rfl,.inr rfl,trivial⟩
 case rest=>
 rw[← O];show dh X CL b _ [some Qcc,some Qbq,some Qbr,some Qb8,some Qap,some (.pin y (.lst [.sh (.int o)])),some Qa8,some QeN,some QdQ,some QfU,some (.sh (.str mo)),some _,none] _;refine aaB (n:=J) (i:=5) (y:=y) (λj=>.lst [.sh (.int Qhx)]) (λj=>(mT m hs Qhx).d) E.g E.CJ Qks E.fF E.fE (sW (AU (t:=.sh (.int (o % 3))) (y,o,3) (.pin y (.lst [.sh (.int (o / 3))])) E.eG E.aU Qa1 QaX rfl ⟨rfl,.inr rfl,trivial⟩) (t2:=.sh (.int (J:Nat))) (by rw[B])) We rfl Wl Wl (λC s0 H0 f0 b' j W=>?ahg) ?ahh (by exact h7 rfl) QbM
 case ahg=>
  exact AU (t:=.sh (mT m hs Qhx).d) (y,p3 m hs (o / 3) j,m,hs) _ (Io E.X5) vA QkO ⟨hm,h0,h1⟩ rfl ⟨rfl,.inr rfl,trivial⟩
 case ahh=>
 have ea:((List.range an).map λj=>T.sh (qX QjD))=((vl m n (u) an).map qX).map T.sh:=by unfold vl;rw[ia,ia];rfl
 have ed:((List.range J).map λj=>T.sh (mT m hs Qhx).d)=((n8 m hs (o / 3) J).map cU.d).map T.sh:=by unfold n8;rw[ia,ia];rfl
 rw[ea,ed];show dh X CL b _ [some Qcc,some Qbq,some Qbr,some Qb8,some Qap,some _,some Qa8,some QeN,some QdQ,some QfU,some (.sh (.str mo)),some (.lst (((vl m n u an).map qX).map T.sh)),some _] _;exact bz (aK (jR (ds:=[.int (k),.str sg,.tup ((vl m n (u) an).map qX),.tup ((n8 m hs (o / 3) J).map cU.d),.int (tg),.str (mo)]) (aJ (v_ E.x9.1) (aJ (v_ E.lQ.1) (aJ (DH E.sJ (vL E.A5.1) (eY Jb _) E.sI) (aJ (DH E.sJ (vL E.CJ.1) (eY uz _) E.sI) (aJ (v_ E.lR.1) (aJ (v_ E.tD.1) gi)))))) aQ) (by rw[z,G];rfl)) rfl
def gR:Te (aj Ki) ([("cell",cG),("elders",.cell),("many",.cell),("heard",.cell),("style",cG),("pot",.cell),("moods",.cell),("source",.cell),("sign",cG),("target",cG),("mode",cG),("asks",cG),("deeds",cG),("len",bI),("_law_take",bI),("range",bI),("tuple",bI)])=true:=by decide +kernel
noncomputable def aqT:dz Ta ["cell","elders","many","heard","style"] (aj Ki):=jt
abbrev vS:=inClass (top 8) 0
abbrev vU:=BA×BA×V×BA×BA×BA
noncomputable abbrev CK:At:=["self","boxes","names","tree","ins","outs","ways"]
noncomputable def yb:vU->BA:=λ(bs,nm,tv,is,os,ws)=>[.lst bs,.lst nm,.val tv,.lst is,.lst os,.lst ws]
def yc:vU->Prop:=λ(bs,nm,tv,is,os,ws)=>D.bS bs=true/\D.bS nm=true/\D.bS is=true/\D.bS os=true/\D.bS ws=true
def yd:vU->BN:=λ(bs,nm,tv,is,os,ws)=>(DV bs nm (.sh (.val tv)) is os ws:BN)
structure QC(X:Cx)(CL:BC):Prop extends bL X where
 bW:Ln X 0 "self"
 ck:Ln X 1 "boxes"
 G6:Ln X 2 "names"
 bA:Ln X 3 "tree"
 Kb:Ln X 4 "ins"
 QD:Ln X 5 "outs"
 pe:Ln X 6 "ways"
 cM:Gl X "list"
 cD:kE X "list"
 aA:jP X.K QR
 aD:jP X.K Qac
 dX:aF X.K QR "boxes"
 bZ:aF X.K Qac "boxes"
 kh:aF X.K QR "names"
 bf:aF X.K QR "tree"
 ye:aF X.K QR "ins"
 vV:aF X.K QR "outs"
 bR:aF X.K QR "ways"
def QF(E:QC X CL)(bs nm:BA)(tv:V)(is os ws:BA)(y:Addr)(h:D.bS bs=true/\D.bS nm=true/\D.bS is=true/\D.bS os=true/\D.bS ws=true) :
  dh X CL b (d9 vS) (WR CK y "Chart" [.lst bs,.lst nm,.val tv,.lst is,.lst os,.lst ws]) {nx:=λδ=>δ[0]? = some (some (.pin y (.ins "Chart" (DV bs nm (.sh (.val tv)) is os ws)))),rt:=λ_ _=>False}:=by
 obtain⟨h1,h2,d,c,a⟩:=h;refine qS E.aA E.dX E.bW.1 (g7 E.cD (aC E.ck) h1 E.cM bH) rfl Qbd ?_;refine qS E.aA E.kh E.bW.1 (g7 E.cD (aC E.G6) h2 E.cM bH) rfl Qbd ?_;refine qS E.aA E.bf E.bW.1 (v_ E.bA.1) rfl Qbd ?_;refine qS E.aA E.ye E.bW.1 (g7 E.cD (aC E.Kb) d E.cM bH) rfl Qbd ?_;exact qS E.aA E.vV E.bW.1 (g7 E.cD (aC E.QD) c E.cM bH) rfl Qbd (qS E.aA E.bR E.bW.1 (g7 E.cD (aC E.pe) a E.cM bH) rfl Qbd (ai rfl))
noncomputable def dY:FG CK ["self","boxes","names","tree","ins","outs","ways"] ["list"] (aj vS):=fG
theorem azb{l:Q1}{k:Nat}{z:Int}(hz:z=(k:Int)):cutD l none (some z)=l.take k:=by
 subst hz;unfold cutD;have e1:HT.Lp l.length 0 none=0:=rfl;have e2:HT.Lp l.length l.length (some k)=min k l.length:=by
  unfold HT.Lp;simp;lia
 rw[e1,e2];simp
noncomputable def qH:Cc:=[0,1,0,1,0,1,2,1]
def Vc(c:CH):T:=.ins "Chart" (DV (c.bs.map qi) c.nm (.sh QhD) (c.is.map .tup) (c.os.map .tup) (c.ws.map iu))
def adv(c:CH):(Vc c).gW=c.d:=by
 unfold Vc CH.d;rw[Xr,T.gW]
def PH:∀k:Nat,k<100->((toString (k:Int):Str).length<=2/\(k:Int).natAbs.log2<1920):=by decide +kernel
def Vd{f:Nat->D}{g:D->T}(n:Nat)(a:∀k:Nat,g (.int Qgc)=T.sh (f k)):((dU 0 ((n:Nat):Int).toNat).filter λ_=>true).map g=((List.range n).map f).map T.sh:=by
 rw[jF];unfold dU;rw[ia,ia];exact oo λk _=>a k
theorem B1{d:D}(h:d∈dU 0 ((n:Nat):Int).toNat):∃k:Nat,k<n/\d=.int Qgc:=by
 obtain⟨k,a,rfl⟩:=ip.1 h;exact⟨k,by have:=ml.1 a;lia,rfl⟩
abbrev G7:=top 76
abbrev QG:=AT
noncomputable abbrev aa8:At:=["script","pot","style","moods","many","ways","heard","tree","boxes","ins","outs","drawn","names"]
noncomputable def zx:QG->BA:=λs=>[.lst (s.map .int)]
def zy:QG->Prop:=λs=>s.length<=1000
def zA:QG->T:=λs=>(Vc (vk qH 10 s):T)
structure ale(X:Cx)(CL:BC):Prop extends bL X where
 cj:Ln X 0 "script"
 uG:zW X "script"
 dw:Ln X 1 "pot"
 i6:Ln X 2 "style"
 alf:zW X "style"
 fV:Ln X 3 "moods"
 cY:Ln X 4 "many"
 x8:zW X "many"
 pe:Ln X 5 "ways"
 jw:Ln X 6 "heard"
 vQ:zW X "heard"
 bA:Ln X 7 "tree"
 A6:zW X "tree"
 ck:Ln X 8 "boxes"
 Kb:Ln X 9 "ins"
 QD:Ln X 10 "outs"
 aa9:Ln X 11 "drawn"
 G6:Ln X 12 "names"
 iI:Gl X "_law_cell_at"
 aU:Gl X "_law_take"
 Ve:Gl X "_law_tree"
 fS:Gl X "len"
 fE:Gl X "range"
 alg:Gl X "Chart"
 fc:Gl X "sorted"
 jl:Fc X CL "_law_cell_at" 1 2 oE oF oG
 eG:W6 X CL "_law_take" 1 2 lN pre_take lO kg
 aqU:Fc X CL "_law_tree" 3 3 Jo Jp Jq
 fU:kE X "len"
 fF:kE X "range"
 alh:Fm X CL "Chart" 1 7 yb yc yd
 fh:kE X "sorted"
 Kl:kE X "str"
 CM:Fc X CL "_law_some_deeds" 4 3 qZ q8 rg
 avv:Fc X CL "_law_way" 4 5 G3 G4 G5
 bO:jP X.K Qag
 aZ:aF X.K Qag "kinds"
 cZ:aF X.K Qag "elders"
 lam:xC X CL "#_law_chart.<locals>.<lambda>" "_law_chart.<locals>.<lambda>"
 dp:X.A.depth<recursionLimit
 rm:fO 4 X.A
theorem ali(E:ale X CL) :
  oz X CL b G7 aa8 zx zy zA:=by
 intro s h;dsimp only [zy,zx,zA]at h ⊢;have ag:s.length<=1000:=h;have z0:(0:Int)<=0:=by decide
 have M:1<=10/\10<=10:=by decide
 have pV:=ag2 (SL:=qH) (s:=s) Wl;obtain⟨B,ba,O⟩:=XR (SL:=qH) (mm:=10) (s:=s);have Wn:=X1 (SL:=qH) (s:=s) M;obtain⟨a0,aT,N⟩:=XS (SL:=qH) (s:=s) M;have ar:=X0 (mm:=10) (s:=s);have ab:=XX (mm:=10) (s:=s);obtain⟨ae,hw⟩:=ag3 (SL:=qH) (s:=s) M;have i1:=(Qs (SL:=qH) (mm:=10) (s:=s) 1).2;have i2:=(Qs (SL:=qH) (mm:=10) (s:=s) 2).2;have Ga:Vc (vk qH 10 s)=.ins "Chart" (DV (((List.range (mW 10 s)).map (Wk s)).map qi) (((List.range (xq qH 10 s).length).map oC).map .str) (.sh (cW (BO s (cst qH s) (xq qH 10 s) (xq qH 10 s).length) (xq qH 10 s) (Fz s (cst qH s) (xq qH 10 s) (xq qH 10 s).length))) ((rb qH 10 s 1).map .tup) ((rb qH 10 s 2).map .tup) ((vb qH 10 s).map iu)):=rfl;have r:vb qH 10 s=e9 bT.src ((List.range (sr 10 s)).map λ(k:Nat)=>mE Qgy (xq qH 10 s).length (mW 10 s) (oT qH 10 s) (cst qH s)):=rfl;have F:∀j,rb qH 10 s j=(List.range (xq qH 10 s).length).map λ(k:Nat)=>(Tq (cR s (j+(k:Int))) (mW 10 s) (oT qH 10 s)).map cU.d:=λ_=>rfl;have J:xq qH 10 s=L7 s (vj qH 10 s) (cst qH s):=rfl;have aa:vc s=cR s 0 % 10 ^ (9:Int).toNat:=rfl;have S:cst qH s=qH.getD (vc s % 8).toNat 0:=rfl;have eq1:sx s=vc s / 8:=rfl;have V:((cmd 10 s:Nat):Int)=1+sx s % ((10:Nat):Int):=by unfold cmd;lia
 have eq2:xl 10 s=sx s / ((10:Nat):Int):=rfl;have U:((mW 10 s:Nat):Int)=xl 10 s % 4:=by unfold mW;lia
 have eq3:xk 10 s=xl 10 s / 4:=rfl;have R:((sr 10 s:Nat):Int)=1+xk 10 s % 8:=by unfold sr;lia
 have eq4:xi 10 s=xk 10 s / 8:=rfl;have W:A0 10 s=q4.take (1+xi 10 s % 3).toNat:=rfl;have eq5:sv 10 s=xi 10 s / 3:=rfl;have A:oT qH 10 s=if cst qH s=1/\0<sv 10 s % 3 then [("go":Str)] else A0 10 s:=rfl
 have u:HH qH 10 s=if cst qH s=1 then sv 10 s / 3 else sv 10 s:=rfl
 have x:vj qH 10 s=if cst qH s=2 then(11+HH qH 10 s % 20).toNat else cmd 10 s:=rfl
 show dh X CL b _ _ {nx:=_,rt:=λDS _=>DS=Vc (vk qH 10 s),bk:=_,ct:=_};rw[Ga];clear Ga;generalize vb qH 10 s=ws at ae hw r ⊢;generalize rb qH 10 s=Y at i1 i2 F ⊢;generalize xq qH 10 s=es at a0 aT N hw r F J ⊢;generalize vj qH 10 s=mo at Wn J x;generalize HH qH 10 s=K at u x;generalize oT qH 10 s=n at B ba O hw r F A;generalize sv 10 s=q5 at eq5 A u;generalize A0 10 s=h0 at W A;generalize xi 10 s=Z at eq4 W eq5;generalize sr 10 s=wn at ab r R;generalize xk 10 s=q3 at eq3 R eq4;generalize mW 10 s=a at ar i1 i2 hw r F U ⊢;generalize xl 10 s=q2 at eq2 U eq3;generalize cmd 10 s=md at V x;generalize sx s=q1 at eq1 V eq2;generalize cst qH s=st at pV N r J S A u x ⊢;generalize vc s=L at aa S eq1;have p4:a<=10/\0<n.length/\n.length<=10:=⟨We,B,We⟩;refine aL E.g E.dw (aK (dQ (aO (kW (ay (c_ ((s,0)) E.jl E.iI (ah Qdm (ah ak aE)) (z0) rfl)) (ay (Az ak ak ⟨Wl,Wl,Wl⟩)) Wl) bD) aQ) (t2:=.lst [.sh (.int L)]) (by rw[aa])) ?_;refine PL (i:=1) rfl λy=>?_;have c0:=k3 L (b:=8) Wl;have c1:=ky L (b:=8) Wl;refine iE E.g E.i6 (zg (eW (dN (ds:=[.int 0,.int 1,.int 0,.int 1,.int 0,.int 1,.int 2,.int 1]) (aJ bB (aJ bB (aJ bB (aJ bB Qfk)))) aQ)).m (AU (t:=.sh (.int (L % 8))) (y,L,8) (.pin y (.lst [.sh (.int q1)])) E.eG E.aU Qa1 QaX rfl ⟨rfl,.inr (by rw[eq1]),trivial⟩) (show _=some (D.int (st:Nat)) from ?ix)) ?_
 case ix=>
  rw[S];obtain⟨j,hj⟩:∃j:Nat,L % 8=j:=⟨(L % 8).toNat,We⟩;have ax:j<8:=by lia
  rw[hj,jj];refine d8 ?_
  match j,ax with
  | 0,_=>rfl
  | 1,_=>rfl
  | 2,_=>rfl
  | 3,_=>rfl
  | 4,_=>rfl
  | 5,_=>rfl
  | 6,_=>rfl
  | 7,_=>rfl
 refine iE E.g E.fV (sW (GK bB.m (AU (t:=.sh (.int (q1 % ((10:Nat):Int)))) (y,q1,((10:Nat):Int)) (.pin y (.lst [.sh (.int q2)])) E.eG E.aU Qa1 QaX rfl ⟨rfl,.inr (by rw[eq2]),trivial⟩)) (t2:=.sh (.int (md:Nat))) (by rw[V])) ?_;refine iE E.g E.cY (sW (AU (t:=.sh (.int (q2 % 4))) (y,q2,4) (.pin y (.lst [.sh (.int q3)])) E.eG E.aU Qa1 QaX rfl ⟨rfl,.inr (by rw[eq3]),trivial⟩) (t2:=.sh (.int (a:Nat))) (by rw[U])) ?_;show dh X CL b _ [some Qbf,some (.pin y (.lst [.sh (.int q3)])),some Qap,some (.sh (.int md)),some Qcd,none,none,none,none,none,none,none,none] _;refine iE E.g E.pe (sW (GK bB.m (AU (t:=.sh (.int (q3 % 8))) (y,q3,8) (.pin y (.lst [.sh (.int Z)])) E.eG E.aU Qa1 QaX rfl ⟨rfl,.inr (by rw[eq4]),trivial⟩)) (t2:=.sh (.int (wn:Nat))) (by rw[R])) ?_;have d0:=k3 Z (b:=3) Wl;have bb:cutD (q4.map D.str) none (some (1+Z % 3))=h0.map D.str:=by
  rw[azb (k:=(1+Z % 3).toNat) We,← List.map_take,W]
 refine iE E.g E.jw (sW (acZ (ds:=q4.map .str) (eW (dN (nS (l:=q4) rfl) aQ)) (HV _) (GK bB.m (AU (t:=.sh (.int (Z % 3))) (y,Z,3) (.pin y (.lst [.sh (.int q5)])) E.eG E.aU Qa1 QaX rfl ⟨rfl,.inr (by rw[eq5]),trivial⟩))) (t2:=.lst ((h0.map .str).map T.sh)) (by rw[bb])) ?_;show dh X CL b _ [some Qbf,some (.pin y (.lst [.sh (.int q5)])),some Qap,some (.sh (.int md)),some Qcd,some QcA,some (.lst ((h0.map .str).map T.sh)),none,none,none,none,none,none] _;refine MI (λδ=>δ=[some Qbf,some Qi5,some Qap,some (.sh (.int md)),some Qcd,some QcA,some (.lst ((n.map .str).map T.sh)),none,none,none,none,none,none]) ?k1 (λk=>?i1)
 case i1=>
  by_cases e:st=1
  .rw[hO e]at u;refine auM (auL (aga (UA (fW QcH ak).1 (kx (show(st:Int)=1 by lia))) (af9 (akx (AU (t:=.sh (.int (q5 % 3))) (y,q5,3) Qi5 E.eG E.aU Qa1 QaX rfl ⟨rfl,.inr (by rw[u]),trivial⟩) ak)))) (λH=>?_) (λH=>ai (k _ ?_))
   .refine aL E.g E.jw (dN (ds:=[.str "go"]) (aJ f9 gi) aQ) (ai (k _ ?_));rw[A,hO ⟨e,i5 H⟩];rfl
   .rw[A,cq λz=>absurd z.2 (lx H)];rfl
  .rw[cq e]at u;refine eU (oY (ic (q:=false) (UA (fW QcH ak).1 (lr (show ¬ (st:Int)=1 by lia))) (λz=>by cases z))) (λH=>by cases H) (λ_=>ai (k _ ?_));rw[A,cq λz=>e z.1,u]
 case k1=>
 rintro δ rfl;refine MI (λδ=>∃o,δ=[some Qbf,o,some Qap,some (.sh (.int mo)),some Qcd,some QcA,some (.lst ((n.map .str).map T.sh)),none,none,none,none,none,none]) ?k2 (λk=>?i2)
 case i2=>
  refine eU (fW QcH ak).1 (λH=>?_) (λH=>ai (k _ ⟨some Qi5,?_⟩))
  .have e:st=2:=by have:=i5 H;lia
   rw[hO e]at x;refine iE E.g E.fV (sW (GK bB.m (AU (t:=.sh (.int (K % 20))) (y,K,20) (.pin y (.lst [.sh (.int (K / 20))])) E.eG E.aU Qa1 QaX rfl ⟨rfl,.inr rfl,trivial⟩)) (t2:=.sh (.int (mo:Nat))) (by rw[show((mo:Nat):Int)=11+K % 20 by lia])) (ai (k _ ⟨_,rfl⟩))
  .have e:¬ st=2:=by have:=lx H;lia
   rw[cq e]at x;rw[x]
 case k2=>
 rintro δ ⟨o,rfl⟩;refine aL E.g E.bA (kD (aK (c_ (s,mo,st) E.aqU E.Ve Qlt ⟨ag,We,We,pV⟩ (Fo ..)) (t2:=.ins "Tree" (Ce (BO s st es es.length) es (Fz s st es es.length))) (by rw[J];rfl)) (ac2 ..)) ?_;have IG:((BO s st es es.length).map D.str).length=es.length:=by unfold BO;rw[hP,hP,ov]
 refine aL E.g E.fV (gT IG E.fU Qb6 E.fS) ?_;refine auG (i:=6) (d:=.lst (n.map .str)) rfl (fQ _) ?_;show dh X CL b _ [some Qbf,o,some Qap,some QeB,some Qcd,some QcA,some Qev,some Qem,none,none,none,none,none] _;refine vq (p:=λ_=>true) (gg:=λd=>T.sh (qi (Wk s d.ug.toNat))) E.g E.ck (bu (.cons E.cj.1 (.inl E.uG) .nil) Wg) (jD E.fF Qcl We E.fE) Qar (λC s0 H0 f0 b' d hd=>?zX) (kv (cA (by simp[dU];lia))) ?rest (by exact h7 rfl) QbM
 case zX=>
  obtain⟨i,I,rfl⟩:=B1 hd;obtain⟨sl,sg⟩:=PH i We;have G:QaJ=(i:Int):=mv _;have et:(D.int QaJ).ug.toNat=i:=by show(0+(i:Int)).toNat=i;lia
  have fv:∀j:Nat,j<2->0<z3.getD j 0:=by decide +kernel
  have i0:=k3 QaJ (b:=2) Wl;have i1:=ky QaJ (b:=2) Wl;have aI:=fv (QaJ % 2).toNat We;refine⟨rfl,λ_=>aK (jR (ds:=[.str (("b":Str)++(toString QaJ:Str)),.int (cR s (10+QaJ) % 10 ^ (30:Int).toNat % z3.getD (QaJ % 2).toNat 0-2)]) (aJ (ae3 bQ (ay (aap E.Kl vA (ju 0) (by rw[G];exact sg))) ((by rw[G,lh];have h1:("b":Str).length=1:=Wg;show("b":Str).length+(toString (i:Int):Str).length<=_;lia))) (aJ (Ay (ay (kW (ay (kW (ay (c_ ((s,10+QaJ)) (lD E.jl) vA (ah (fZ 1) QgX) (show(0:Int)<=10+(0+(i:Int)) by lia) rfl)) (ay (Az ak ak ⟨Wl,Wl,Wl⟩)) Wl)) (bG (cu (aK (dQ (aO bB (aO (Az ak ak ⟨Wl,Wl,Wl⟩) bD)) aQ) (t2:=.lst ((z3.map D.int).map T.sh)) rfl)) (ay (kW (ju 0) ak Wl)) (gJ (bs:=z3) i0 (show QaJ % 2<2 by lia))) aI)) ak) gi)) aQ) ?_⟩;show T.sh _=T.sh (qi (Wk s (D.int QaJ).ug.toNat));rw[et,G,show((i:Int) % 2).toNat=i % 2 by lia];rfl
 case rest=>
 rw[Vd (f:=λk=>qi (Wk s k)) a (λk=>by show T.sh (qi (Wk s (0+(k:Int)).toNat))=_;rw[mv,jj])];show dh X CL b _ [some Qbf,o,some Qap,some QeB,some Qcd,some QcA,some Qev,some Qem,some Qfi,none,none,none,none] _;refine vq (p:=λ_=>true) (gg:=λd=>T.sh (.tup ((Tq (cR s (1+d.ug)) a n).map cU.d))) E.g E.Kb Qkt Qjw Qar (λC s0 H0 f0 b' d hd=>?X6) (kv (cA (by simp[dU];lia))) ?ahh (by exact h7 rfl) QbM
 case X6=>
  obtain⟨i,I,rfl⟩:=B1 hd;exact⟨rfl,λ_=>aK (c_ ((cR s (1+QaJ),a,n)) (lD E.CM) vA (ah (ay (c_ ((s,1+QaJ)) (lD E.jl) vA (ah (fZ 3) QgX) (show(0:Int)<=1+(0+(i:Int)) by lia) rfl)) (ah (fZ 2) (ah (fZ 1) aE))) (p4) (eY uz _)) rfl⟩
 case ahh=>
 rw[Vd (f:=λk=>.tup ((Tq QfI a n).map cU.d)) es.length (λk=>by show T.sh (.tup ((Tq (cR s (1+Qgc)) a n).map cU.d))=_;rw[mv])];show dh X CL b _ [some Qbf,o,some Qap,some QeB,some Qcd,some QcA,some Qev,some Qem,some Qfi,some (.lst (((List.range es.length).map λ(k:Nat)=>D.tup ((Tq QfI a n).map cU.d)).map T.sh)),none,none,none] _;refine vq (p:=λ_=>true) (gg:=λd=>T.sh (.tup ((Tq (cR s (2+d.ug)) a n).map cU.d))) E.g E.QD Qkt Qjw Qar (λC s0 H0 f0 b' d hd=>?ahg) (kv (cA (by simp[dU];lia))) ?avy (by exact h7 rfl) QbM
 case ahg=>
  obtain⟨i,I,rfl⟩:=B1 hd;exact⟨rfl,λ_=>aK (c_ ((cR s (2+QaJ),a,n)) (lD E.CM) vA (ah (ay (c_ ((s,2+QaJ)) (lD E.jl) vA (ah (fZ 3) QgX) (show(0:Int)<=2+(0+(i:Int)) by lia) rfl)) (ah (fZ 2) (ah (fZ 1) aE))) (p4) (eY uz _)) rfl⟩
 case avy=>
 rw[Vd (f:=λk=>.tup ((Tq QhJ a n).map cU.d)) es.length (λk=>by show T.sh (.tup ((Tq (cR s (2+Qgc)) a n).map cU.d))=_;rw[mv])];show dh X CL b _ [some Qbf,o,some Qap,some QeB,some Qcd,some QcA,some Qev,some Qem,some Qfi,some (.lst (((List.range es.length).map λ(k:Nat)=>D.tup ((Tq QfI a n).map cU.d)).map T.sh)),some (.lst (((List.range es.length).map λ(k:Nat)=>D.tup ((Tq QhJ a n).map cU.d)).map T.sh)),none,none] _;have P:st=1->es=E7:=N;refine vq (p:=λ_=>true) (gg:=λd=>T.sh (iu (mE (cR s (13+d.ug)) es.length a n st))) E.g E.aa9 (bu (.cons E.jw.1 (.inl E.vQ) (.cons E.cY.1 (.inl E.x8) (.cons E.cj.1 (.inl E.uG) (.cons E.i6.1 (.inl E.alf) (.cons E.bA.1 (.inl E.A6) .nil))))) Wg) (jD E.fF (aC E.pe) We E.fE) Qar (λC s0 H0 f0 b' d hd=>?azk) (kv (cA (by simp[dU];lia))) ?avz (by exact h7 rfl) QbM
 case azk=>
  obtain⟨i,I,rfl⟩:=B1 hd;exact⟨rfl,λ_=>aK (c_ (cR s (13+QaJ),es,a,n,st) (lD E.avv) vA (ah (ay (c_ ((s,13+QaJ)) (lD E.jl) vA (ah (fZ 3) QgX) (show(0:Int)<=13+(0+(i:Int)) by lia) rfl)) (ah (cy (by exact E.bO) (by exact E.cZ) (fZ 5) lq) (ah (fZ 2) (ah (fZ 1) (ah (fZ 4) aE))))) ⟨p4.1,B,p4.2.2,We,We,P⟩ (Jg (XT We (λe=>by rw[P e];rfl) B O).i)) rfl⟩
 case avz=>
 rw[Vd (f:=λk=>iu Qgw) wn (λk=>by show T.sh (iu (mE (cR s (13+Qgc)) es.length a n st))=_;rw[mv])];show dh X CL b _ [some Qbf,o,some Qap,some QeB,some Qcd,some QcA,some Qev,some Qem,some Qfi,some (.lst (((List.range es.length).map λ(k:Nat)=>D.tup ((Tq QfI a n).map cU.d)).map T.sh)),some (.lst (((List.range es.length).map λ(k:Nat)=>D.tup ((Tq QhJ a n).map cU.d)).map T.sh)),some (.lst (((List.range wn).map λ(k:Nat)=>iu Qgw).map T.sh)),none] _;refine vq (p:=λ_=>true) (gg:=λd=>T.sh (.str (oC d.ug.toNat))) E.g E.G6 Qd2 Qjw Qar (λC s0 H0 f0 b' d hd=>?azl) (kv (cA (by simp[dU];lia))) ?avA (by exact h7 rfl) QbM
 case azl=>
  obtain⟨i,I,rfl⟩:=B1 hd;obtain⟨sl,sg⟩:=PH i We;have G:QaJ=(i:Int):=mv _;refine⟨rfl,λ_=>aK (ae3 bQ (ay (aap E.Kl vA (ju 0) (by rw[G];exact sg))) ((by rw[G,lh];have h1:("m":Str).length=1:=Wg;show("m":Str).length+(toString (i:Int):Str).length<=_;lia))) ?_⟩;show T.sh _=T.sh (.str (oC (0+(i:Int)).toNat));rw[G,jj];rfl
 case avA=>
 rw[Vd (f:=λk=>.str (oC k)) es.length (λk=>by show T.sh (.str (oC (0+(k:Int)).toNat))=_;rw[mv,jj])];show dh X CL b _ [some Qbf,o,some Qap,some QeB,some Qcd,some QcA,some Qev,some Qem,some Qfi,some (.lst (((List.range es.length).map λ(k:Nat)=>D.tup ((Tq QfI a n).map cU.d)).map T.sh)),some (.lst (((List.range es.length).map λ(k:Nat)=>D.tup ((Tq QhJ a n).map cU.d)).map T.sh)),some (.lst (((List.range wn).map λ(k:Nat)=>iu Qgw).map T.sh)),some (.lst (((List.range es.length).map λk=>D.str (oC k)).map T.sh))] _;have eb:(List.range a).map (λk=>qi (Wk s k))=((List.range a).map (Wk s)).map qi:=by rw[ia];rfl
 have en:(List.range es.length).map (λk=>D.str (oC k))=((List.range es.length).map oC).map .str:=by rw[ia];rfl
 have G:∀j:Int,(List.range es.length).map (λ(k:Nat)=>D.tup ((Tq (cR s (j+(k:Int))) a n).map cU.d))=(Y j).map .tup:=λj=>by rw[F,ia];rfl
 have ed:(List.range wn).map (λ(k:Nat)=>iu Qgw)=((List.range wn).map λ(k:Nat)=>mE Qgy es.length a n st).map iu:=by rw[ia];rfl
 rw[eb,en,G 1,G 2,ed];have ib:D.bS (((List.range a).map (Wk s)).map qi)=true:=eY Qde _;have iw:D.bS QaV=true:=jr λd hd=>by
  obtain⟨w,hm,rfl⟩:=ip.1 hd;exact Jg (hw w hm).i
 have iT:∀j:Int,(∀l∈Y j,(l.length<=2/\D.bS l=true)/\∀d∈l,qT a d)->D.bS ((Y j).map D.tup)=true:=λj h=>jr λd hd=>by
  obtain⟨l,hm,rfl⟩:=ip.1 hd;exact(h l hm).1.2
 have aw:(((List.range wn).map λ(k:Nat)=>mE Qgy es.length a n st).map iu).length<64:=by rw[hP,hP,ov];lia
 refine bz (mkP (f:="tree") (W0:=IK (((List.range a).map (Wk s)).map qi) (((List.range es.length).map oC).map .str)) (fs2:=IL ((Y 1).map .tup) ((Y 2).map .tup) QaV) (λv=>(((List.range a).map (Wk s)).map qi,((List.range es.length).map oC).map .str,v,(Y 1).map .tup,(Y 2).map .tup,ws.map iu)) E.alh E.alg
  (Ui (vL E.ck.1) (Ui (vL E.G6.1) (afw (v_ E.bA.1) (ah (vL E.Kb.1) (ah (vL E.QD.1) (ah (cu (aK (AQ (y:="way") (g:=λd=>d.o1.ug) E.lam E.g E.dp E.fh E.fc Qd2 (vL E.aa9.1) (jr λd hd=>?u9) aw (λf c s0 H0 b' d hd=>?key)) (t2:=.lst ((ws.map iu).map T.sh)) ?eq)) aE))))))
  (λv=>rfl) (λv=>⟨ib,HV _,iT 1 i1,iT 2 i2,iw⟩) (λv=>rfl) (P6 ib (HV _)) (P7 (iT 1 i1) (iT 2 i2) iw)) rfl
 case u9=>
  obtain⟨w,hm,rfl⟩:=ip.1 hd;obtain⟨k,_,rfl⟩:=ip.1 hm;exact Jg (XT We (λe=>by rw[P e];rfl) B O).i
 case key=>
  obtain⟨w,hm,rfl⟩:=ip.1 hd;exact aV Qjh ak rfl
 case eq=>
  rw[qG,r];rfl
def cN:Te (aj G7) ([("script",.cell),("pot",cG),("style",.cell),("moods",cG),("many",.cell),("ways",cG),("heard",.cell),("tree",.cell),("boxes",cG),("ins",cG),("outs",cG),("drawn",cG),("names",cG),("_law_cell_at",bI),("_law_take",bI),("_law_tree",bI),("len",bI),("range",bI),("Chart",bI),("sorted",bI)])=true:=by decide +kernel
noncomputable def Vf:dz aa8 ["script"] (aj G7):=jt
abbrev QH:=top 79
abbrev QI:=nj
noncomputable abbrev abb:At:=["state"]
def Ec:QI->BA:=λs=>[Ls s]
def Ed:QI->Prop:=λs=>True
noncomputable def Ef:QI->T:=λs=>(.sh Qbj:T)
structure alj(X:Cx)(CL:BC):Prop extends bL X where
 fH:Ln X 0 "state"
 QJ:Gl X "isinstance"
 sI:Gl X "tuple"
 fS:Gl X "len"
 avB:Gl X "all"
 CN:kE X "isinstance"
 sJ:kE X "tuple"
 fU:kE X "len"
 avC:kE X "all"
 cD:kE X "list"
def alk(E:alj X CL) :
  oz X CL b QH abb Ec Ed Ef:=by
 intro s h;refine bz (aK (WO (isT E.CN E.sJ E.QJ E.sI (ay (v_ E.fH.1))) (λ_=>WO (fW (ay (ajH E.fU (ay (v_ E.fH.1)) E.fS)) ak).2 (λ_=>O7 (apM (l:=[true,true,true]) E.g E.avC (cu (aK (lH (p:=λ_=>true) (g:=λd=>T.sh Qbj) Qd2 E.g.calm (DG (v_ E.fH.1)) Qar (λC s0 c f0 a d hd=>?zX) (by show 3<=_;decide)) ?eq)) E.avB)))) ?fin) rfl
 case zX=>
  refine⟨rfl,λ_=>?_⟩;have:∃l:List _,d=.lst l:=by
   simp at hd;obtain rfl|rfl|rfl:=hd<;>exact⟨_,rfl⟩
  obtain⟨l,rfl⟩:=this;exact aK (isL (E.CN) (E.cD) vA vA (ju 0)) rfl
 case eq=>rfl
 case fin=>rfl
noncomputable def uH:FG abb ["state"] ["isinstance","tuple","len","all"] (aj QH):=fG
theorem adw{ns:AT}(h:ns.Nodup):(PyProof.Rows.firstMet Qc0 ns.length).length=ns.length:=by
 have gen:∀k,k<=ns.length->PyProof.Rows.firstMet Qc0 k=ns.take k:=by
  intro k
  induction k with
  | zero=>intro _;rfl
  | succ k c=>
   intro f;have e:ns[k]? = some _:=kA We;have a:ns.getD k 0=ns[k]'We:=by rw[kf,e];rfl
   have b:¬ ns.getD k 0∈ns.take k:=by
    rw[a];intro z;obtain⟨i,hi,d⟩:=List.mem_take_iff_getElem.1 z;have:=(List.getElem_inj h).1 d;lia
   rw[PyProof.Rows.firstMet_succ,c We];unfold PyProof.Rows.step_dedup;rw[rr,e,a];rw[a]at b;simp[b]
 rw[gen _ (hW _),lL]
def PU(c:CH)(mem:AT):Prop:=mem.length=c.es.length/\∀k:Nat,k<c.es.length->mem.getD k 0=-1\/(cg c.ks k=true/\mem.getD k 0∈gX c.es k)
theorem S3{p:Pl}(g:Gd c p)(z:Qt c p.2):PU c p.2:=by
 obtain⟨_,_,_,hm⟩:=g;refine⟨hm.1,λk a=>?_⟩;cases e:cg _ k with
 | false=>exact .inl (z k a e)
 | true=>
  obtain y|y:=hm.2 k a e
  .exact .inl y
  .exact .inr ⟨rfl,y⟩
def aqY(j:Nat):((dU 0 (es.length:Int).toNat).filter (λd=>decide (es.getD d.ug.toNat 0=(j:Int)))).map QhS=((gX es j).map D.int).map T.sh:=by
 unfold dU gX;rw[o2,ia,ia,ia];have e1:((λd=>decide (es.getD d.ug.toNat 0=j))∘λi:Nat=>D.int (0+i))=λi=>decide (es.getD i 0=j):=by
  funext i;show decide (es.getD (0+(i:Int)).toNat 0=j)=_;rw[mv,jj]
 rw[e1];congr 1;funext i;show T.sh Qbc=T.sh _;rw[mv]
abbrev G8:=top 78
abbrev QK:=CH×nj
noncomputable abbrev abd:At:=["tree","state","opens","mood","near","many"]
def zB:QK->BA:=λ(c,s)=>[cW c.ks c.es c.ss,Ls s]
def zC:QK->Prop:=λ(c,s)=>c.Ok/\WhS c s.1/\PU c s.2.1
noncomputable def zE:QK->T:=λ(c,s)=>(.sh Qbj:T)
structure alm(X:Cx)(CL:BC):Prop extends bL X where
 bA:Ln X 0 "tree"
 A6:zW X "tree"
 fH:Ln X 1 "state"
 bw:Ln X 2 "opens"
 aln:zW X "opens"
 bJ:Ln X 3 "mood"
 X7:zW X "mood"
 tu:Ln X 4 "near"
 cY:Ln X 5 "many"
 fc:Gl X "sorted"
 fS:Gl X "len"
 avE:Gl X "set"
 fE:Gl X "range"
 fh:kE X "sorted"
 fU:kE X "len"
 avF:kE X "set"
 fF:kE X "range"
 bO:jP X.K Qag
 aZ:aF X.K Qag "kinds"
 cZ:aF X.K Qag "elders"
theorem alo(E:alm X CL) :
  oz X CL b G8 abd zB zC zE:=by
 rintro⟨c,s⟩ h;dsimp only [zC,zB,zE]at h ⊢;obtain⟨H,hw,hm,q⟩:=h;have n0:=H.k.n0;have n1:=H.k.n1;have W:=H.k.kl;have A:s.1.length<=40:=by
  have:=P1 hw.up hw.lo Wl;lia
 have I:s.1.Nodup:=oB hw.up;have n:sortI s.1=s.1:=xO (N2 hw.up);obtain⟨O,M,B⟩:=s;dsimp only at hw hm q A I n;have G:(O.map D.int).length=O.length:=hP ..;have r:(c.ks.map D.str).length=c.es.length:=by rw[hP];exact W
 show dh X CL b _ [some _,some (.sh (.tup [.lst (O.map .int),.lst (M.map .int),.lst (B.map .int)])),none,none,none,none] _;refine aL E.g E.bw (m7 (v_ E.fH.1) ak DQ) ?_;refine eU (oY (xG (zc (l:=O) ak QaR rfl rfl).1 (λ_=>xG (AH E.u (cu (m9 (l:=O) E.fh QaR We E.fc)) QaR (j8 _) (j8 _)).1 (λ_=>AA (ve (ay (Xi (ns:=O) E.g E.fU E.avF QaR We E.fS E.avE)) (ay (gT G E.fU QaR E.fS))).1)))) (λa=>?_) (λ_=>ai ?_)
 .rw[kx hw.z,n,xM (j8 O),adw I,kx rfl]at a;cases a
 refine jc E.g E.bJ (λj δ=>∃w v t,δ=[some _,some _,some _,w,v,t])
  (jD E.fF (ay (gT r E.fU Qb6 E.fS)) We E.fE) ⟨_,_,_,rfl⟩ (λj δ ⟨_,_,_,e⟩=>by subst e;exact h7 rfl) ?turn ?fin
 case fin=>
  rintro δ ⟨w,v,t,rfl⟩;exact bz oq rfl
 case turn=>
  rintro j d δ R ⟨w,v,t,rfl⟩;obtain⟨rfl,NQ⟩:=HQ R;rw[mv];have f:j<c.es.length:=by lia
  refine vq (p:=λd=>decide (c.es.getD d.ug.toNat 0=(j:Int))) (gg:=λd=>.sh d) E.g E.tu (bu (.cons E.bJ.1 (.inl E.X7) (.cons E.bA.1 (.inl E.A6) .nil)) Wg)
   (jD E.fF (ay (gT r E.fU Qb6 E.fS)) We E.fE) (.inl ⟨rfl,λd hd=>?cl⟩) (λC s0 Y f0 V d hd=>?zX) (kv (cA (by simp[dU];lia))) ?rest (by exact h7 rfl) QbM
  case cl=>
   obtain⟨i,_,rfl⟩:=ip.1 hd;rfl
  case zX=>
   obtain⟨i,hi,rfl⟩:=ip.1 hd;have S:i<c.es.length:=by simpa using hi
   exact⟨(fW (bG (cy (by exact E.bO) (by exact E.cZ) (fZ 2) lq) (ju 0) (gJ (show(0:Int)<=0+(i:Int) by lia) (show 0+(i:Int)<c.es.length by lia))) (fZ 1)).1,λ_=>v_ (DR 0)⟩
  case rest=>
  rw[aqY];have Pw:=PV c.es (j:Int);have F:((gX c.es (j:Int)).map D.int).length=(gX c.es (j:Int)).length:=hP ..;have U:((((gX c.es (j:Int)).filter _).map D.int)).length=((gX c.es (j:Int)).filter λx=>decide (x∈O)).length:=hP ..;have em:(((gX c.es (j:Int)).map D.int).filter (λd=>decide (d.ug∈O))).map QhS=((((gX c.es (j:Int)).filter λx=>decide (x∈O)).map D.int)).map T.sh:=by
   rw[o2];rfl
  refine aL E.g E.cY (gT U E.fU (cu (aK (Uv (bu (.cons E.bw.1 (.inl E.aln) .nil) Wg) E.g.calm Qd4 (λd hd=>?cl2) (λC s0 Y f0 V d hd=>?X6) (kv (cA We))) (congrArg T.lst em))) E.fS) ?_
  case cl2=>
   obtain⟨i,_,rfl⟩:=ip.1 hd;rfl
  case X6=>
   obtain⟨x,Z,rfl⟩:=ip.1 hd;exact⟨(vm (l:=O) (ju 0) (fZ 1) rfl rfl).1,λ_=>v_ (DR 0)⟩
  have P:=hw.no j f;have w2:=hw.one j f;have N:=hw.all j f;have L:=q j f;have m:uW (c.ks.map D.str) (j:Int)=some _:=gf Str.empty We We;have o:uW (M.map D.int) (j:Int)=some _:=gJ We We;refine eU (oY (ic (zc (l:=O) Qav QaR rfl rfl).1 (λ_=>iU (Jn Qcl ak).1))) (λa=>?_) (λ_=>ai ?_)
  .rw[km,KI,decide_eq_false_iff_not]at a;rw[P a.1]at a;exact absurd a.2 Wl
  refine eU (oY (ic (vm (l:=O) Qav QaR rfl rfl).1 (λ_=>ic (dg (bG Qb6 Qav m) bQ).1 (λ_=>iU (ve Qcl ak).1)))) (λa=>?_) (λ_=>ai ?_)
  .rw[km,km]at a;rw[w2 (i5 a.1) a.2.1]at a;exact absurd a.2.2 Wl
  refine eU (oY (ic (vm (l:=O) Qav QaR rfl rfl).1 (λ_=>ic (dg (bG Qb6 Qav m) bQ).1 (λ_=>iU (ve Qcl (ay (gT F E.fU Qd4 E.fS))).1)))) (λa=>?_) (λ_=>ai ?_)
  .rw[km,km]at a;rw[N (i5 a.1) a.2.1,kx rfl]at a;exact absurd a.2.2 Wl
  refine eU (oY (ic (ve (bG (aV QbD ak LX) Qav o) QbA).1 (λ_=>iU (oY (xG (WN (bG Qb6 Qav m) bQ).1 (λ_=>AA (zc (bG (aV QbD ak LX) Qav o) Qd4 rfl rfl).1)))))) (λa=>?_) (λ_=>ai (ai ⟨_,_,_,rfl⟩));rw[km,Bool.or_eq_true]at a;obtain y|⟨K,J⟩:=L
  .have a:=a.1;rw[show M.getD ((j:Int)).toNat 0=-1 from y]at a;exact absurd a Wl
  .obtain z|z:=a.2
   .rw[show decide _=true from K]at z;exact absurd z Wl
   .rw[kx (show M.getD ((j:Int)).toNat 0∈gX c.es (j:Int) from J)]at z;exact absurd z Wl
def iK:Te (aj G8) ([("tree",.cell),("state",cG),("opens",.cell),("mood",.cell),("near",cG),("many",cG),("sorted",bI),("len",bI),("set",bI),("range",bI)])=true:=by decide +kernel
noncomputable def ahj:dz abd ["tree","state"] (aj G8):=jt
theorem Vg(xs:Q1):(List.range xs.length).filterMap (λk=>xs[k]?)=xs:=by
 have gen:∀n,n<=xs.length->(List.range n).filterMap (λk=>xs[k]?)=xs.take n:=by
  intro n
  induction n with
  | zero=>intro _;rfl
  | succ n a=>
   intro h;rw[FV,List.filterMap_append,a We];have e:xs[n]? = some _:=kA We;simp[e]
 have:=gen _ (hW _)
 rwa [lL]at this
theorem Js{α β:Type}{f g:α->Option β}:∀{l:Q1},(∀x∈l,f x=g x)->l.filterMap f=l.filterMap g
 | [],_=>rfl
 | x::l,h=>by rw[mB,mB,h x hU,Js λy a=>h y (hX _ a)]
theorem ahk(xs:Q1):lA xs none none (some 1)=xs:=by
 have e:lA xs none none (some 1)=((List.range (if (0:Int)<xs.length then((xs.length:Int)-0+1-1) / 1 else 0).toNat).map _).filterMap _:=rfl;rw[e,show(if (0:Int)<xs.length then((xs.length:Int)-0+1-1) / 1 else 0).toNat=xs.length by split<;>lia,List.filterMap_map];refine Eq.trans (Js λk _=>?_) (Vg xs);show xs[(0+1*(k:Int)).toNat]? = xs[k]?;rw[show(0+1*(k:Int)).toNat=k by lia]
theorem ahl(xs:Q1):lA xs none none Qe8=xs.reverse:=by
 have e:lA xs none none Qe8=((List.range (if ((xs.length:Int)-1) > -1 then((xs.length:Int)-1-(-1)-(-1)-1) / (-(-1)) else 0).toNat).map _).filterMap _:=rfl;rw[e,show(if ((xs.length:Int)-1) > -1 then((xs.length:Int)-1-(-1)-(-1)-1) / (-(-1)) else 0).toNat=xs.length by split<;>lia,List.filterMap_map];have h:=Vg xs.reverse;rw[rF]at h;refine Eq.trans (Js λk a=>?_) h;have a:=ml.1 a;show xs[((xs.length:Int)-1+(-1)*k).toNat]? = xs.reverse[k]?;rw[List.getElem?_reverse a,show((xs.length:Int)-1+(-1)*k).toNat=xs.length-1-k by lia]
noncomputable def tn(b:Bool)(l:List J):List J:=if b then l.reverse else l
def aqZ(b:Bool)(l:List J):lA (l.map J.d) none none (some (1-2*Qg6))=(tn b l).map J.d:=by
 cases b
 .exact ahk _
 .show lA _ _ _ Qe8=l.reverse.map J.d;rw[ahl,List.map_reverse]
theorem alp(h:r.P4=true):∃m p q,r=.keep m p q:=by
 cases r with
 | keep m p q=>exact⟨m,p,q,rfl⟩
 | _=>cases h
theorem aq0(h:r.JO=true):∃m p q,r=.put m p q:=by
 cases r with
 | put m p q=>exact⟨m,p,q,rfl⟩
 | _=>cases h
theorem X8{b:Bool}(h:r.P4=false)(l:AT):ME b r l=l:=by
 cases r with
 | keep m p q=>cases h
 | _=>rfl
theorem X9{b:Bool}(h:r.JO=false)(l:AT):F9 b r l=l:=by
 cases r with
 | put m p q=>cases h
 | _=>rfl
theorem abe{b:Bool}(h:r.comes b=true):r.P4=false/\r.JO=false:=by
 cases r with
 | keep m p q=>cases b<;>cases h
 | put m p q=>cases b<;>cases h
 | _=>exact⟨rfl,rfl⟩
noncomputable def w2(b:Bool):Str:=if b then "out" else "in"
def aq1(b:Bool):uW ((["out","in"]:At).map D.str) Qg6=some (.str (w2 (!b))):=by cases b<;>rfl
def aq2(b:Bool):uW ((["in","out"]:At).map D.str) Qg6=some (.str (w2 b)):=by cases b<;>rfl
def O0{s:nj}(h:r.ok s)(b:Bool):decide (r.w=w2 b)=r.comes b:=auV h b
theorem PM{m:Int}(h0:0<=m)(h1:m<n):Np n m=some m.toNat:=by
 obtain⟨j,rfl⟩:∃j:Nat,m=j:=⟨m.toNat,We⟩;exact Qp We
def S2(l:AT)(k:Nat)(x:Int):((l.map D.int).map T.sh).set k (T.sh Qdy)=((l.set k x).map D.int).map T.sh:=by rw[x5,x5]
abbrev QL:=top 77
abbrev Yb:=Bool×List J×nj
abbrev Yf:At:=["rows","state","back","opens","memory","boxes","step","row"]
def CP:Yb->BA:=λ(bk,rs,s)=>[.lst (rs.map J.d),Ls s,.bl bk]
def CQ:Yb->Prop:=λ(bk,rs,s)=>rs.length<=500000/\Fits bk (tn bk rs) s/\D.bS (rs.map J.d)=true
def CT:Yb->T:=λ(bk,rs,s)=>(Wh ((tn bk rs).foldl (jX bk) s):T)
structure aq3(X:Cx)(CL:BC):Prop extends bL X where
 bX:Ln X 0 "rows"
 fH:Ln X 1 "state"
 Jt:Ln X 2 "back"
 bw:Ln X 3 "opens"
 cO:Ln X 4 "memory"
 ck:Ln X 5 "boxes"
 eV:Ln X 6 "step"
 jJ:Ln X 7 "row"
 avI:zW X "row"
 cM:Gl X "list"
 Cz:Gl X "int"
 fc:Gl X "sorted"
 cD:kE X "list"
 CB:kE X "int"
 fh:kE X "sorted"
theorem aq4(E:aq3 X CL) :
  oz X CL b QL Yf CP CQ CT:=by
 rintro⟨bk,rs,s⟩ h;dsimp only [CQ,CP,CT]at h ⊢;obtain⟨B,hf,hi⟩:=h;show dh X CL b _ [some _,some (.sh (.tup _)),some _,none,none,none,none,none] _;refine aL E.g E.bw (g7 E.cD (aV QbD ak DQ) (cC _) E.cM bH) ?_;refine aL E.g E.cO (g7 E.cD (aV QbD ak LX) (cC _) E.cM bH) ?_;refine aL E.g E.ck (g7 E.cD (aV QbD ak HI) (cC _) E.cM bH) ?_;refine aL E.g E.eV (Ay ak (ay (ae2 ak Qfm (.inl ⟨Wl,Wl⟩)))) ?_;refine jc E.g E.jJ (λj δ=>∃st n,Fits bk ((tn bk rs).drop j) st/\((tn bk rs).drop j).foldl (jX bk) st=(tn bk rs).foldl _ s/\δ=[some _,some (.sh _),some _,some (.lst ((st.1.map .int).map T.sh)),some (.lst ((st.2.1.map .int).map T.sh)),some (.lst ((st.2.2.map .int).map T.sh)),some _,n])
  (eB (eW (aK (NT (aC E.bX) hi y9 y9 (za (aC E.eV)) (by cases bk<;>decide)) (by rw[aqZ])))) ⟨s,none,hf,rfl,rfl⟩ (λj δ ⟨_,_,_,_,e⟩=>by subst e;exact h7 rfl) ?turn ?fin
 case fin=>
  rintro δ ⟨st,n,_,h2,rfl⟩;rw[hP,List.drop_length]at h2;rw[← h2];exact bz (oX (aO (vM E.bw.1) (aO (vM E.cO.1) (aO (vM E.ck.1) bD))) aQ) rfl
 case turn=>
  rintro j d δ A ⟨st,n,h1,h2,rfl⟩;obtain⟨r,rfl,_,_,_,hd,_⟩:=jZ A;rw[hd]at h1 h2;obtain⟨k1,k2,z⟩:=h1;have a:=RF r;refine MI (λδ=>δ=[some (.sh (.lst (rs.map J.d))),some (.sh (.tup [.lst (s.1.map .int),.lst (s.2.1.map .int),.lst (s.2.2.map .int)])),some (.sh (.bl bk)),some (.lst (((N1 bk r st.1).map .int).map T.sh)),some (.lst (((ME bk r st.2.1).map .int).map T.sh)),some (.lst (((F9 bk r st.2.2).map .int).map T.sh)),some (.sh (.int (1-2*(if bk then 1 else 0)))),some (.sh r.d)]) ?k1 (λk=>?i1)
  case k1=>
   rintro δ rfl;exact ai ⟨ _,_,z,h2,rfl⟩
  case i1=>
  refine eU (UA (dg Qh0 (bG Qhl Qfm (aq1 bk))).1 (O0 k2 (!bk))) (λi=>?qa) (λi=>?qna)
  case qa=>
   obtain⟨m,hm,v⟩:=auW i st.1;obtain⟨n1,o⟩:=abe i;have c:uW (D.str r.w::r.ds) 1=some Qa3:=hm▸d8 (j:=1) rfl;refine vq (p:=λd=>!decide (d.ug=m)) (gg:=T.sh) E.g E.bw (bu (.cons E.jJ.1 (.inl E.avI) .nil) Wg) (eB (vFL E.bw.1 rfl)) Qar (λC s0 G f0 F d hd=>?zX) (by rw[hP,lh];lia) ?rest Qbd QbM
   case zX=>
    obtain⟨x,_,rfl⟩:=ip.1 hd;exact⟨(ve (ju 0) (aV (fZ 1) ak c)).1,λ_=>v_ (DR 0)⟩
   case rest=>
   refine ai (k _ ?_);have e:((st.1.map D.int).filter λd=>!decide (d.ug=m)).map (T.sh)=((N1 bk r st.1).map D.int).map T.sh:=by
    rw[v,o2,ia,ia];rfl
   rw[e,X8 n1,X9 o];rfl
  case qna=>
  refine eU (UA (dg Qh0 (bG Qhl Qfm (aq2 bk))).1 (O0 k2 bk)) (λf=>?qb) (λf=>?qnb)
  case qb=>
   obtain⟨m,hm,v⟩:=akO f st.1;obtain⟨n1,o⟩:=abe f;have c:uW (D.str r.w::r.ds) 1=some Qa3:=hm▸d8 (j:=1) rfl;refine aL E.g E.bw (m9 (l:=st.1++[m]) E.fh (wY (cu (zb (vL E.bw.1) (cu (dN (aJ (cS (aV QbP ak c) rfl) gi) aQ)) (cC _) rfl (by rw[hP,lh];show st.1.length+1<=_;lia))) (by rw[js];rfl)) (by rw[j2,vr];lia) E.fc) (ai (ai (k _ ?_)));rw[X8 n1,X9 o,v];rfl
  case qnb=>
  have y:=akP f i st.1;rw[y]at k;refine eU (UA (dg Qh0 bQ).1 (auU k2)) (λt=>?qc) (λt=>?qnc)
  case qc=>
   obtain⟨m,p,q,rfl⟩:=alp t;obtain⟨m0,m1⟩:=k2;refine DP (cS (aV QbP (ay (Ay ak Qfm)) (show uW _ _=some Qle by cases bk<;>rfl)) rfl) (jT E.cO.1 rfl) (aV QbP ak LX) rfl rfl (PM m0 (by rw[hP,hP];exact m1)) (ai (ai (ai (k _ ?_))));show [_,_,_,_,some (T.lst (((st.2.1.map _).map T.sh).set m.toNat _)),_,_,_]=_;rw[S2];rfl
  case qnc=>
  rw[X8 t]at k;refine eU (UA (dg Qh0 bQ).1 (RI k2)) (λu=>?qd) (λu=>ai (ai (ai (ai (k _ (by rw[X9 u];rfl))))))
  case qd=>
   obtain⟨m,p,q,rfl⟩:=aq0 u;obtain⟨m0,m1⟩:=k2;refine DP (cS (aV QbP (ay (Ay ak Qfm)) (show uW _ _=some Qle by cases bk<;>rfl)) rfl) (jT E.ck.1 rfl) (aV QbP ak LX) rfl rfl (PM m0 (by rw[hP,hP];exact m1)) (ai (ai (ai (ai (k _ ?_)))));show [_,_,_,_,_,some (T.lst (((st.2.2.map D.int).map T.sh).set m.toNat _)),_,_]=_;rw[S2];rfl
def kJ:Te (aj QL) ([("rows",cG),("state",cG),("back",cG),("opens",cG),("memory",cG),("boxes",cG),("step",cG),("row",.cell),("list",bI),("int",bI),("sorted",bI)])=true:=by decide +kernel
noncomputable def alq:dz Yf ["rows","state","back"] (aj QL):=jt
def Hy(s:AT)(st mo:Nat):AT:=(List.range (min mo (s.length-st))).map λ(k:Nat)=>(lA s (some ((st:Int)+(k:Int))) none (some (mo:Int))).sum
theorem alr(s:AT)(st mo:Nat):(Hy s st mo).length<=s.length:=by unfold Hy;simp;lia
abbrev G9:=top 80
abbrev QM:=AT×Nat×Nat
abbrev abf:At:=["script","start","most","many"]
noncomputable def Eg:QM->BA:=λ(s,st,mo)=>[.lst (s.map .int),.int st,.int mo]
def Eh:QM->Prop:=λ(s,st,mo)=>s.length<=63/\0<mo/\mo<=100/\st<=100
def zF:QM->T:=λ(s,st,mo)=>(.lst (((Hy s st mo).map .int).map T.sh):T)
structure als(X:Cx)(CL:BC):Prop extends bL X where
 cj:Ln X 0 "script"
 uG:zW X "script"
 kK:Ln X 1 "start"
 alu:zW X "start"
 Ya:Ln X 2 "most"
 aq5:zW X "most"
 cY:Ln X 3 "many"
 avJ:Gl X "min"
 avK:Gl X "max"
 fS:Gl X "len"
 fE:Gl X "range"
 avL:kE X "min"
 avM:kE X "max"
 fU:kE X "len"
 fF:kE X "range"
 avN:kE X "sum"
theorem alv(E:als X CL) :
  oz X CL b G9 abf Eg Eh zF:=by
 rintro⟨s,st,mo⟩ h;dsimp [zF]at h ⊢;obtain⟨hs,c,a,e⟩:=h;refine aL E.g E.cY (aK (ajS E.g E.avL E.avJ (ah (aC E.Ya) (ah (ay (ajT E.g E.avM E.avK (ah ak (ah (ay (Ay (ay (gT (hP ..) E.fU Qdm E.fS)) (aC E.kK))) aE)))) aE))) (t2:=.sh (.int ((min mo (s.length-st):Nat)))) (by
  apply congrArg (λz=>T.sh _)
  all_goals lia)) ?_
 refine bz (aK (lH (p:=λ_=>true) (g:=λd=>T.sh (.int (lA s (some (st+d.ug.toNat)) none (some mo)).sum)) (bu (.cons E.Ya.1 (.inl E.aq5) (.cons E.cj.1 (.inl E.uG) (.cons E.kK.1 (.inl E.alu) .nil))) Wg) E.g.calm (jD E.fF Qcl We E.fE) Qar (λC s0 j f0 f d hd=>?zX) (kv (cA (by simp[dU];lia)))) ?eq) rfl
 case zX=>
  obtain⟨i,hi,rfl⟩:=ip.1 hd;have et:(D.int (0+i)).ug.toNat=i:=by show(0+(i:Int)).toNat=i;lia
  refine⟨rfl,λ_=>aK (aj3 (ajM E.g Wg) (E.avN) (cu (aK (NT (fZ 2) (cC _) (za (ay (vd (fZ 3) (ju 0)))) y9 (za (fZ 1)) (λz=>by lia)) (by rw[af0]))) vA) ?_⟩;show T.sh _=T.sh _;rw[et,mv]
 case eq=>
  rw[jF];unfold dU Hy;rw[ia,ia,ia];congr 1;refine oo λk _=>?_;show T.sh (.int (lA s (some (st+((0+(k:Int)).toNat))) _ _).sum)=_;rw[show(0+(k:Int)).toNat=k by lia];rfl
def jK:Te (aj G9) ([("script",.cell),("start",.cell),("most",.cell),("many",cG),("min",bI),("max",bI),("len",bI),("range",bI)])=true:=by decide +kernel
noncomputable def aho:dz abf ["script","start","most"] (aj G9):=jt
abbrev Hf:=top 15
abbrev QN:=At×AT×AT×Int
noncomputable abbrev abg:At:=["tree","mood"]
def zG:QN->BA:=λ(ks,es,ss,m)=>[cW ks es ss,.int m]
def qI:QN->Prop:=λ(ks,es,ss,m)=>es.length<=1000
def zH:QN->T:=λ(ks,es,ss,m)=>(.lst (((gX es m).map .int).map T.sh):T)
structure alw(X:Cx)(CL:BC):Prop extends bL X where
 bA:Ln X 0 "tree"
 bJ:Ln X 1 "mood"
 X7:zW X "mood"
 yf:Gl X "enumerate"
 yg:kE X "enumerate"
 bO:jP X.K Qag
 cZ:aF X.K Qag "elders"
def alx(E:alw X CL) :
  oz X CL b Hf abg zG qI zH:=by
 rintro⟨ks,es,ss,m⟩ h;refine bz (HX (aj0 (xs:=["place","elder"]) (.cons E.bJ.1 (.inl E.X7) .nil) Wg) E.g.calm
  (Ue 0 E.yg (jH E.bO E.cZ (v_ E.bA.1) lq) E.yf) Qar (λC s0 c f0 a=>⟨aat (by show List.Nodup (["place","elder","mood"]:At);decide +kernel) E.g.calm (WW rfl Wg) (WW rfl Wg),λd hd=>?zX⟩) (by rw[hP,ov];exact kv (cA h))) (congrArg _ (agb es m))
 case zX=>
  obtain⟨i,hi,rfl⟩:=ip.1 hd;exact⟨_,rfl,rfl,(fW (ju 1) (fZ 2)).1,λ_=>v_ (DR 0)⟩
def CV:Te (aj Hf) ([("tree",cG),("mood",.cell),("enumerate",bI)])=true:=by decide +kernel
noncomputable def ahp:dz abg ["tree","mood"] (aj Hf):=jt
abbrev yh:=top 35
abbrev yi:=At×AT×AT×AT×Nat×Str
noncomputable abbrev FE:At:=["tree","memory","mood","mode","kind"]
def tE:yi->BA:=λ(ks,es,ss,mem,m,mode)=>[cW ks es ss,.lst Qc7,.int m,.str mode]
def tF:yi->Prop:=λ(ks,es,ss,mem,m,mode)=>es.length<=900/\ks.length=es.length/\ss.length=es.length/\mem.length=es.length/\m<es.length/\vH mode/\∀k:Nat,k<es.length->aY ks k=true\/ao ks k=true\/ks.getD k Str.empty="one"
def nT:yi->T:=λ(ks,es,ss,mem,m,mode)=>(.lst (((Ti QaD QU es ss mem (fC mode || iG mode) m).map .int).map T.sh):T)
structure Vh(X:Cx)(CL:BC):Prop extends bL X where
 bA:Ln X 0 "tree"
 cO:Ln X 1 "memory"
 bJ:Ln X 2 "mood"
 tD:Ln X 3 "mode"
 Yc:Ln X 4 "kind"
 CW:Gl X "inner"
 QO:Fc X CL "inner" 1 2 zG qI zH
 bO:jP X.K Qag
 aZ:aF X.K Qag "kinds"
 sZ:aF X.K Qag "starts"
theorem Vi(E:Vh X CL) :
  oz X CL b yh FE tE tF nT:=by
 rintro⟨ks,es,ss,mem,m,mode⟩ h;dsimp [nT]at h ⊢;obtain⟨k,l,hs,hm,o,j,i⟩:=h;apply aL E.g E.Yc (cS (bG Qb6 Qav (gf _ We We)) rfl);refine eU (dg (aC E.Yc) bQ).1 (λc=>?_) (λc=>ai ?_)
 .apply bz Qa9;unfold Ti;rw[hO (show aY ks m=true from c)];rfl
 refine eU (dg (aC E.Yc) bQ).1 (λd=>?_) (λd=>ai ?_)
 .apply bz (c_ ((ks,es,ss,(m:Int))) E.QO E.CW Qhb ((by dsimp [qI];lia)) (aN _));unfold Ti;rw[cq (λz=>by rw[show aY ks m=false from c]at z;cases z),hO (show ao ks m=true from d)];rfl
 have key:Ti QaD QU es ss mem (fC mode || iG mode) m=[lu ss mem (fC mode || iG mode) m]:=by
  unfold Ti;rw[cq (λz=>by rw[show aY ks m=false from c]at z;cases z),cq (λz=>by rw[show ao ks m=false from d]at z;cases z)]
 rw[key];have f:(fC mode || iG mode)=!decide (mode="new"):=by
  obtain e|e|e:=j<;>rw[e]<;>decide +kernel
 refine eU (oY (xG (dg (aC E.tD) bQ).1 (λn=>(AA (fW (bG QbS Qav (gJ We We)) QbA).1)))) (λa=>?_) (λa=>ai ?_)
 .apply bz (dN (aJ (cS (bG (cy E.bO E.sZ Qa6 UC) Qav (gJ We We)) rfl) gi) aQ);have e:lu ss mem (fC mode || iG mode) m=ss.getD (m:Int).toNat 0:=by
   unfold lu;rw[cq (λz=>by
    rw[f]at z;simp at a;obtain w|w:=a
    .rw[kx w]at z;cases z.1
    .exact z.2 w)]
  rw[e];rfl
 .apply bz (dN (aJ (cS (bG QbS Qav (gJ We We)) rfl) gi) aQ);have e:lu ss mem (fC mode || iG mode) m=mem.getD (m:Int).toNat 0:=by
   unfold lu;simp at a;rw[hO ⟨by rw[f,lr a.1];rfl,a.2⟩]
  rw[e];rfl
noncomputable def i9:FG FE ["tree","memory","mood","mode"] ["inner"] (aj yh):=fG
abbrev Ju:=top 34
abbrev Jv:=At×AT×AT×AT×Nat×Str
noncomputable abbrev Vj:At:=["tree","memory","mood","mode","found","further","place"]
def rA:Jv->BA:=λ(ks,es,ss,mem,m,mode)=>[cW ks es ss,.lst Qc7,.int m,.str mode]
def k6(dd:Nat):Jv->Prop:=λ(ks,es,ss,mem,m,mode)=>(es.length<=900/\ks.length=es.length/\ss.length=es.length/\mem.length=es.length/\m<es.length/\vH mode/\∀k:Nat,k<es.length->aY ks k=true\/ao ks k=true\/ks.getD k Str.empty="one")/\dR QaD QU es ss mem/\es.length<=m+dd+1
def ny:Jv->T:=λ(ks,es,ss,mem,m,mode)=>(.lst (((LZ ks es ss mem mode m).map .int).map T.sh):T)
structure ahq(X:Cx)(CL:BC)(dd:Nat):Prop extends bL X where
 bA:Ln X 0 "tree"
 cO:Ln X 1 "memory"
 bJ:Ln X 2 "mood"
 tD:Ln X 3 "mode"
 fJ:Ln X 4 "found"
 Oo:Ln X 5 "further"
 jU:Ln X 6 "place"
 yj:Gl X "opened_in"
 lS:Gl X "opened"
 Vk:Fc X CL "opened_in" 2 4 tE tF nT
 uI:∀d',d'<dd->Fc X CL "opened" (3+d') 4 rA (k6 d') ny
theorem ahr{dd:Nat}(E:ahq X CL dd) :
  oz X CL b Ju Vj rA (k6 dd) ny:=by
 rintro⟨ks,es,ss,mem,m,mode⟩ h;dsimp [ny]at h ⊢;obtain⟨C,f,M⟩:=h;have y:=C;obtain⟨I,J,hs,hm,A,P,w⟩:=C;have v:LZ ks es ss mem mode m=(m:Int)::(Ti QaD QU es ss mem (fC mode || iG mode) m).flatMap Qgk:=by
  unfold LZ;rw[UG f _ QeV A We We,kG]
 rw[v];apply aL E.g E.fJ (dN QhF aQ);refine aL E.g E.Oo (apc (t:=.sh (.str Qgs)) (dg (aC E.tD) bQ).1 (λs=>aK f9 (by rw[hO (show fC mode=true from s)])) (λs=>aK f9 (by rw[cq (λz=>by rw[show fC mode=false from s]at z;cases z)]))) ?_;have n:vH Qgs:=by
  split
  .exact .inr Qar
  .exact .inl rfl
 have r:fC Qgs=fC mode:=by
  cases e:fC mode with
  | true=>decide +kernel
  | false=>decide +kernel
 have l:iG Qgs=false:=by
  cases e:fC mode with
  | true=>decide +kernel
  | false=>decide +kernel
 generalize L:(if fC mode=true then("far":Str) else "new")=B at n r l ⊢;have i:∀p∈Ti _ _ es ss mem (fC mode || iG mode) m,p∈gX es m:=λp H=>ux f A H;have c:=Ck f (far:=fC mode) (near:=iG mode) (d:=es.length+1) A;rw[kG]at c;generalize x:Ti _ _ es ss mem _ m=a at i c ⊢;refine jc E.g E.jU (λj δ=>∃o,δ=[some _,some _,some _,some _,some (.lst ((((m:Int)::(a.take j).flatMap (λp=>kG QaD QU es ss mem (fC mode) es.length false p)).map _).map _)),some _,o])
  (eB (eW (aK (t2:=T.lst ((a.map _).map _)) (c_ ((ks,es,ss,mem,m,mode)) E.Vk E.yj (ah Qa6 (ah QbS (ah Qav (ah (aC E.tD) aE)))) (y) (aN _)) (by rw[← x];rfl)))) ⟨_,rfl⟩ (λj δ ⟨_,e⟩=>by subst e;exact h7 rfl) ?turn ?fin
 case turn=>
  rintro j d δ K ⟨o,rfl⟩;obtain⟨p,rfl,_,u,R,_,F⟩:=jZ K;have O:=cH f.pre (i p u);obtain⟨q,rfl⟩:∃q:Nat,p=q:=⟨p.toNat,We⟩;have G:=Ck f (far:=fC mode) (near:=false) (d:=es.length) (k:=q) We;have hpl:(((m:Int)::(a.take j).flatMap Qgk).length)<=es.length:=by
   refine kq ?_ c;apply Nat.succ_le_succ;have h2:=GI j a
   conv=>rhs;rw[← h2]
   rw[y6,j2];lia
  refine Fg E.fJ.1 rfl (c_ (ks,es,ss,mem,q,B) (E.uI (dd-1) We) E.lS (ah Qa6 (ah QbS (ah (aC E.jU) (ah (aC E.Oo) aE)))) (⟨⟨I,J,hs,hm,We,n,w⟩,f,We⟩) (aN _)) rfl ?len (ai ?_)
  case len=>
   rw[hP,hP,hP,hP];show _+(kG _ _ es ss mem _ _ _ q).length<=_;lia
  have N:(((m:Int)::(a.take j).flatMap Qgk).map D.int).map T.sh++((LZ ks es ss mem B q).map D.int).map T.sh=(((m:Int)::(a.take QP).flatMap Qgk).map D.int).map T.sh:=by
   unfold LZ;rw[r,l,F];simp
  rw[N];exact⟨_,rfl⟩
 case fin=>
  rintro δ ⟨o,rfl⟩;rw[hP,lL];exact bz (vM E.fJ.1) rfl
noncomputable def iL:FG Vj ["tree","memory","mood","mode"] ["opened_in","opened"] (aj Ju):=fG
abbrev Ei:=top 47
abbrev Ej:=BA×BA×D×EQ×BA×BA×AT
noncomputable abbrev Oq:At:=["chart","come","rows","mood"]
def sL:Ej->BA:=λ(bs,nm,tr,is,os,ws,a)=>[iH bs nm tr (is.map .tup) os ws,.lst Qe1]
def oJ:Ej->Prop:=λ(bs,nm,tr,is,os,ws,a)=>vI is/\a.length<=1000/\∀m∈a,0<=m/\m<is.length
def oK:Ej->T:=λ(bs,nm,tr,is,os,ws,a)=>(.lst ((inR is a).map T.sh):T)
structure ady(X:Cx)(CL:BC):Prop extends bL X where
 aH:Ln X 0 "chart"
 vW:Ln X 1 "come"
 bX:Ln X 2 "rows"
 bJ:Ln X 3 "mood"
 aA:jP X.K QR
 ye:aF X.K QR "ins"
theorem adz(E:ady X CL) :
  oz X CL b Ei Oq sL oJ oK:=by
 rintro⟨bs,nm,tr,is,os,ws,a⟩ h;dsimp [oK]at h ⊢;obtain⟨c,p,n⟩:=h;apply aL E.g E.bX Qa9;refine jc E.g E.bJ (λj δ=>∃o,δ=[some _,some _,some (.lst ((inR is Qdq).map T.sh)),o])
  (eB (v_ E.vW.1)) ⟨_,rfl⟩ (λj δ ⟨_,e⟩=>by subst e;exact h7 rfl) ?turn ?fin
 case turn=>
  rintro j d δ l ⟨o,rfl⟩;obtain⟨m,rfl,_,hm,q,_,f⟩:=jZ l;obtain⟨m0,m1⟩:=n m hm;have k:=(IW c Qdq).1;have i:(a.take j).length<=j:=by simp;lia
  obtain⟨g1,g2⟩:=c.get _;apply mY E.bX.1 rfl (jR (aJ f9 QhF) aQ) rfl (by rw[hP];lia);refine W2 E.bX.1 rfl (bG (cy E.aA E.ye QaI ac9) Qav (gf [] m0 m1)) g2 rfl (by rw[j2,hP,vr];lia) (ai ⟨some Qbr,?_⟩);rw[f,agm,js,hZ];rfl
 case fin=>
  rintro δ ⟨o,rfl⟩;rw[hP,lL];exact bz QdW rfl
noncomputable def rB:FG Oq ["chart","come"] [] (aj Ei):=fG
abbrev QS:=top 42
abbrev QT:=BA×BA×At×AT×AT×EQ×BA×BA
noncomputable abbrev abh:At:=["chart","memory","opens"]
def Ek:QT->BA:=λ(bs,nm,ks,es,ss,is,os,ws)=>[iH bs nm Qba (is.map .tup) os ws]
def El:QT->Prop:=λ(bs,nm,ks,es,ss,is,os,ws)=>nm.length=es.length/\0<es.length/\es.length<=40/\ks.length=es.length/\ss.length=es.length/\is.length=es.length/\vI is/\(∀k:Nat,k<es.length->aY ks k=true\/ao ks k=true\/ks.getD k Str.empty="one")/\dR QaD QU es ss Qep
def zI:QT->T:=λ(bs,nm,ks,es,ss,is,os,ws)=>(.tup [.lst ((inR is (LZ ks es ss Qep "new" 0)).map T.sh),.lst (((LZ ks es ss Qep "new" 0).map .int).map T.sh),.lst (((List.replicate es.length (-1)).map .int).map T.sh)]:T)
structure aly(X:Cx)(CL:BC):Prop extends bL X where
 aH:Ln X 0 "chart"
 cO:Ln X 1 "memory"
 bw:Ln X 2 "opens"
 fS:Gl X "len"
 lS:Gl X "opened"
 uJ:Gl X "in_rows"
 fU:kE X "len"
 uI:Fc X CL "opened" 43 4 rA (k6 40) ny
 Em:Fc X CL "in_rows" 1 2 sL oJ oK
 aA:jP X.K QR
 bf:aF X.K QR "tree"
 kh:aF X.K QR "names"
theorem alz(E:aly X CL) :
  oz X CL b QS abh Ek El zI:=by
 rintro⟨bs,nm,ks,es,ss,is,os,ws⟩ h;dsimp [zI]at h ⊢;obtain⟨d,h0,l,j,hs,hi,i,e,f⟩:=h;apply aL E.g E.cO (aK (aj7 (cu (dN (aJ (gV ak) gi) aQ)) (ay (gT d E.fU (cy E.aA E.kh QaI Fx) E.fS)) rfl We We (by rw[lh];simp;lia)) (by rw[agt]));have k:(List.replicate _ (-1)).length=es.length:=ti ..;apply aL E.g E.bw (aK (c_ (ks,es,ss,List.replicate _ _,0,("new":Str)) E.uI E.lS (ah QcX (ah (vL E.cO.1) (ah ak (ah bQ aE)))) (⟨⟨We,j,hs,k,h0,.inl rfl,e⟩,f,We⟩) (aN _)) (t2:=.lst _) rfl);have c:(LZ ks es ss _ "new" 0).length<=es.length:=Ck f h0;have a:∀m∈LZ ks es ss _ "new" 0,0<=m/\m<is.length:=λm hm=>by
  have n:=bV f _ h0 m hm;lia
 generalize LZ ks es ss _ _ 0=ops at c a ⊢;exact bz (oX (aO (aK (c_ (bs,nm,cW ks es ss,is,os,ws,ops) E.Em E.uJ (ah QaI (ah (vL E.bw.1) aE)) (⟨i,We,a⟩) (dF (IW i ops).2)) rfl) (aO (vM E.bw.1) (aO (vM E.cO.1) bD))) aQ) rfl
noncomputable def rC:FG abh ["chart"] ["len","opened","in_rows"] (aj QS):=fG
abbrev Jw:=top 9
abbrev Jx:=(List (Str×Int))×BA×D×BA×BA×BA
noncomputable abbrev Vl:At:=["chart"]
def A7:Jx->BA:=λ(bs,nm,tr,is,os,ws)=>[iH (bs.map qi) nm tr is os ws]
def vX:Jx->Prop:=λ(bs,nm,tr,is,os,ws)=>bs.length<=1000
noncomputable def vY:Jx->T:=λ(bs,nm,tr,is,os,ws)=>(.lst (((bs.map (·.2)).map D.int).map T.sh):T)
structure ahs(X:Cx)(CL:BC):Prop extends bL X where
 aH:Ln X 0 "chart"
 aA:jP X.K QR
 aD:jP X.K Qac
 dX:aF X.K QR "boxes"
 bZ:aF X.K Qac "boxes"
def aht(E:ahs X CL) :
  oz X CL b Jw Vl A7 vX vY:=by
 rintro⟨bs,nm,tr,is,os,ws⟩ h;dsimp [vX,vY]at h ⊢;refine bz (lH (p:=λ_=>true) (g:=λd=>T.sh d.at2) Qd2 E.g.calm (eB (jH E.aA E.dX Qgd Fw)) Qar (λC s0 e f0 c d hd=>?zX) Qe5) ?eq
 case zX=>
  obtain⟨p,a,rfl⟩:=ip.1 hd;exact⟨rfl,λ_=>cS (aV (ju 0) ak rfl) rfl⟩
 case eq=>
  apply(akQ λp _=>rfl).trans;rw[ia,ia];rfl
noncomputable def Ot:FG Vl ["chart"] [] (aj Jw):=fG
abbrev QV:=top 20
abbrev QW:=Int×Int×AT
noncomputable abbrev abi:At:=["term","boxes","box","more"]
noncomputable def zJ:QW->BA:=λ(a,mo,bs)=>[.tup [.int a,.int mo],.lst Qb7]
def uK:QW->Prop:=λ(a,mo,bs)=>a=-1\/(0<=a/\a<bs.length)
def zK:QW->T:=λ(a,mo,bs)=>(.sh (.int (qW a mo bs)):T)
structure alA(X:Cx)(CL:BC):Prop extends bL X where
 QX:Ln X 0 "term"
 ck:Ln X 1 "boxes"
 Af:Ln X 2 "box"
 Yd:Ln X 3 "more"
theorem alB(E:alA X CL) :
  oz X CL b QV abi zJ uK zK:=by
 rintro⟨c,mo,bs⟩ h;dsimp [uK]at h ⊢;apply aL E.g E.Af (cS (aV (aC E.QX) ak rfl) rfl);apply aL E.g E.Yd (cS (aV (aC E.QX) ak rfl) rfl);refine eU (fW (aC E.Af) QbA).1 (λa=>?_) (λa=>?_)
 .apply bz (v_ E.Yd.1);have e:=i5 a;show T.sh _=T.sh _;rw[qW,hO e]
 .apply ai;have e:=lx a;apply bz (vd (bG (aC E.ck) (aC E.Af) (gJ We We)) (aC E.Yd));show T.sh _=T.sh _;rw[qW,cq e]
noncomputable def yk:FG abi ["term","boxes"] [] (aj QV):=fG
abbrev tG:=top 55
abbrev tH:=J×Bool×AT
abbrev Ag:At:=["row","place","boxes","behind"]
def pA:tH->BA:=λ(r,back,bs)=>[r.d,.int Qlx,.lst Qb7]
def pB:tH->Prop:=λ(r,back,bs)=>∃o m,r.ok (o,m,bs)
def kL:tH->T:=λ(r,back,bs)=>(.lst (((F9 back r bs).map .int).map T.sh):T)
structure Mb(X:Cx)(CL:BC):Prop extends bL X where
 jJ:Ln X 0 "row"
 jU:Ln X 1 "place"
 ck:Ln X 2 "boxes"
 bK:Ln X 3 "behind"
 cM:Gl X "list"
 cD:kE X "list"
def Mf(E:Mb X CL) :
  oz X CL b tG Ag pA pB kL:=by
 rintro⟨r,back,bs⟩ h;dsimp [kL]at h ⊢;obtain⟨o,m,h⟩:=h;apply aL E.g E.bK (ou E.cD (v_ E.ck.1) E.cM bH);refine eU (dg (aV QbP ak (RF r)) bQ).1 (λa=>?_) (λa=>ai ?_)
 .rw[RI h]at a;cases r with
  | put x p q=>
   have hlen:((bs.map D.int).map T.sh).length=bs.length:=by simp
   have c:uW [D.str "put",.int x,.int p,.int q] Qlx=some (.int Qi0):=by cases back<;>rfl
   refine Tb E.bK.1 (cS (aV QbP (aC E.jU) c) rfl) (aV QbP ak rfl) rfl (afd h.1 (hlen▸h.2)) (ai ?_);apply bz Qf3;rw[F9,x5,x5]
  | _=>cases a
 .have e:F9 back r bs=bs:=by cases r<;>first|rfl|cases a
  apply bz Qf3;rw[e]
noncomputable def iM:FG Ag ["row","place","boxes"] ["list"] (aj tG):=fG
abbrev Jy:=top 54
abbrev Jz:=J×AT
abbrev Vm:At:=["row","boxes"]
def A8:Jz->BA:=λ(r,bs)=>[r.d,.lst Qb7]
def A9:Jz->Prop:=λ(r,bs)=>∃o m,r.ok (o,m,bs)
def Ba:Jz->T:=λ(r,bs)=>(.lst (((F9 false r bs).map .int).map T.sh):T)
structure ahu(X:Cx)(CL:BC):Prop extends bL X where
 jJ:Ln X 0 "row"
 ck:Ln X 1 "boxes"
 tK:Gl X "with_number"
 alC:Gl X "AFTER"
 Mg:Fc X CL "with_number" 1 3 pA pB kL
 alD:∃u,X.mg "AFTER" = some (.int 3 u)
def ahv(E:ahu X CL) :
  oz X CL b Jy Vm A8 A9 Ba:=by
 rintro⟨r,bs⟩ h;exact bz (c_ (r,false,bs) E.Mg E.tK (ah QbP (ah (ay (eZ E.alD E.alC)) Qcw)) h (aN _)) rfl
noncomputable def uL:FG Vm ["row","boxes"] ["with_number","AFTER"] (aj Jy):=fG
abbrev Ye:=top 53
abbrev Yg:=cU×AT
abbrev X2:At:=["deed","boxes","word","row"]
def JA:Yg->BA:=λ(q,bs)=>[q.d,.lst Qb7]
def JB:Yg->Prop:=λ(q,bs)=>q.ok bs
def JC:Yg->T:=λ(q,bs)=>(.tup [.lst (((F9 false (q.row bs) bs).map .int).map T.sh),.sh (q.row bs).d]:T)
structure aq6(X:Cx)(CL:BC):Prop extends bL X where
 jo:Ln X 0 "deed"
 ck:Ln X 1 "boxes"
 ym:Ln X 2 "word"
 jJ:Ln X 3 "row"
 vZ:Gl X "value"
 JD:Gl X "redone"
 CY:Fc X CL "value" 1 2 zJ uK zK
 ahx:Fc X CL "redone" 2 2 A8 A9 Ba
def aq7(E:aq6 X CL) :
  oz X CL b Ye X2 JA JB JC:=by
 rintro⟨q,bs⟩ h;have n:(T.lst (((F9 false (q.row bs) bs).map _).map _)).clean=true:=yX▸sC _;have fin:∀(e:Str) (p1 p2 l k j i f o:Pos) (n1:Nat),dh X CL b [.Return (some (.Tuple [.Call (.Name _ p1) [.Name _ p2,.Name _ l] [] k,.Name _ j] n1 i)) f] [some (.sh q.d),some _,some (.sh (.str e)),some _] {nx:=λ_=>(T.tup [.lst (((F9 false (q.row bs) bs).map .int).map T.sh),.sh (q.row bs).d])=.sh .non,rt:=λt _=>t=.tup _}:=λe p1 p2 l k j i f o n1=>bz (oX (aO (c_ (q.row bs,bs) E.ahx E.JD (ah QbP Qcw) (aqg h) n) (aO (v_ E.jJ.1) bD)) aQ) rfl;cases q with
 | put x c m=>
  apply aL E.g E.ym Qif;refine eU (dg (aC E.ym) bQ).1 (λa=>?_) (λa=>absurd rfl (lx a));refine aL E.g E.jJ (jR (ds:=[.str _,.int x,.int _,.int _]) (aO f9 (aO QjM (aO (cS (bG (aC E.ck) QdD (gJ h.1.1 h.1.2)) rfl) (aO (c_ (c,m,bs) E.CY E.vZ (ah QdD Qcw) h.2 rfl) bD)))) aQ) (ai ?_);exact fin _ _ _ _ _ _ _ _ ⟨0,0,0,0⟩ _
 | call s=>
  apply aL E.g E.ym Qif;refine eU (dg (aC E.ym) bQ).1 (λa=>absurd (show("call")="put" from i5 a) Wg) (λa=>?_);refine eU (dg (aC E.ym) bQ).1 (λa=>absurd (show("call")="say" from i5 a) Wg) (λa=>?_);refine aL E.g E.jJ (jR (ds:=[.str _,.str s]) (aO f9 (aO QjM bD)) aQ) (ai (ai ?_));exact fin _ _ _ _ _ _ _ _ ⟨0,0,0,0⟩ _
 | say s c m=>
  apply aL E.g E.ym Qif;refine eU (dg (aC E.ym) bQ).1 (λa=>absurd (show("say")="put" from i5 a) Wg) (λa=>?_);refine eU (dg (aC E.ym) bQ).1 (λa=>?_) (λa=>absurd rfl (lx a));refine aL E.g E.jJ (jR (ds:=[.str _,.str s,.int _]) (aO f9 (aO QjM (aO (c_ (c,m,bs) E.CY E.vZ (ah QdD Qcw) h rfl) bD))) aQ) (ai (ai ?_));exact fin _ _ _ _ _ _ _ _ ⟨0,0,0,0⟩ _
noncomputable def v5:FG X2 ["deed","boxes"] ["value","redone"] (aj Ye):=fG
abbrev Bb:=top 56
abbrev Bc:=Bool×List cU×AT
abbrev JF:At:=["deeds","boxes","behind","rows","called","deed","step"]
def v7:Bc->BA:=λ(l,a,bs)=>[Pg l (a.map cU.d),.lst Qb7]
def qm:Bc->Prop:=λ(l,a,bs)=>a.length<=1000/\∀q∈a,q.ok bs
def qo:Bc->T:=λ(l,a,bs)=>(.tup [.lst (((a.foldl aft bs).map .int).map T.sh),.lst (((uA a bs).map J.d).map T.sh),.lst (((xU a).map .str).map T.sh)]:T)
structure Yh(X:Cx)(CL:BC):Prop extends bL X where
 CJ:Ln X 0 "deeds"
 ck:Ln X 1 "boxes"
 bK:Ln X 2 "behind"
 bX:Ln X 3 "rows"
 lT:Ln X 4 "called"
 jo:Ln X 5 "deed"
 eV:Ln X 6 "step"
 cM:Gl X "list"
 Yi:Gl X "done"
 cD:kE X "list"
 aq8:Fc X CL "done" 3 2 JA JB JC
theorem Yj(E:Yh X CL) :
  oz X CL b Bb JF v7 qm qo:=by
 rintro⟨l,a,bs⟩ h;dsimp [qm]at h ⊢;apply aL E.g E.bK (ou E.cD (v_ E.ck.1) E.cM bH);apply aL E.g E.bX (dQ bD aQ);apply aL E.g E.lT (dQ bD aQ);have u:∀(p y:Pos) (t r o i f:QcP),nH X CL b (.Name "deed" p) (.Name "deeds" y) [some (.sh (Pg l (a.map cU.d))),some Qdk,t,r,o,i,f] (a.map cU.d) [some (.sh (Pg l (a.map cU.d))),some Qdk,t,r,o,i,f]:=by
  intro p y t r o i f;cases l
  .exact DG (v_ E.CJ.1)
  .exact eB (v_ E.CJ.1)
 refine jc E.g E.jo (λj δ=>∃i f,δ=[some _,some _,some (.lst ((((a.take j).foldl aft bs).map _).map T.sh)),some (.lst (((uA Qdq bs).map J.d).map T.sh)),some (.lst (((xU Qdq).map .str).map T.sh)),i,f]) (u _ _ _ _ _ _ _) ⟨_,_,rfl⟩ (λj δ ⟨_,_,e⟩=>by subst e;exact h7 rfl) ?turn ?fin
 case turn=>
  rintro j d δ z ⟨i,f,rfl⟩;rw[la]at z;obtain⟨q,n,rfl⟩:=yA.1 z;have hm:=l7 n;have A:(uA Qdq bs).length<=1000:=by rw[agp,ot];lia
  have v:(xU Qdq).length<=1000:=kq (yY _ _) (by rw[ot];lia);have C:xU (a.take QP)=xU Qdq++(N8 q).toList:=by
   rw[nu n];unfold xU;rw[List.filterMap_append];cases q<;>rfl
  rw[nu n,ago,List.foldl_append,← nu n,C];have w:=IY Qdq bs;have gD:=Qd w q (h.2 q hm);generalize (a.take j).foldl aft bs=cur at w gD ⊢;generalize uA _ bs=rs at A ⊢;generalize xU _=cs at v ⊢;apply aL E.g E.eV (c_ (q,cur) E.aq8 E.Yi (ah (aC E.jo) Qkn) gD (Xv _ _ _));apply aL E.g E.bK Qhp;apply mY E.bX.1 rfl (cS (d:=(q.row cur).d) (aV (vE E.eV.1 rfl rfl) ak rfl) (GR cur q)) rfl W9;have B:(rs.map J.d).map T.sh++[T.sh (q.row cur).d]=((rs++[q.row cur]).map J.d).map T.sh:=by rw[js,js];rfl
  rw[B];cases q with
  | put x k m=>
   refine eU (dg QdD bQ).1 (λc=>absurd (show("put")="call" from i5 c) Wg) (λc=>ai (ai ⟨some (.sh (cU.put x k m).d),some (.tup [.sh .any,.sh ((cU.put x k m).row cur).d]),?_⟩));rw[show(N8 _).toList=[] from rfl,iz];rfl
  | say s k m=>
   refine eU (dg QdD bQ).1 (λc=>absurd (show("say")="call" from i5 c) Wg) (λc=>ai (ai ⟨some (.sh (cU.say s k m).d),some (.tup [.sh .any,.sh ((cU.say s k m).row cur).d]),?_⟩));rw[show(N8 _).toList=[] from rfl,iz];rfl
  | call s=>
   refine eU (dg QdD bQ).1 (λc=>?_) (λc=>absurd rfl (lx c));refine mY E.lT.1 rfl Qif rfl W9 (ai (ai ⟨some (.sh (cU.call s).d),some (.tup [.sh .any,.sh ((cU.call s).row cur).d]),?_⟩));have es:(cs.map D.str).map T.sh++[T.sh (.str s)]=((cs++(N8 (cU.call s)).toList).map D.str).map T.sh:=by rw[js,js];rfl
   rw[← es];rfl
 case fin=>
  rintro δ ⟨i,f,rfl⟩;rw[hP,lL];exact bz Qld rfl
noncomputable def gB:FG JF ["deeds","boxes"] ["list","done"] (aj Bb):=fG
abbrev yo:=top 59
abbrev yp:=Bool×Ee×AT
abbrev FH:At:=["script","boxes","behind","rows","called","part","step"]
def ki:yp->BA:=λ(l,xs,bs)=>[Pg l QeU,.lst Qb7]
def jm:yp->Prop:=λ(l,xs,bs)=>xs.length<=1000/\∀x∈xs,x.ok bs
def nU:yp->T:=λ(l,xs,bs)=>(.tup [.lst (((xs.foldl It.af bs).map .int).map T.sh),.lst (((D3 xs bs).map J.d).map T.sh),.lst (((dG xs).map .str).map T.sh)]:T)
structure Vo(X:Cx)(CL:BC):Prop extends bL X where
 cj:Ln X 0 "script"
 ck:Ln X 1 "boxes"
 bK:Ln X 2 "behind"
 bX:Ln X 3 "rows"
 lT:Ln X 4 "called"
 JG:Ln X 5 "part"
 eV:Ln X 6 "step"
 cM:Gl X "list"
 abj:Gl X "MARKS"
 Bd:Gl X "all_done"
 cD:kE X "list"
 Hg:GT X "MARKS" ["out","keep","way","in"]
 Yk:Fc X CL "all_done" 4 2 v7 qm qo
theorem Vp(E:Vo X CL) :
  oz X CL b yo FH ki jm nU:=by
 rintro⟨l,xs,bs⟩ h;dsimp [jm,ki]at h ⊢;apply aL E.g E.bK (g7 E.cD (aC E.ck) (cC _) E.cM bH);refine aL E.g E.bX (dQ bD aQ) ?_;refine aL E.g E.lT (dQ bD aQ) ?_;have u:∀(p z:Pos) (t s r f a:QcP),nH X CL b (.Name "part" p) (.Name "script" z) [some (.sh (Pg l QeU)),some Qdk,t,s,r,f,a] QeU [some (.sh (Pg l QeU)),some Qdk,t,s,r,f,a]:=by
  intro p z t s r f a;cases l
  .exact DG (v_ E.cj.1)
  .exact eB (v_ E.cj.1)
 refine jc E.g E.JG (λj δ=>∃f a,δ=[some _,some _,some (.lst ((((xs.take j).foldl It.af bs).map _).map T.sh)),some (.lst (((D3 Qd3 bs).map J.d).map T.sh)),some (.lst (((dG Qd3).map .str).map T.sh)),f,a]) (u _ _ _ _ _ _ _) ⟨_,_,rfl⟩ (λj δ ⟨_,_,e⟩=>by subst e;exact h7 rfl) ?turn ?fin
 case turn=>
  rintro j d δ o ⟨f,a,rfl⟩;rw[la]at o;obtain⟨x,n,rfl⟩:=yA.1 o;have hm:=l7 n;have D:(D3 Qd3 bs).length<=1000:=by rw[Cu,ot];lia
  have C:(dG Qd3).length<=1000:=kq (yY _ _) (by rw[ot];lia);have v:=vJ Qd3 bs;have gD:=akT v x (h.2 x hm);have e1:(xs.take QP).foldl It.af bs=((xs.take j).foldl It.af bs |> λc=>x.af c):=by rw[nu n,List.foldl_append];rfl
  have e2:D3 (xs.take QP) bs=D3 Qd3 bs++[x.j ((xs.take j).foldl It.af bs)]:=by rw[nu n,akS];rfl
  have A:dG (xs.take QP)=dG Qd3++x.call.toList:=by rw[nu n,UN]
  rw[e1,e2,A];clear e1 e2 A;generalize (xs.take j).foldl _ bs=cur at v gD ⊢;generalize D3 _ bs=rs at D ⊢;have m:=akR x;by_cases i:x.told=true
  .obtain⟨q,rfl⟩:∃q,x=.lM q:=by cases x<;>first|exact⟨_,rfl⟩|cases i
   refine eU (aaq (l:=Qe) (aV (ay (v_ (d:=.tup (.str q.w::q.ds)) E.JG.1)) ak Um) (ay (Ug E.Hg E.abj)) rfl rfl).1 (λk=>by rw[show decide (q.w∈Qe)=false from m]at k;cases k) (λk=>?_);refine aL E.g E.eV (c_ (true,[q],cur) E.Yk E.Bd (ah (cu (dQ (aO (v_ E.JG.1) bD) aQ)) Qkn) (by exact⟨Wp,λy B=>i4.1 B▸gD ⟩) (Qh (cC _) (adg _ _) (eY Qde _))) ?_;rw[show qo _=T.tup [.lst _,.lst ([(q.row cur).d].map _),.lst _] from rfl];apply aL E.g E.bK Qhp;have F:(xU [q]).length<=1:=yY _ _;apply Fg E.bX.1 rfl QjZ rfl W9;refine Fg E.lT.1 rfl Qj0 rfl W9 (ai (ai ⟨some (.sh q.d),some (.tup [.sh .any,.sh .any,.sh .any]),?_⟩));rw[js,js,js,js];rfl
  .have i:=by simpa using i
   have o:x.j cur=x.sj:=by cases x<;>first|rfl|cases i
   have H:x.af cur=cur:=by cases x<;>first|rfl|cases i
   have G:x.call=none:=by cases x<;>first|rfl|cases i
   rw[i]at m;refine eU (aaq (l:=Qe) (aV (ay (v_ E.JG.1)) ak Um) (ay (Ug E.Hg E.abj)) rfl rfl).1 (λk=>?_) (λk=>by rw[m]at k;cases k);refine mY E.bX.1 rfl (cS (aC E.JG) (Qf x)) rfl W9 (ai (ai ⟨some (.sh x.d),a,?_⟩));rw[o,G,show(x.af) cur=cur from H,show none.toList=[] from rfl,iz,js,js];rfl
 case fin=>
  rintro δ ⟨f,a,rfl⟩;rw[hP,lL];exact bz Qld rfl
noncomputable def eK:FG FH ["script","boxes"] ["list","MARKS","all_done"] (aj yo):=fG
abbrev v8:=top 29
abbrev v9:=BA×BA×D×BA×BA×List bT×Int
noncomputable abbrev CZ:At:=["chart","number"]
def lU:v9->BA:=λ(bs,nm,tr,is,os,ws,i)=>[iH bs nm tr is os QaV,.int i]
def iN:v9->Prop:=λ(bs,nm,tr,is,os,ws,i)=>0<=i/\i<ws.length
def lV:v9->T:=λ(bs,nm,tr,is,os,ws,i)=>(.sh (.bl (qj ws i)):T)
structure QY(X:Cx)(CL:BC):Prop extends bL X where
 aH:Ln X 0 "chart"
 cI:Ln X 1 "number"
 oM:Gl X "TARGET"
 oN:∃u,X.mg "TARGET" = some (.int 4 u)
 aA:jP X.K QR
 bR:aF X.K QR "ways"
def QZ(E:QY X CL) :
  oz X CL b v8 CZ lU iN lV:=by
 rintro⟨bs,nm,tr,is,os,ws,i⟩ h;obtain⟨h0,h1⟩:=h;exact bz (ve (aV (bG (cy E.aA E.bR QaI iY) QeP (gf w0 h0 h1)) (ay (eZ E.oN E.oM)) (d8 rfl)) QbA).2 rfl
noncomputable def nV:FG CZ ["chart","number"] ["TARGET"] (aj v8):=fG
abbrev Q0:=top 12
abbrev Q5:=At×AT×AT×Int
noncomputable abbrev abk:At:=["tree","mood","found","elder"]
def nA:Q5->BA:=λ(ks,es,ss,m)=>[cW ks es ss,.int m]
def nB:Q5->Prop:=λ(ks,es,ss,m)=>fD es/\0<=m/\m<es.length/\es.length<=1000
def nE:Q5->T:=λ(ks,es,ss,m)=>(.lst (((bN es m).map .int).map T.sh):T)
structure alE(X:Cx)(CL:BC):Prop extends bL X where
 bA:Ln X 0 "tree"
 bJ:Ln X 1 "mood"
 fJ:Ln X 2 "found"
 jx:Ln X 3 "elder"
 bO:jP X.K Qag
 cZ:aF X.K Qag "elders"
theorem alF(E:alE X CL) :
  oz X CL b Q0 abk nA nB nE:=by
 rintro⟨ks,es,ss,m⟩ h;obtain⟨f,h0,h1,hlen⟩:=h;apply aL E.g E.fJ Qa9;apply aL E.g E.jx (cS (bG QjJ Qav (gJ h0 h1)) rfl);have hm:=f.at h0 h1;apply Pk E.g (λn δ=>∃(k:Int) (l:AT),δ=[some _,some _,some (.lst ((l.map .int).map T.sh)),some QeN] /\ -1<=k/\k<n/\k<es.length/\l++GN n es k=bN es m/\l.length+n<=es.length+1) QeV
  ⟨ _,[],rfl,hm.1,We,We,rfl,Wp⟩
 rintro n δ ⟨k,l,rfl,k0,k1,k2,d,j⟩;refine⟨_,_,(ve Qff QbA).1,λa=>?_,λa=>?_⟩
 .have c:=by simpa using a
  have i:=f.at We k2;cases n with
  | zero=>lia
  | succ n=>
   apply mY E.fJ.1 rfl (v_ E.jx.1) rfl W9;apply aL E.g E.jx (cS (bG QjJ Qff (gJ We k2)) rfl);refine ai ⟨n,y5 _,_,l++[k],?_,i.1,We,We,?_,W9⟩
   .simp
   .rw[← d,GN,cq c,hZ];rfl
 .have c:=by simpa using a
  subst c;have e:l=bN es m:=by
   rw[← d];cases n with
   | zero=>rw[GN,iz]
   | succ n=>rw[GN,hO rfl,iz]
  subst e;exact bz (vM E.fJ.1) rfl
noncomputable def yq:FG abk ["tree","mood"] [] (aj Q0):=fG
abbrev JH:=top 14
abbrev JK:=At×AT×AT×Int×Int
noncomputable abbrev Vq:At:=["tree","mood","other"]
def nF:JK->BA:=λ(ks,es,ss,m,o)=>[cW ks es ss,.int m,.int o]
def nG:JK->Prop:=λ(ks,es,ss,m,o)=>fD es/\0<=m/\m<es.length/\es.length<=1000
def nI:JK->T:=λ(ks,es,ss,m,o)=>(.sh (.bl (decide (o=-1) || decide (o∈bN es m))):T)
structure ahy(X:Cx)(CL:BC):Prop extends bL X where
 bA:Ln X 0 "tree"
 bJ:Ln X 1 "mood"
 ja:Ln X 2 "other"
 lW:Gl X "above"
 qp:Fc X CL "above" 1 2 nA nB nE
def ahz(E:ahy X CL) :
  oz X CL b JH Vq nF nG nI:=by
 rintro⟨ks,es,ss,m,o⟩ h;exact bz (Td (fW QbT QbA).2 (λ_=>O7 (vm QbT (cu (c_ (ks,es,ss,m) E.qp E.lW Qhb h (aN _))) rfl rfl).2)) rfl
noncomputable def uM:FG Vq ["tree","mood","other"] ["above"] (aj JH):=fG
abbrev NO:=top 18
abbrev NN:=At×AT×AT×Int×Int
noncomputable abbrev S1:At:=["tree","one","other","upper"]
def Q6:NN->BA:=λ(ks,es,ss,a,c)=>[cW ks es ss,.int a,.int c]
def Q7:NN->Prop:=λ(ks,es,ss,a,c)=>fD es/\es.length<=1000/\ks.length=es.length/\(0<=a/\a<es.length)/\0<=c/\c<es.length
def Hh:NN->T:=λ(ks,es,ss,a,c)=>(.sh (.int (PR QaN es a c)):T)
structure avP(X:Cx)(CL:BC):Prop extends bL X where
 bA:Ln X 0 "tree"
 rq:Ln X 1 "one"
 ja:Ln X 2 "other"
 jy:Ln X 3 "upper"
 lW:Gl X "above"
 oO:Gl X "within"
 qp:Fc X CL "above" 1 2 nA nB nE
 oQ:Fc X CL "within" 2 3 nF nG nI
 bO:jP X.K Qag
 aZ:aF X.K Qag "kinds"
theorem avQ(E:avP X CL) :
  oz X CL b NO S1 Q6 Q7 Hh:=by
 rintro⟨ks,es,ss,a,c⟩ h;dsimp [Hh]at h ⊢;obtain⟨p,r,A,⟨s,a1⟩,c0,v⟩:=h;refine jc E.g E.jy (λj δ=>∃o,(∀x∈(bN es a).take j,(cg ks x&&decide (x∈bN es c))=false)/\δ=[some _,some _,some _,o])
  (eB (eW (c_ (_,_,_,_) E.qp E.lW (ah Qa6 (ah QcM aE)) ((⟨p,s,a1,r⟩)) (aN _)))) ⟨_,λx i=>by simp at i,rfl⟩ (λj δ ⟨_,_,e⟩=>by subst e;exact h7 rfl) ?turn ?fin
 case turn=>
  rintro j d δ m ⟨o,k,rfl⟩;rw[la]at m;cases i:(bN es a)[j]? with
  | none=>rw[i]at m;cases m
  | some x=>
   rw[i]at m;cases m;have n:=l7 i;have u:=bF p s a1 n;have z:=(l4.1 i).1;have t:(bN es a).take QP=(bN es a).take j++[x]:=by rw[rr,i];rfl
   refine eU (oY (ic (dg (bG Qb6 (aC E.jy) (gf Str.empty We We)) bQ).1 (λB=>(iU (qQ (c_ (_,_,_,_,_) E.oQ E.oO (ah Qa6 (ah QbT (ah (aC E.jy) aE))) ((⟨p,c0,v,r⟩)) rfl)))))) (λl=>?_) (λl=>ai (ai ⟨_,?_,rfl⟩))
   .apply bz (v_ E.jy.1);have q:(cg ks x&&decide (x∈bN es c))=true:=by
     have:decide (x=-1)=false:=lr We;rw[this]at l;exact l
    have:(bN es a).find? (λx=>cg ks x&&decide (x∈bN es c))=some x:=by
     have w:=by
      have h2:=GI j (bN es a);rw[LA z]at h2;have:=(l4.1 i).2;rw[this]at h2;exact h2.symm
     conv=>lhs;rw[w]
     rw[List.find?_append,List.find?_eq_none.2 (λy f=>by rw[k y f];decide),sA,q];rfl
    show _=T.sh _;unfold PR;rw[this];rfl
   .intro y f;rw[t]at f;obtain f|f:=hV.1 f
    .exact k y f
    .have e:=by simpa using f
     subst e;have:decide (y=-1)=false:=lr We;rw[this]at l;exact l
 case fin=>
  rintro δ ⟨o,k,rfl⟩;rw[hP,lL]at k;apply bz (gV ak);unfold PR;rw[List.find?_eq_none.2 (λy f=>by rw[k y f];decide)];rfl
noncomputable def Be:FG S1 ["tree","one","other"] ["above","within"] (aj NO):=fG
abbrev En:=top 30
abbrev Eo:=BA×BA×At×AT×AT×BA×BA×List bT×Int
noncomputable abbrev Ou:At:=["chart","number","way"]
def oR:Eo->BA:=λ(bs,nm,ks,es,ss,is,os,ws,i)=>[iH bs nm Qba is os QaV,.int i]
def ly:Eo->Prop:=λ(bs,nm,ks,es,ss,is,os,ws,i)=>fD es/\es.length<=1000/\ks.length=es.length/\QeD/\Qgu/\0<=(ig ws i).iq/\(ig ws i).iq<es.length
def oS:Eo->T:=λ(bs,nm,ks,es,ss,is,os,ws,i)=>(.sh (.int (jd ks es QbQ)):T)
structure adA(X:Cx)(CL:BC):Prop extends bL X where
 aH:Ln X 0 "chart"
 cI:Ln X 1 "number"
 gQ:Ln X 2 "way"
 NM:Gl X "top"
 JL:Gl X "SOURCE"
 oM:Gl X "TARGET"
 avR:Fc X CL "top" 3 3 Q6 Q7 Hh
 uN:∃u,X.mg "SOURCE" = some (.int 0 u)
 oN:∃u,X.mg "TARGET" = some (.int 4 u)
 aA:jP X.K QR
 bR:aF X.K QR "ways"
 bf:aF X.K QR "tree"
def adB(E:adA X CL) :
  oz X CL b En Ou oR ly oS:=by
 rintro⟨bs,nm,ks,es,ss,is,os,ws,i⟩ h;obtain⟨d,e,f,⟨c,i1⟩,hs,a⟩:=h;exact aL E.g E.gQ (aK (WQ Qfn QeP (gf w0 c i1)) rfl) (bz (c_ (ks,es,ss,(ig ws i).src,(ig ws i).iq) E.avR E.NM (ah QcX (ah (aV QbN (ay (eZ E.uN E.JL)) DQ) (ah Qgt aE))) (⟨d,e,f,hs,a⟩) rfl) rfl)
noncomputable def k7:FG Ou ["chart","number"] ["top","SOURCE","TARGET"] (aj En):=fG
abbrev Q8:=top 13
abbrev Q9:=At×AT×AT×Int
noncomputable abbrev abl:At:=["tree","mood"]
def Ep:Q9->BA:=λ(ks,es,ss,m)=>[cW ks es ss,.int m]
def zL:Q9->Prop:=λ(ks,es,ss,m)=>fD es/\0<=m/\m<es.length/\es.length<=1000
def Er:Q9->T:=λ(ks,es,ss,m)=>(.sh (.int ((bN es m).length:Nat)):T)
structure alG(X:Cx)(CL:BC):Prop extends bL X where
 bA:Ln X 0 "tree"
 bJ:Ln X 1 "mood"
 fS:Gl X "len"
 lW:Gl X "above"
 fU:kE X "len"
 qp:Fc X CL "above" 1 2 nA nB nE
def alH(E:alG X CL) :
  oz X CL b Q8 abl Ep zL Er:=by
 rintro⟨ks,es,ss,m⟩ h;have a:((bN es m).map D.int).length=(bN es m).length:=by simp
 exact bz (gT a E.fU (cu (c_ (ks,es,ss,m) E.qp E.lW Qhb h (sC _))) E.fS) rfl
noncomputable def yr:FG abl ["tree","mood"] ["len","above"] (aj Q8):=fG
abbrev yt:=top 31
abbrev yu:=At×AT×AT×Int×Int
noncomputable abbrev FI:At:=["tree","one","other"]
def tL:yu->BA:=λ(ks,es,ss,t,u)=>[cW ks es ss,.int t,.int u]
def nW:yu->Prop:=λ(ks,es,ss,t,u)=>fD es/\es.length<=1000/\(-1<=t/\t<es.length) /\ -1<=u/\u<es.length
def nX:yu->T:=λ(ks,es,ss,t,u)=>(.sh (.bl (Oc es t u)):T)
structure Vr(X:Cx)(CL:BC):Prop extends bL X where
 bA:Ln X 0 "tree"
 rq:Ln X 1 "one"
 ja:Ln X 2 "other"
 oO:Gl X "within"
 oQ:Fc X CL "within" 2 3 nF nG nI
theorem Vs(E:Vr X CL) :
  oz X CL b yt FI tL nW nX:=by
 rintro⟨ks,es,ss,t,u⟩ h;dsimp [nX]at h ⊢;obtain⟨c,d,⟨t0,t1⟩,u0,u1⟩:=h;unfold Oc;refine eU (oY (xG (fW QcM QbT).1 (λf=>(xG (fW QcM QbA).1 (λe=>(AA (fW QbT QbA).1)))))) (λa=>?_) (λa=>ai ?_)
 .apply bz oq;rw[a];rfl
 .rw[a];simp at a;apply bz (Td (c_ ((ks,es,ss,t,u)) E.oQ E.oO (ah Qa6 (ah QcM (ah QbT aE))) ((⟨c,We,We,d⟩)) rfl) (λf=>(O7 (c_ ((ks,es,ss,u,t)) E.oQ E.oO (ah Qa6 (ah QbT (ah QcM aE))) ((⟨c,We,We,d⟩)) rfl))));rw[lr a.2.2,lr a.2.1];rfl
noncomputable def lX:FG FI ["tree","one","other"] ["within"] (aj yt):=fG
abbrev Ra:=top 32
abbrev Yl:=BA×BA×At×AT×AT×BA×BA×List bT×AT
noncomputable abbrev YR:At:=["chart","found","chosen","tops","number","upper"]
def C1:Yl->BA:=λ(bs,nm,ks,es,ss,is,os,ws,row)=>[iH bs nm Qba is os QaV,.lst (row.map .int)]
def C2:Yl->Prop:=λ(bs,nm,ks,es,ss,is,os,ws,row)=>fD es/\es.length<=900/\ks.length=es.length/\row.length<=63/\(∀k∈row,0<=k/\k<ws.length)/\∀w∈ws,(0<=w.src/\w.src<es.length) /\ -1<=w.iq/\w.iq<es.length
def C3:Yl->T:=λ(bs,nm,ks,es,ss,is,os,ws,row)=>(.lst (((T1 ks es ws row).map .int).map T.sh):T)
structure ara(X:Cx)(CL:BC):Prop extends bL X where
 aH:Ln X 0 "chart"
 lY:zW X "chart"
 fJ:Ln X 1 "found"
 JM:Ln X 2 "chosen"
 Ym:Ln X 3 "tops"
 cI:Ln X 4 "number"
 jy:Ln X 5 "upper"
 Rb:zW X "upper"
 fc:Gl X "sorted"
 wc:Gl X "has_target"
 nJ:Gl X "way_top"
 avT:Gl X "any"
 fh:kE X "sorted"
 wg:Fc X CL "has_target" 1 2 lU iN lV
 uO:Fc X CL "way_top" 4 2 oR ly oS
 avU:kE X "any"
 alI:Fc X CL "depth" 2 2 Ep zL Er
 uN:∃u,X.mg "SOURCE" = some (.int 0 u)
 Vt:Fc X CL "tops_meet" 3 3 tL nW nX
 aA:jP X.K QR
 bf:aF X.K QR "tree"
 bR:aF X.K QR "ways"
 lam:xC X CL "#kept.<locals>.<lambda>" "kept.<locals>.<lambda>"
 dp:X.A.depth<recursionLimit
 rm:fO 4 X.A
theorem arb(E:ara X CL) :
  oz X CL b Ra YR C1 C2 C3:=by
 rintro⟨bs,nm,ks,es,ss,is,os,ws,row⟩ h;dsimp only [C2,C1,C3]at h ⊢;obtain⟨H,F,M,Z,G,hw⟩:=h;refine aL E.g E.JM Qa9 ?_;refine aL E.g E.Ym Qa9 ?_;have R:∀(l:AT) (x:Int),(l.map D.int).map T.sh++[T.sh Qdy]=((l++[x]).map D.int).map T.sh:=by intros;simp
 have P:∀{w:bT},w∈ws->-1<=jd ks es w/\jd ks es w<es.length:=λ{w} hm=>by
  have hs:=(hw w hm).1;rcases agu (bY:=cg ks) (es:=es) (a:=w.src) (c:=w.iq) with z|z
  .unfold jd;rw[z];lia
  .have:=bF H hs.1 hs.2 z;unfold jd;lia
 have Y:(e9 Qce row).length<=63:=by rw[zf];exact Z
 have B:∀k∈e9 Qce row,0<=k/\k<ws.length:=λk M=>G k (nh.1 M);have N:∀l:AT,(∀k∈l,0<=k/\k<ws.length)->∀t∈(n6 ks es ws l).2,-1<=t/\t<es.length:=by
  have gen:∀(l:AT) (s:AT×AT),(∀k∈l,0<=k/\k<ws.length)->(∀t∈s.2,-1<=t/\t<es.length)->∀t∈(l.foldl Qg0 s).2,-1<=t/\t<es.length:=by
   intro l
   induction l with
   | nil=>intro s _ hs;exact hs
   | cons k l V=>
    intro s F hs;rw[rj];refine V _ (λq v=>F q (hX _ v)) ?_;obtain⟨k0,k1⟩:=F k hU;unfold nq;split
    .split
     .exact hs
     .intro t u;obtain z|z:=hV.1 u
      .exact hs t z
      .rw[i4.1 z];exact P (sF k0 k1)
    .exact hs
  exactλl F=>gen l ([],[]) F (λt u=>by cases u)
 refine jc E.g E.cI (λj δ=>∃o n,δ=[some _,some (.sh (.lst (row.map .int))),some (.lst (((n6 ks es ws ((e9 Qce row).take j)).1.map .int).map T.sh)),some (.lst (((n6 ks es ws ((e9 Qce row).take j)).2.map .int).map T.sh)),o,n])
  (eB (eW (ds:=(e9 Qce row).map .int) (aK (AQ (y:="way") (g:=λd=>Jc es ws d.ug) E.lam E.g E.dp E.fh E.fc QgB (aC E.fJ) (cC _) W9 (λf c s0 H0 b' d hd=>?key)) (by rw[qG];rfl)))) ⟨_,_,rfl⟩ (λj δ ⟨_,_,e⟩=>by subst e;exact h7 rfl) ?turn ?fin
 case key=>
  obtain⟨k,A,rfl⟩:=ip.1 hd;obtain⟨k0,k1⟩:=G k A;obtain⟨⟨s0,s1⟩,_⟩:=hw _ (sF k0 k1);exact ay (aK (gV (ay (c_ (ks,es,ss,(ig ws k).src) (apW E.alI (E.rm.mono Wl)) (Xd Wg) (ah (cy (by exact E.aA) (by exact E.bf) Qji fX) (ah (aV (bG (cy (by exact E.aA) (by exact E.bR) Qji iY) Qjh (gf (f:=iu) w0 k0 k1)) (ay (eZ (by exact E.uN) (Xd Wg))) DQ) aE)) (by dsimp only [zL];exact⟨H,s0,s1,We⟩) rfl))) rfl)
 case turn=>
  rintro j d δ hj ⟨o,n,rfl⟩;obtain⟨k,rfl,_,A,NQ,_,S⟩:=jZ hj;obtain⟨k0,k1⟩:=B k A;obtain⟨J,I⟩:=hw _ (sF k0 k1);have hlen:=aaR ks es ws ((e9 Qce row).take j);have nR:((e9 Qce row).take j).length<=63:=by rw[ot];lia
  have r:=N ((e9 Qce row).take j) λq v=>B q (tf v);show dh X CL b _ _ {nx:=λδ=>∃o n,δ=[_,_,some Qdz,some Qdz,o,n],rt:=_,bk:=_,ct:=λδ=>∃o n,δ=[_,_,some Qdz,some Qdz,o,n]};rw[S,agG];generalize n6 ks es ws ((e9 Qce row).take j)=s at hlen r ⊢;obtain⟨cs,Cv⟩:=s;dsimp only at hlen r ⊢;unfold nq;dsimp only;refine B6 (λδ=>∃O n,(if qj ws k=true then(if Cv.any (Oc es QhY)=true then(cs,Cv) else(cs++[k],Cv++[jd ks es QdY])) else(cs++[k],Cv))=(cs++[k],O)/\δ=[some (.sh (iH bs nm Qba is os QaV)),some (.sh (.lst (row.map .int))),some (.lst ((cs.map .int).map T.sh)),some (.lst ((O.map .int).map T.sh)),some QeN,n])
   (qQ (aK (c_ (bs,nm,cW ks es ss,is,os,ws,k) E.wg E.wc QgU (by dsimp only [iN];exact⟨k0,k1⟩) rfl) (t2:=.sh (.bl (qj ws k))) rfl)) (λm=>?_) (λm=>?_) ?_
  .have m:qj ws k=true:=m;have W:¬ (ig ws k).iq=-1:=by unfold qj at m;simpa using m
   refine aL E.g E.jy (aK (c_ (bs,nm,ks,es,ss,is,os,ws,k) E.uO E.nJ QgU (by dsimp only [ly];exact⟨H,We,M,⟨k0,k1⟩,J,We,I.2⟩) rfl) rfl) ?_;have K:=P (sF (ws:=ws) k0 k1);refine eU (qQ (aK (apN E.g E.avU (cu (aK (Uv (p:=λ_=>true) (g:=λd=>T.sh (.bl (Oc es QhY d.ug))) (bu (.cons E.aH.1 (.inl E.lY) (.cons E.jy.1 (.inl E.Rb) .nil)) Wg) E.g.calm (vL E.Ym.1) (λd _=>rfl) (λC s0 H0 f0 b' d hd=>?zX) (kv (cA (by rw[hP];lia)))) ?ceq)) E.avT) (t2:=.sh (.bl (Cv.any (Oc es QhY)))) (congrArg (λz=>T.sh (.bl z)) (by rw[List.any_map];rfl)))) (λv=>?_) (λv=>ai ?_)
   case zX=>
    obtain⟨t,L,rfl⟩:=ip.1 hd;exact⟨rfl,λ_=>aK (c_ (ks,es,ss,jd ks es QdY,t) (lD E.Vt) vA (ah (cy (by exact E.aA) (by exact E.bf) (fZ 1) fX) (ah (fZ 2) (ah (ju 0) aE))) (by dsimp only [nW];exact⟨H,We,K,r t L⟩) rfl) rfl⟩
   case ceq=>
    rw[jF,ia,ia,ia];rfl
   .refine apx ?_;rw[hO m,hO v];exact⟨_,_,rfl⟩
   .refine mY E.Ym.1 rfl (v_ E.jy.1) rfl W9 (ai ⟨Cv++[jd ks es QdY],some (.sh (.int QhY)),?_,?_⟩)
    .rw[hO m,cq (by rw[v];decide)]
    .rw[R];rfl
  .have m:qj ws k=false:=m;exact ai ⟨Cv,_,by rw[cq (by rw[m];decide)],rfl⟩
  rintro δ ⟨O,U,eT,rfl⟩;rw[eT];refine mY E.JM.1 rfl (v_ E.cI.1) rfl W9 (ai ?_);rw[R];exact⟨_,_,rfl⟩
 case fin=>
  rintro δ ⟨o,n,rfl⟩;rw[hP,lL];have hlen:=aaR ks es ws QfV;exact bz (aK (m9 E.fh (vL E.JM.1) We E.fc) rfl) rfl
def kM:Te (aj Ra) ([("chart",.cell),("found",cG),("chosen",cG),("tops",cG),("number",cG),("upper",.cell),("sorted",bI),("has_target",bI),("way_top",bI),("any",bI)])=true:=by decide +kernel
noncomputable def abm:dz YR ["chart","found"] (aj Ra):=jt
abbrev nY:=top 27
abbrev tM:=BA×BA×At×AT×AT×BA×BA×BA×AT
noncomputable abbrev Ah:At:=["chart","opens"]
def pC:tM->BA:=λ(bs,nm,ks,es,ss,is,os,ws,ops)=>[iH bs nm Qba is os ws,.lst QdS]
def pD:tM->Prop:=λ(bs,nm,ks,es,ss,is,os,ws,ops)=>ops.length<=1000/\∀x∈ops,0<=x/\x<ks.length
def kN:tM->T:=λ(bs,nm,ks,es,ss,is,os,ws,ops)=>(.lst (((nk ks ops).map .int).map T.sh):T)
structure Mh(X:Cx)(CL:BC):Prop extends bL X where
 aH:Ln X 0 "chart"
 lY:zW X "chart"
 bw:Ln X 1 "opens"
 aA:jP X.K QR
 bO:jP X.K Qag
 aZ:aF X.K Qag "kinds"
 bf:aF X.K QR "tree"
def Mi(E:Mh X CL) :
  oz X CL b nY Ah pC pD kN:=by
 rintro⟨bs,nm,ks,es,ss,is,os,ws,ops⟩ h;dsimp [kN]at h ⊢;obtain⟨f,e⟩:=h;refine bz (lH (p:=λd=>RS ks d.ug) (g:=T.sh) QgB E.g.calm (eB (v_ E.bw.1)) Qar (λC s0 j f0 i d hd=>?zX) (Nat.le_of_lt (cA (by simpa using f)))) ?eq
 case zX=>
  obtain⟨x,c,rfl⟩:=ip.1 hd;obtain⟨x0,a⟩:=e x c;exact⟨(dg (bG (cy (by exact E.bO) (by exact E.aZ) (cy (by exact E.aA) (by exact E.bf) (fZ 1) fX) fz) (ju 0) (gf _ x0 a)) bQ).1,λ_=>v_ (DR 0)⟩
 case eq=>
  rw[o2,ia,ia];rfl
def rD:Te (aj nY) ([("chart",.cell),("opens",cG)])=true:=by decide +kernel
noncomputable def JN:dz Ah ["chart","opens"] (aj nY):=jt
abbrev Yn:=top 25
abbrev Yo:=List xo×AT
noncomputable abbrev YP:At:=["asks","opens","ask"]
def JQ:Yo->BA:=λ(l,ops)=>[.tup (l.map qX),.lst QdS]
def JR:Yo->Prop:=λ(l,ops)=>∀a∈l,a.Mo
def C4:Yo->T:=λ(l,ops)=>(.sh (.bl (Od ops (l.map qX))):T)
structure arc(X:Cx)(CL:BC):Prop extends bL X where
 A5:Ln X 0 "asks"
 bw:Ln X 1 "opens"
 p9:Ln X 2 "ask"
def ard(E:arc X CL) :
  oz X CL b Yn YP JQ JR C4:=by
 rintro⟨l,ops⟩ h;dsimp [C4]at h ⊢;refine jc E.g E.p9 (λj δ=>∃o,(∀d∈(l.map qX).take j,xm ops d=true)/\δ=[some _,some _,o])
  (DG (v_ E.A5.1)) ⟨_,λx v=>by simp at v,rfl⟩ (λj δ ⟨_,_,e⟩=>by subst e;exact h7 rfl) ?turn ?fin
 case turn=>
  rintro j d δ s ⟨o,p,rfl⟩;have t:(l.map qX).take QP=(l.map qX).take j++[d]:=by rw[rr,s];rfl
  have n:=l7 s;have no:xm ops d=false->Od ops _=false:=λe=>List.all_eq_false.2 ⟨d,n,by rw[e];decide⟩;obtain⟨a,z,rfl⟩:=ip.1 n;have w:=h a z;have i:xm ops _=true->∀y∈(l.map qX).take _,xm ops y=true:=λe y f=>by
   rw[t]at f;obtain f|f:=hV.1 f
   .exact p y f
   .exact i4.1 f▸e
  cases a with
  | num mk b1 m1 b2 m2=>
   obtain⟨n1,u⟩:=akW w;refine eU (oY (ic (q:=false) (dg Qcv bQ).1 (λr=>absurd (i5 r) n1))) (λc=>by simp at c) (λ_=>ai ?_);refine eU (oY (ic (q:=false) (dg Qcv bQ).1 (λr=>absurd (i5 r) u))) (λc=>by simp at c) (λ_=>ai (ai ⟨_,i rfl,rfl⟩))
  | Ja op m=>
   have hf:=agw ops op m;refine eU (oY (ic (dg Qcv bQ).1 (λ_=>iU (zc Qcv QaR rfl rfl).1))) (λc=>?_) (λc=>ai ?_)
   .have c:=c;apply bz oq;rw[no];rw[hf];cases op with
    | false=>exact absurd c (by rw[show decide _=false by decide +kernel];simp)
    | true=>rw[Bool.and_eq_true]at c;simpa using c.2
   refine eU (oY (ic (dg Qcv bQ).1 (λ_=>iU (vm Qcv QaR rfl rfl).1))) (λk=>?_) (λk=>ai (ai ⟨_,i ?_,rfl⟩))
   .apply bz oq;rw[no];rw[hf];cases op with
    | true=>exact absurd k (by rw[show decide _=false by decide +kernel];simp)
    | false=>rw[Bool.and_eq_true]at k;simpa using k.2
   .rw[hf];cases op with
    | true=>simpa using c
    | false=>simpa using k
 case fin=>
  rintro δ ⟨o,p,rfl⟩;rw[lL]at p;apply bz oq;rw[show Od ops _=true from ro.2 p]
noncomputable def Hi:FG YP ["asks","opens"] [] (aj Yn):=fG
abbrev C5:=top 24
abbrev JS:=BA×BA×At×AT×AT×BA×BA×List bT×AT×Int×Str
noncomputable abbrev Vu:At:=["chart","opens","leaf","sign","found","number","way","line"]
def wk:JS->BA:=λ(bs,nm,ks,es,ss,is,os,ws,ops,leaf,sg)=>[iH bs nm Qba is os QaV,.lst QdS,.int leaf,.str sg]
def Bf:JS->Prop:=λ(bs,nm,ks,es,ss,is,os,ws,ops,leaf,sg)=>fD es/\es.length<=900/\0<=leaf/\leaf<es.length/\ws.length<=63/\YU ws
def rE:JS->T:=λ(bs,nm,ks,es,ss,is,os,ws,ops,leaf,sg)=>(.lst (((xf ws ops sg (leaf::bN es leaf)).map .int).map T.sh):T)
structure ahF(X:Cx)(CL:BC):Prop extends bL X where
 aH:Ln X 0 "chart"
 lY:zW X "chart"
 bw:Ln X 1 "opens"
 JT:Ln X 2 "leaf"
 lQ:Ln X 3 "sign"
 fJ:Ln X 4 "found"
 cI:Ln X 5 "number"
 gQ:Ln X 6 "way"
 JV:Ln X 7 "line"
 Yp:zW X "line"
 lW:Gl X "above"
 yf:Gl X "enumerate"
 arf:Gl X "SIGN"
 JL:Gl X "SOURCE"
 Yq:Gl X "fits"
 Yr:Gl X "ASKS"
 fc:Gl X "sorted"
 qp:Fc X CL "above" 1 2 nA nB nE
 yg:kE X "enumerate"
 arh:∃u,X.mg "SIGN" = some (.int 1 u)
 uN:∃u,X.mg "SOURCE" = some (.int 0 u)
 ari:Fc X CL "fits" 1 2 JQ JR C4
 Ys:∃u,X.mg "ASKS" = some (.int 2 u)
 fh:kE X "sorted"
 aA:jP X.K QR
 bR:aF X.K QR "ways"
 bf:aF X.K QR "tree"
 lam:xC X CL "#goable.<locals>.<lambda>" "goable.<locals>.<lambda>"
 dp:X.A.depth<recursionLimit
 rm:fO 1 X.A
theorem ahG(E:ahF X CL) :
  oz X CL b C5 Vu wk Bf rE:=by
 rintro⟨bs,nm,ks,es,ss,is,os,ws,ops,leaf,sg⟩ h;dsimp [wk,rE]at h ⊢;obtain⟨A,K,f0,f1,z,t⟩:=h;have J:(bN es leaf).length<=es.length+1:=zj _ _ _;have L:([D.int leaf]++(bN es leaf).map _)=(leaf::bN es leaf).map _:=rfl;refine aL E.g E.JV (aK (zb (cu (ds:=[.int leaf]) (dQ (aO (v_ E.JT.1) bD) aQ)) (cu (c_ (ks,es,ss,leaf) E.qp E.lW (ah QcX (ah (aC E.JT) aE)) (by exact⟨A,f0,f1,We⟩) (aN _))) rfl (cC _) Qe5) (t2:=.lst (((leaf::bN es leaf).map .int).map T.sh)) rfl) ?_;generalize leaf::bN es leaf=ln;refine aL E.g E.fJ Qa9 ?_;have F:∀(l:AT) (x:Int),(l.map D.int).map T.sh++[T.sh Qdy]=((l++[x]).map D.int).map T.sh:=by simp
 refine apy E.g (aat E.g.nd E.g.calm E.cI E.gQ) (λj δ=>∃n m,δ=[some _,some _,some _,some _,some (.lst ((((sq ws ops sg ln j).map λ(k:Nat)=>(k:Int)).map .int).map T.sh)),n,m,some _])
  (Ue w0 E.yg Qfn E.yf) ⟨_,_,rfl⟩ (λj δ ⟨_,_,e⟩=>by subst e;intro i hi;simp only[hR,ke,or_false]at hi;obtain rfl|rfl:=hi<;>exact h7 rfl) ?turn ?fin
 case turn=>
  rintro j d δ B ⟨n,m,rfl⟩;obtain⟨i,rfl,hi,G,u,_,_⟩:=jZ B;have C:=by
   rw[List.getElem?_range (by simpa using (List.getElem?_eq_some_iff.1 hi).1)]at hi;exact(k4 hi).symm
  subst C;have u:=ml.1 G;refine⟨_,rfl,?_⟩;obtain⟨w,hw⟩:∃w,ws.getD i w0=w:=⟨_,rfl⟩;have p:w∈ws:=by rw[← hw,kf,kA u];exact List.getElem_mem _
  obtain⟨al,o,s⟩:=t w p;show dh X CL b _ _ {nx:=λδ=>∃n m,δ=[_,_,_,_,some (.lst ((((sq ws ops sg ln _).map _).map .int).map T.sh)),n,m,_],rt:=_,bk:=_,ct:=_};rw[agx,hw];have r:=aaP ws ops sg ln i;refine eU (oY (ic (dg (aV QbN (ay (eZ E.arh E.arf)) LX) (aC E.lQ)).1 (λ_=>ic (vm (aV QbN (ay (eZ E.uN E.JL)) DQ) (vL E.JV.1) rfl rfl).1 (λ_=>iU (qQ (aK (c_ (al,ops) E.ari E.Yq (ah (wY (aV QbN (ay (eZ E.Ys E.Yr)) HI) (congrArg _ o)) (ah QaR aE)) (by exact s) rfl) (t2:=.sh (.bl (Od ops w.asks))) (by rw[o];rfl))))))) (λa=>?_) (λa=>ai (ai ?_))
  .have a:u4 ops sg ln w=true:=a;refine mY E.fJ.1 rfl (v_ E.cI.1) rfl W9 (ai (ai ?_));rw[F,hO a,js];exact⟨_,_,rfl⟩
  .have a:u4 ops sg ln w=false:=a;rw[cq (by rw[a];decide),iz];exact⟨_,_,rfl⟩
 case fin=>
  rintro δ ⟨n,m,rfl⟩;rw[hP,ov];have r:=aaP ws ops sg ln ws.length;have H:∀{k:Nat},k∈sq ws ops sg ln _->k<ws.length/\(ws.getD k w0).src∈ln:=λq=>by
   obtain⟨h1,h2⟩:=j1.1 q;simp only[u4,km,vT]at h2;exact⟨ml.1 h1,h2.2.1⟩
  refine bz (aK (AQ (y:="way") (g:=λd=>((D6 ln (ws.getD d.ug.toNat w0).src:Nat))) E.lam E.g E.dp E.fh E.fc (bu (.cons E.aH.1 (.inl E.lY) (.cons E.JV.1 (.inl E.Yp) .nil)) Wg) (vL E.fJ.1) (cC _) W9 (λf c s0 N M d hd=>?key)) ?eq) rfl
  case key=>
   obtain⟨x,v,rfl⟩:=ip.1 hd;obtain⟨k,q,rfl⟩:=ip.1 v;obtain⟨k1,k2⟩:=H q;have I:uW QaV k=some _:=(gf w0 We We).trans (by rw[jj]);refine ay (aK (afM (wY (ay (v_ (Py (i:=2) rfl Wg))) (fQ _)) (aV (bG (cy (E.aA) (E.bR) Qji iY) Qjh I) (ay (eZ (E.uN) (Xd Wg))) DQ) (Qj k2) (λi hi=>aqi hi)) ?_);show T.sh _=T.sh (.int ((D6 ln (ws.getD (k:Int).toNat w0).src:Nat):Int));rw[jj]
  case eq=>
   rw[qG];rfl
def dM:Te (aj C5) ([("chart",.cell),("opens",cG),("leaf",cG),("sign",cG),("found",cG),("number",cG),("way",cG),("line",.cell),("above",bI),("enumerate",bI),("SIGN",bI),("SOURCE",bI),("fits",bI),("ASKS",bI),("sorted",bI)])=true:=by decide +kernel
noncomputable def Ov:dz Vu ["chart","opens","leaf","sign"] (aj C5):=jt
abbrev Rc:=top 21
abbrev Rf:=Str×Int×Int×Int×Int×AT
noncomputable abbrev abn:At:=["ask","boxes","mark","one","other"]
noncomputable def Es:Rf->BA:=λ(mk,b1,m1,b2,m2,bs)=>[.tup [.str mk,.tup [.int b1,.int m1],.tup [.int b2,.int m2]],.lst Qb7]
def Et:Rf->Prop:=λ(mk,b1,m1,b2,m2,bs)=>(b1=-1\/(0<=b1/\b1<bs.length))/\(b2=-1\/(0<=b2/\b2<bs.length))
def Eu:Rf->T:=λ(mk,b1,m1,b2,m2,bs)=>(.sh (.bl (Xx mk (qW b1 m1 bs) (qW b2 m2 bs))):T)
structure alJ(X:Cx)(CL:BC):Prop extends bL X where
 p9:Ln X 0 "ask"
 ck:Ln X 1 "boxes"
 Rg:Ln X 2 "mark"
 rq:Ln X 3 "one"
 ja:Ln X 4 "other"
 vZ:Gl X "value"
 CY:Fc X CL "value" 1 2 zJ uK zK
def alK(E:alJ X CL) :
  oz X CL b Rc abn Es Et Eu:=by
 rintro⟨mk,b1,m1,b2,m2,bs⟩ h;apply aL E.g E.Rg (cS Qcv rfl);refine aL E.g E.rq (c_ (b1,m1,bs) E.CY E.vZ (ah Qcv Qcw) h.1 rfl) ?_;refine aL E.g E.ja (c_ (b2,m2,bs) E.CY E.vZ (ah Qcv Qcw) h.2 rfl) ?_;refine eU (dg (aC E.Rg) bQ).1 (λa=>?_) (λa=>ai ?_)
 .apply bz (Nx QcM QbT).2;show T.sh _=T.sh _;rw[Xx,hO (i5 a)]
 refine eU (dg (aC E.Rg) bQ).1 (λc=>?_) (λc=>ai ?_)
 .apply bz (at7 QcM QbT).2;show T.sh _=T.sh _;rw[Xx,cq (lx a),hO (i5 c)]
 refine eU (dg (aC E.Rg) bQ).1 (λd=>?_) (λd=>ai ?_)
 .apply bz (fW QcM QbT).2;show T.sh _=T.sh _;rw[Xx,cq (lx a),cq (lx c),hO (i5 d)]
 .apply bz (ve QcM QbT).2;show T.sh _=T.sh _;rw[Xx,cq (lx a),cq (lx c),cq (lx d)]
noncomputable def rG:FG abn ["ask","boxes"] ["value"] (aj Rc):=fG
abbrev Bg:=top 22
abbrev Bh:=Bool×List Ask×AT
noncomputable abbrev JW:At:=["asks","boxes","ask"]
def wm:Bh->BA:=λ(l,a,bs)=>[Pg l (a.map EY),.lst Qb7]
def wu:Bh->Prop:=λ(l,a,bs)=>∀q∈a,Pf bs q
def qq:Bh->T:=λ(l,a,bs)=>(.sh (.bl (a.all (hQ bs))):T)
structure Yt(X:Cx)(CL:BC):Prop extends bL X where
 A5:Ln X 0 "asks"
 ck:Ln X 1 "boxes"
 p9:Ln X 2 "ask"
 Rh:Gl X "holds"
 alL:Fc X CL "holds" 2 2 Es Et Eu
def Yu(E:Yt X CL) :
  oz X CL b Bg JW wm wu qq:=by
 rintro⟨l,c,bs⟩ h;dsimp [qq]at h ⊢;have i:∀(p m:Pos) (o:QcP),nH X CL b (.Name "ask" p) (.Name "asks" m) [some (.sh (Pg l (c.map EY))),some Qdk,o] (c.map EY) [some (.sh (Pg l (c.map EY))),some Qdk,o]:=by
  intro p m o;cases l
  .exact DG (v_ E.A5.1)
  .exact eB (v_ E.A5.1)
 refine jc E.g E.p9 (λj δ=>(∃o,δ=[some _,some _,o])/\∀q∈c.take j,hQ bs q=true) (i _ _ _) ⟨⟨_,rfl⟩,Wp⟩ (λj δ ⟨⟨o,e⟩,_⟩=>by subst e;exact h7 rfl) ?_ ?_
 .rintro j d δ r ⟨⟨o,rfl⟩,f⟩;rw[la]at r;obtain⟨q,n,rfl⟩:=yA.1 r;have hm:=l7 n;refine eU (HJ (qQ (c_ (q.1,q.2.1,q.2.2.1,q.2.2.2.1,q.2.2.2.2,bs) E.alL E.Rh (ah (aC E.p9) Qcw) (h q hm) rfl))) (λk=>?_) (λk=>?_)
  .apply bz oq;show T.sh _=T.sh _;have hf:hQ bs q=false:=by simpa [hQ] using k
   rw[List.all_eq_false.2 ⟨q,hm,by simp[hf]⟩]
  .refine ai (ai ⟨⟨_,rfl⟩,?_⟩);have hf:=by simpa using k
   intro s a;rw[rr,n]at a;obtain h'|h':=hV.1 a
   .exact f s h'
   .have:=by simpa using h'
    exact this▸hf
 .rintro δ ⟨⟨o,rfl⟩,f⟩;apply bz oq;rw[hP,lL]at f;rw[ro.2 f]
noncomputable def oU:FG JW ["asks","boxes"] ["holds"] (aj Bg):=fG
abbrev tN:=top 26
abbrev tO:=BA×BA×D×BA×BA×List bT×Nat×bT
noncomputable abbrev Ai:At:=["chart","way"]
def pF:tO->BA:=λ(bs,nm,tr,is,os,ws,k,w)=>[iH bs nm tr is os QaV,.int k]
def pG:tO->Prop:=λ(bs,nm,tr,is,os,ws,k,w)=>ws[k]? = some w/\w.asks.length<=1000/\D.bS w.asks=true/\∀d∈w.asks,∃x r,d=.tup (.str x::r)
def pH:tO->T:=λ(bs,nm,tr,is,os,ws,k,w)=>(.sh (.tup (Mn w.asks)):T)
structure Mj(X:Cx)(CL:BC):Prop extends bL X where
 aH:Ln X 0 "chart"
 gQ:Ln X 1 "way"
 sI:Gl X "tuple"
 Yr:Gl X "ASKS"
 sJ:kE X "tuple"
 Ys:∃u,X.mg "ASKS" = some (.int 2 u)
 aA:jP X.K QR
 bR:aF X.K QR "ways"
def Ml(E:Mj X CL) :
  oz X CL b tN Ai pF pG pH:=by
 rintro⟨bs,nm,tr,is,os,ws,k,w⟩ h;obtain⟨c,a,hi,e⟩:=h;have f:uW _ k=some (iu w):=d8 (by rw[la,c];rfl);refine bz (DH E.sJ (ajO (aK (lH Qd2 E.g.calm (DG (m7 (WQ Qfn QbN f) (ay (eZ E.Ys E.Yr)) rfl)) Qar (λC s0 j f0 i d hd=>?zX) (kv (cA a))) rfl) rfl) (jr λd hd=>jG hi d (j1.1 hd).1) E.sI) rfl
 case zX=>
  obtain⟨x,r,rfl⟩:=e d hd;exact⟨(ajU (aV (ju 0) ak DQ) (ay (jR (aJ f9 (aJ f9 gi)) aQ)) rfl rfl).1,λ_=>v_ (DR 0)⟩
noncomputable def jL:FG Ai ["chart","way"] ["tuple","ASKS"] (aj tN):=fG
abbrev Ri:=top 28
abbrev Rj:=BA×BA×At×AT×AT×BA×BA×List bT×AT×AT×Str
noncomputable abbrev abo:At:=["chart","opens","boxes","sign","found","leaf","number"]
def Ew:Rj->BA:=λ(bs,nm,ks,es,ss,is,os,ws,ops,vs,sg)=>[iH bs nm Qba is os QaV,.lst QdS,.lst (vs.map .int),.str sg]
def Ex:Rj->Prop:=λ(bs,nm,ks,es,ss,is,os,ws,ops,vs,sg)=>fD es/\es.length<=900/\ks.length=es.length/\ws.length<=63/\ops.length<=1000/\(∀x∈ops,0<=x/\x<es.length)/\GU es.length vs ws
def zM:Rj->T:=λ(bs,nm,ks,es,ss,is,os,ws,ops,vs,sg)=>(.lst (((Tp ws ops vs sg es (nk ks ops)).map .int).map T.sh):T)
structure alM(X:Cx)(CL:BC):Prop extends bL X where
 aH:Ln X 0 "chart"
 bw:Ln X 1 "opens"
 ck:Ln X 2 "boxes"
 lQ:Ln X 3 "sign"
 fJ:Ln X 4 "found"
 JT:Ln X 5 "leaf"
 cI:Ln X 6 "number"
 tP:Gl X "open_leaves"
 C6:Gl X "goable"
 Bj:Gl X "all_hold"
 tQ:Gl X "number_asks"
 cM:Gl X "list"
 Mm:Fc X CL "open_leaves" 1 2 pC pD kN
 uP:Fc X CL "goable" 2 4 wk Bf rE
 Yv:Fc X CL "all_hold" 3 2 wm wu qq
 Mp:Fc X CL "number_asks" 1 2 pF pG pH
 cD:kE X "list"
theorem alN(E:alM X CL) :
  oz X CL b Ri abo Ew Ex zM:=by
 rintro⟨bs,nm,ks,es,ss,is,os,ws,ops,vs,sg⟩ h;dsimp [zM]at h ⊢;obtain⟨W,hl,S,F,p,R,t⟩:=h;apply aL E.g E.fJ aj9;have K:∀x∈nk ks ops,0<=x/\x<es.length:=λx C=>R x (j1.1 C).1;have Z:(nk ks ops).length<=1000:=kq (qr _ _) p;refine jc E.g E.JT (λj δ=>∃A l,δ=[some _,some _,some _,some _,some (.um (oD (Tp ws ops vs sg es ((nk ks ops).take j)))),A,l])
  (eB (eW (aK (c_ (bs,nm,ks,es,ss,is,os,ws.map iu,ops) E.Mm E.tP (ah QaI (ah QaR aE)) (by exact⟨p,λx C=>by have:=R x C;lia⟩) (aN _)) rfl))) ⟨_,_,rfl⟩ (λj δ ⟨_,_,e⟩=>by subst e;exact h7 rfl) ?turn ?fin
 case turn=>
  rintro j d δ hj ⟨A,l,rfl⟩;obtain⟨x,rfl,_,B,NQ,_,U⟩:=jZ hj;obtain⟨x0,V⟩:=K x B;show dh X CL b _ _ _;rw[U,agE];have hpl:=aaQ ws ops vs sg es ((nk ks ops).take j);have aa:((nk ks ops).take j).length<=1000:=by rw[ot];lia
  generalize Tp ws ops vs sg es _=acc at hpl ⊢;have IG:(oD acc).length<=1000000:=by unfold oD;rw[hP];lia
  have s:∀{k:Int},k∈xf ws ops sg (x::bN es x)->0<=k/\k<ws.length:=Qk;have H:pE ws ops vs sg es acc x=match (xf ws ops sg _).filter _ with | []=>acc|k::_=>L6 acc k:=rfl
  rw[H];have P:rE (bs,nm,ks,es,ss,is,os,ws,ops,x,sg)=T.lst _:=rfl;generalize xf ws ops sg _=go at s P ⊢;refine jc E.g E.cI (λi δ=>∃l,(∀k∈go.take i,zr vs (ws.getD k.toNat w0)=false)/\δ=[some _,some _,some _,some _,some _,some _,l])
   (eB (eW (aK (c_ _ E.uP E.C6 (ah QaI (ah QaR (ah (aC E.JT) (ah (aC E.lQ) aE)))) (by exact⟨W,hl,x0,V,F,t.ok⟩) (P▸aN _)) P))) ⟨_,λk S=>by simp at S,rfl⟩ (λj δ ⟨_,_,e⟩=>by subst e;exact h7 rfl) ?ahH ?fin2
  case ahH=>
   rintro i d δ hi ⟨l,n,rfl⟩;obtain⟨k,rfl,M,L,_,_,O⟩:=jZ hi;obtain⟨k0,k1⟩:=s L;obtain⟨w,hw⟩:∃w,ws.getD k.toNat w0=w:=⟨_,rfl⟩;have o:ws[k.toNat]? = some w:=by rw[← hw,kf,kA We];rfl
   obtain⟨al,c,HF,m⟩:=t w (l7 o);have J:=c▸akX m;have G:(al.flatMap EZ).all (hQ vs)=zr vs w:=by unfold zr;rw[c];exact(aqm m).symm
   have wZ:w.asks.length<=2:=by rw[c,hP];exact HF
   have v:D.bS _=true:=c▸eY (λa=>Jb a) _;have Cj:∀d∈w.asks,∃x r,d=.tup (.str x::r):=λd hd=>by
    rw[c]at hd;obtain⟨q,_,rfl⟩:=ip.1 hd;cases q<;>exact⟨_,_,rfl⟩
   have N:(k.toNat:Int)=k:=by lia
   refine eU (qQ (aK (c_ (false,al.flatMap EZ,vs) E.Yv E.Bj (ah (ay (aK (c_ (bs,nm,cW ks es ss,is,os,ws,k.toNat,w) E.Mp E.tQ (ah QaI (ah (wY QeP (congrArg _ N.symm)) aE)) (by exact⟨o,We,v,Cj⟩) ((jr λd hd=>jG v d (j1.1 hd).1))) (congrArg (λz=>T.sh _) J))) Qcw) (by exact akY m) rfl) (congrArg (λz=>T.sh _) G))) (λI=>?_) (λI=>ai (ai ⟨_,?_,rfl⟩))
   .refine apL (.inl k) E.u E.fJ.1 oq QeP rfl IG (aar (ai ?_));rw[ak0];obtain⟨r,Y⟩:=adl M (hw▸I) n;rw[Y];exact⟨_,_,rfl⟩
   .intro y f;rw[O]at f;obtain f|f:=hV.1 f
    .exact n y f
    .rw[i4.1 f,hw];exact I
  case fin2=>
   rintro δ ⟨l,n,rfl⟩;rw[hP,lL]at n;rw[List.filter_eq_nil_iff.2 (λy f=>by rw[n y f];decide)];exact ai ⟨_,_,rfl⟩
 case fin=>
  rintro δ ⟨A,l,rfl⟩;rw[hP,lL];apply bz (afv E.g E.cD (vE E.fJ.1 rfl (by rw[T.gW])) E.cM);rw[agC]
noncomputable def iO:FG abo ["chart","opens","boxes","sign"] ["open_leaves","goable","all_hold","number_asks","list"] (aj Ri):=fG
abbrev Rk:=top 37
abbrev Yw:=At×AT×AT×AT×Int
noncomputable abbrev YO:At:=["tree","opens","upper"]
def JX:Yw->BA:=λ(ks,es,ss,ops,u)=>[cW ks es ss,.lst QdS,.int u]
def JY:Yw->Prop:=λ(ks,es,ss,ops,u)=>fD es/\es.length<=1000/\ops.length<=1000/\∀m∈ops,0<=m/\m<es.length
def JZ:Yw->T:=λ(ks,es,ss,ops,u)=>(.lst (((Ab es ops u).map .int).map T.sh):T)
structure arj(X:Cx)(CL:BC):Prop extends bL X where
 bA:Ln X 0 "tree"
 A6:zW X "tree"
 bw:Ln X 1 "opens"
 jy:Ln X 2 "upper"
 Rb:zW X "upper"
 wA:Gl X "reversed"
 wB:kE X "reversed"
 oQ:Fc X CL "within" 2 3 nF nG nI
theorem ark(E:arj X CL) :
  oz X CL b Rk YO JX JY JZ:=by
 rintro⟨ks,es,ss,ops,u⟩ h;obtain⟨a,c,f,hm⟩:=h;refine bz (lH (p:=λd=>decide (u=-1) || decide (u∈bN es d.ug)) (g:=T.sh) (bu (.cons E.bA.1 (.inl E.A6) (.cons E.jy.1 (.inl E.Rb) .nil)) Wg) E.g.calm
  (apt E.wB (v_ E.bw.1) E.wA) Qar (λC s0 k f0 j d hd=>?zX) Qe5) ?eq
 case zX=>
  obtain⟨i,hi,rfl⟩:=ip.1 (y4.1 hd);have e:=hm i hi;exact⟨qQ (c_ (ks,es,ss,i,u) (lD E.oQ) vA (ah (fZ 1) (ah (ju 0) (ah (fZ 2) aE))) (⟨a,We,We,c⟩) rfl),λ_=>v_ (DR 0)⟩
 case eq=>
  rw[← List.map_reverse,o2,List.filter_reverse];rfl
def zN:Te (aj Rk) ([("tree",.cell),("opens",cG),("upper",.cell),("reversed",bI)])=true:=by decide +kernel
noncomputable def alP:dz YO ["tree","opens","upper"] (aj Rk):=jt
abbrev Bk:=top 43
abbrev Bl:=BA×BA×At×AT×AT×BA×BA×List bT×AT×AT
noncomputable abbrev J1:At:=["chart","opens","going","gone","number"]
def wC:Bl->BA:=λ(bs,nm,ks,es,ss,is,os,ws,ops,gs)=>[iH bs nm Qba is os QaV,.lst QdS,.lst (gs.map .int)]
def qu:Bl->Prop:=λ(bs,nm,ks,es,ss,is,os,ws,ops,gs)=>fD es/\es.length<=1000/\ks.length=es.length/\ops.length<=1000/\(∀m∈ops,0<=m/\m<es.length)/\(∀i∈gs,QeD/\Qgu/\0<=(ig ws i).iq/\(ig ws i).iq<es.length)/\((gs.map QbE).flatMap λw=>Ab es ops QaT).length<64
def qv:Bl->T:=λ(bs,nm,ks,es,ss,is,os,ws,ops,gs)=>(.lst (((kY ks es ops (gs.map QbE)).map .int).map T.sh):T)
structure Yx(X:Cx)(CL:BC):Prop extends bL X where
 aH:Ln X 0 "chart"
 bw:Ln X 1 "opens"
 lZ:Ln X 2 "going"
 tR:Ln X 3 "gone"
 cI:Ln X 4 "number"
 Yy:Gl X "left"
 nJ:Gl X "way_top"
 fc:Gl X "sorted"
 arl:Fc X CL "left" 3 3 JX JY JZ
 uO:Fc X CL "way_top" 4 2 oR ly oS
 fh:kE X "sorted"
 aA:jP X.K QR
 bf:aF X.K QR "tree"
theorem Yz(E:Yx X CL) :
  oz X CL b Bk J1 wC qu qv:=by
 rintro⟨bs,nm,ks,es,ss,is,os,ws,ops,gs⟩ h;dsimp [qv]at h ⊢;obtain⟨f,k,r,a,p,t,l⟩:=h;apply aL E.g E.tR Qa9;refine jc E.g E.cI (λj δ=>∃o,δ=[some _,some _,some _,some (.lst (((((gs.take j).map QbE).flatMap λw=>Ab es ops QaT).map .int).map T.sh)),o])
  (eB (v_ E.lZ.1)) ⟨_,rfl⟩ (λj δ ⟨_,e⟩=>by subst e;exact h7 rfl) ?turn ?fin
 case turn=>
  rintro j d δ s ⟨o,rfl⟩;obtain⟨i,rfl,_,hi,v,_,m⟩:=jZ s;obtain⟨⟨n,i1⟩,hs,c⟩:=t i hi;have u:(((gs.take j).map _).flatMap _).length<64:=List.map_take▸p8 (sX _ _) l;have q:(Ab es ops (jd ks es QbQ)).length<=1000:=by
   unfold Ab;rw[rF];exact kq (qr _ _) a
  refine Fg E.tR.1 rfl (aK (c_ (ks,es,ss,ops,jd ks es _) E.arl E.Yy (ah QcX (ah QaR (ah (ay (aK (c_ (bs,nm,ks,es,ss,is,os,ws,i) E.uO E.nJ QgU (⟨f,k,r,⟨n,i1⟩,hs,c⟩) rfl) rfl)) aE))) (⟨f,k,a,p⟩) (aN _)) rfl) rfl (by simp only[hP];lia) (ai ⟨some (.sh QaQ),?_⟩);rw[m];simp
 case fin=>
  rintro δ ⟨o,rfl⟩;rw[hP,lL];exact bz (W5 E.fh (vL E.tR.1) l E.fc) rfl
noncomputable def g8:FG J1 ["chart","opens","going"] ["left","way_top","sorted"] (aj Bk):=fG
abbrev wF:=top 38
abbrev wG:=At×AT×AT×AT×AT×AT
noncomputable abbrev C7:At:=["tree","memory","opens","moods","behind","mood","elder"]
def rH:wG->BA:=λ(ks,es,ss,mem,ops,gM)=>[cW ks es ss,.lst Qc7,.lst QdS,.lst (gM.map .int)]
def mh:wG->Prop:=λ(ks,es,ss,mem,ops,gM)=>fD es/\ks.length=es.length/\mem.length=es.length/\(∀m∈ops,0<=m/\m<es.length)/\(∀m∈gM,0<=m/\m<es.length)
def rJ:wG->T:=λ(ks,es,ss,mem,ops,gM)=>(.lst (((Xl QaN es gM mem ops).map .int).map T.sh):T)
structure Rl(X:Cx)(CL:BC):Prop extends bL X where
 bA:Ln X 0 "tree"
 cO:Ln X 1 "memory"
 bw:Ln X 2 "opens"
 fV:Ln X 3 "moods"
 bK:Ln X 4 "behind"
 bJ:Ln X 5 "mood"
 jx:Ln X 6 "elder"
 cM:Gl X "list"
 cD:kE X "list"
 bO:jP X.K Qag
 cZ:aF X.K Qag "elders"
 aZ:aF X.K Qag "kinds"
theorem Rm(E:Rl X CL) :
  oz X CL b wF C7 rH mh rJ:=by
 rintro⟨ks,es,ss,mem,ops,gM⟩ h;obtain⟨t,u,hm,p,k⟩:=h;refine aL E.g E.bK (g7 E.cD QbS (cC _) E.cM bH) ?_;refine jc E.g E.bJ (λj δ=>∃f c,δ=[some _,some _,some _,some _,some (.lst (((Xl QaN es gM mem (ops.take j)).map _).map _)),f,c])
  (eB (v_ E.bw.1)) ⟨_,_,rfl⟩ (λj δ ⟨_,_,e⟩=>by subst e;exact h7 rfl) ?turn ?fin
 case turn=>
  rintro j d δ s ⟨f,c,rfl⟩;obtain⟨x,rfl,_,i,_,_,m⟩:=jZ s;have n:=p x i;have r:=GP QaN es gM (ops.take j) mem;apply aL E.g E.jx (cS (bG QjJ Qav (gJ We We)) rfl);rw[m,agd];unfold vG;generalize es.getD _ 0=q;generalize Xl _ es gM mem _=acc at r ⊢;refine eU (oY (ic (vm Qff (aC E.fV) (rfl) rfl).1 (λl=>(iU (dg (bG Qb6 Qff (gf Str.empty (k q (i5 l)).1 (by have:=k q (i5 l);lia))) bQ).1)))) (λa=>?_) (λa=>ai (ai ?_))
  .rw[km,vT]at a;have o:=k q a.1;have hlen:((acc.map D.int).map T.sh).length=acc.length:=by simp
   refine Tb E.bK.1 (v_ E.bJ.1) Qff rfl (afd o.1 We) (ai (ai ?_));rw[hO (show q∈gM/\cg ks q=true from a),x5,x5];exact⟨_,_,rfl⟩
  .rw[cq (λz=>by
    have:(decide (q∈gM)&&decide (ks.getD q.toNat Str.empty="one"))=true:=by
     rw[km,vT];exact z
    rw[this]at a;cases a)]
   exact⟨_,_,rfl⟩
 case fin=>
  rintro δ ⟨f,c,rfl⟩;rw[hP,lL];exact bz Qf3 rfl
noncomputable def fK:FG C7 ["tree","memory","opens","moods"] ["list"] (aj wF):=fG
abbrev YB:=top 17
abbrev YC:=At×AT×AT×Int×Int
noncomputable abbrev YI:At:=["tree","upper","mood","steps","elder"]
def J2:YC->BA:=λ(ks,es,ss,u,m)=>[cW ks es ss,.int u,.int m]
def C8:YC->Prop:=λ(ks,es,ss,u,m)=>fD es/\0<=m/\m<es.length/\es.length<=1000
def yw:YC->T:=λ(ks,es,ss,u,m)=>(.lst (((cX es u m).map .int).map T.sh):T)
structure arn(X:Cx)(CL:BC):Prop extends bL X where
 bA:Ln X 0 "tree"
 jy:Ln X 1 "upper"
 bJ:Ln X 2 "mood"
 qw:Ln X 3 "steps"
 jx:Ln X 4 "elder"
 lW:Gl X "above"
 cM:Gl X "list"
 wA:Gl X "reversed"
 qp:Fc X CL "above" 1 2 nA nB nE
 cD:kE X "list"
 wB:kE X "reversed"
theorem aro(E:arn X CL) :
  oz X CL b YB YI J2 C8 yw:=by
 rintro⟨ks,es,ss,u,m⟩ h;dsimp [C8,yw]at h ⊢;have h':=h;have t:(bN es m).length<=es.length+1:=zj _ _ _;apply aL E.g E.qw (dN QhF aQ);refine jc E.g E.jx (λj δ=>∃o,(∀x∈(bN es m).take j,x≠u)/\δ=[some _,some _,some _,some (.lst (((m::(bN es m).take j).map _).map _)),o])
  (eB (eW (c_ (_,_,_,_) E.qp E.lW Qhb (h') (aN _)))) ⟨_,λx c=>by simp at c,rfl⟩ (λj δ ⟨_,_,e⟩=>by subst e;exact h7 rfl) ?turn ?fin
 case turn=>
  rintro j d δ k ⟨o,i,rfl⟩;rw[la]at k;cases c:(bN es m)[j]? with
  | none=>rw[c]at k;cases k
  | some x=>
   rw[c]at k;cases k;have s:=(l4.1 c).1;have n:(bN es m).take QP=(bN es m).take j++[x]:=by rw[rr,c];rfl
   refine eU (fW Qff (aC E.jy)).1 (λl=>aar ?brk) (λl=>ai ?_)
   case brk=>
    have e:=i5 l;have f:(bN es m).takeWhile QcW=(bN es m).take j:=by
     have r:=by
      have h2:=GI j (bN es m);rw[LA s]at h2;have:=(l4.1 c).2;rw[this]at h2;exact h2.symm
     conv=>lhs;rw[r]
     rw[List.takeWhile_append_of_pos (λy a=>by simpa using i y a),List.takeWhile_cons,if_neg (by simp[e]),List.append_nil]
    apply bz QkY;unfold cX;rw[f];simp only[List.map_reverse]
   .have e:=lx l;refine mY E.qw.1 rfl (v_ E.jx.1) rfl W9 (ai ?_);have q:(((m::(bN es m).take j).map D.int).map T.sh)++[T.sh Qdy]=((m::(bN es m).take QP).map D.int).map T.sh:=by rw[n];simp
    rw[q];refine⟨_,λy a=>?_,rfl⟩;rw[n]at a;obtain a|a:=hV.1 a
    .exact i y a
    .have:=by simpa using a
     exact this▸e
 case fin=>
  rintro δ ⟨o,i,rfl⟩;apply bz QkY;rw[hP,lL]at i ⊢;unfold cX;have f:(bN es m).takeWhile QcW=bN es m:=by
   have:=List.takeWhile_append_of_pos (p:=λx=>decide _) (l₂:=[]) (λy a=>by simpa using i y a);simpa using this
  rw[f];simp only[List.map_reverse]
noncomputable def qx:FG YI ["tree","upper","mood"] ["above","list","reversed"] (aj YB):=fG
abbrev Ey:=top 36
abbrev Ez:=At×AT×AT×AT×Int×Nat×Str
noncomputable abbrev Ow:At:=["tree","memory","upper","target","mode","steps","found","step","place"]
def sM:Ez->BA:=λ(ks,es,ss,mem,u,tg,mode)=>[cW ks es ss,.lst Qc7,.int u,.int tg,.str mode]
def sN:Ez->Prop:=λ(ks,es,ss,mem,u,tg,mode)=>(es.length<=900/\ks.length=es.length/\ss.length=es.length/\mem.length=es.length/\tg<es.length/\vH mode/\∀k:Nat,k<es.length->aY ks k=true\/ao ks k=true\/ks.getD k Str.empty="one")/\dR QaD QU es ss mem/\es.length<=41/\(u=-1\/u∈bN es tg)
def sO:Ez->T:=λ(ks,es,ss,mem,u,tg,mode)=>(.lst (((sortI (p0 QaD QU es ss mem (fC mode) (iG mode) u tg)).map .int).map T.sh):T)
structure adC(X:Cx)(CL:BC):Prop extends bL X where
 bA:Ln X 0 "tree"
 cO:Ln X 1 "memory"
 jy:Ln X 2 "upper"
 lR:Ln X 3 "target"
 tD:Ln X 4 "mode"
 qw:Ln X 5 "steps"
 fJ:Ln X 6 "found"
 eV:Ln X 7 "step"
 jU:Ln X 8 "place"
 YD:Gl X "road"
 lS:Gl X "opened"
 CW:Gl X "inner"
 fc:Gl X "sorted"
 arp:Fc X CL "road" 2 3 J2 C8 yw
 uI:Fc X CL "opened" 43 4 rA (k6 40) ny
 QO:Fc X CL "inner" 1 2 zG qI zH
 fh:kE X "sorted"
 bO:jP X.K Qag
 aZ:aF X.K Qag "kinds"
theorem adD(E:adC X CL) :
  oz X CL b Ey Ow sM sN sO:=by
 rintro⟨ks,es,ss,mem,u,tg,mode⟩ h;dsimp only [sN,sM,sO]at h ⊢;obtain⟨Cj,z,A,hu⟩:=h;obtain⟨hl,K,hs,hm,I,Wn,w⟩:=Cj;have J:=z.pre.1;have P:fD es/\(0:Int)<=tg/\(tg:Int)<es.length/\es.length<=1000:=⟨J,We,We,We⟩;refine aL E.g E.qw (c_ ((ks,es,ss,u,(tg:Int))) E.arp E.YD (ah Qa6 (ah (aC E.jy) (ah (aC E.lR) aE))) (P) (aN _)) ?_;rw[show yw _=T.lst _ from rfl];have li:=IC J (u:=u) (t:=(tg:Int)) We We hu;have aa:(cX es u tg).length<=es.length+2:=by
  unfold cX;rw[rF,k8];have h1:=(Lo (l:=bN es (tg:Int)) QcW).length_le;have h2:(bN es (tg:Int)).length<=es.length+1:=zj _ _ _;lia
 have S:(cX es u tg).dropLast.length<=es.length+2:=by rw[List.length_dropLast];lia
 have o:∀(far near:Bool) (k:Nat),k<es.length->(kG QaD QU es ss mem far es.length near k).length<=41:=λfar near k K=>kq (Ck z K) A;have ar:(LZ ks es ss mem mode tg).length<=41:=o _ _ tg I;have H:∀p:Int,LZ ks es ss mem "new" p=kG QaD QU es ss mem false es.length false p:=λp=>by
  unfold LZ;rw[show fC "new" = false by decide +kernel,show iG "new" = false by decide +kernel]
 have f:cutD ((cX es u tg).map D.int) none Qe8=(cX es u tg).dropLast.map D.int:=by rw[T9,ac5]
 refine aL E.g E.fJ (aK (t2:=T.lst (((((cX es u tg).dropLast++LZ ks es ss mem mode tg)).map D.int).map T.sh)) (zb (cu Qly) (cu (c_ ((ks,es,ss,mem,tg,mode)) E.uI E.lS (ah Qa6 (ah QbS (ah (aC E.lR) (ah (aC E.tD) aE)))) (by dsimp only [k6];exact(⟨⟨hl,K,hs,hm,I,Wn,w⟩,z,We⟩)) (aN _))) ((by rw[f];exact cC _)) (cC _) (Nat.le_of_lt (cA (by rw[f,List.length_map,List.length_map];exact(show(cX es u tg).dropLast.length+(LZ ks es ss mem mode tg).length<=1000 by lia))))) (by rw[f,← List.map_append])) ?_;generalize Y:(λs:Int=>((gX es s).filter _).flatMap Qcr)=F;have V:∀s:Int,(F s).length<=41*41:=λs=>by
  rw[← Y];have h1:((gX es s).filter Qcs).length<=41:=kq (qr _ _) (kq (PV es s) A);refine kq (Cp (c:=41) λp a=>?_) (Nat.mul_le_mul_right _ h1);have hb:=vD (j1.1 a).1;obtain⟨q,rfl⟩:∃q:Nat,p=q:=⟨p.toNat,We⟩;exact o _ _ q We
 have W:∀l:AT,l.length<=44->(l.flatMap F).length<=44*(41*41):=λl h=>kq (Cp (c:=41*41) λp _=>V p) (Nat.mul_le_mul_right _ h);have B:p0 QaD QU es ss mem (fC mode) (iG mode) u tg=(cX es u tg).dropLast++LZ ks es ss mem mode tg++((cX es u tg).dropLast.filter Qcx).flatMap F:=by
  rw[← Y];rfl
 have C:=agi z (far:=fC mode) (near:=iG mode) I hu (iX:=cX es u tg) li;have hpl:=C.length_eq;have n:=(JP (isAll:=ao ks) (es:=es) (ss:=ss) (mem:=mem) (far:=fC mode) (near:=iG mode) (iX:=cX es u tg) (t:=tg) es.length).2.2.2.1;rw[hpl]at n;rw[B]at n ⊢;clear B C hpl;have y:∀s∈(cX es u tg).dropLast,0<=s/\s<es.length:=λs hs=>by
  have:=j3 J I ((li s).1 (zl J I hs).1);lia
 generalize lC:(cX es u tg).dropLast++LZ ks es ss mem mode tg=base at n ⊢;have Tf:base.length<=100:=by
  rw[← lC,j2];lia
 generalize ab:(cX es u tg).dropLast=r at S y n f ⊢;refine jc E.g E.eV (λj δ=>∃v m,δ=[some (.sh Qba),some Qkd,some (.sh (.int u)),some QfU,some (.sh (.str mode)),some Qlu,some (.lst (((base++((r.take j).filter Qcx).flatMap F).map .int).map T.sh)),v,m])
  (eB (eW (aK Qly (by rw[f])))) ⟨_,_,by simp;rfl⟩ (λj δ ⟨_,_,e⟩=>by subst e;exact h7 rfl) ?turn ?fin
 case turn=>
  rintro j d δ hj ⟨v,m,rfl⟩;obtain⟨x,rfl,_,L,NQ,_,z8⟩:=jZ hj;have M:=y x L;have R:((r.take j).filter Qcx).length<=44:=kq (qr _ _) (by rw[ot];lia);have ag:=W _ R;refine eU (dg (bG Qb6 (aC E.eV) (gf Str.empty M.1 We)) bQ).1 (λa=>?_) (λa=>ai (ai ?_))
  .have a:ao ks x=true:=a;have Z:((r.take QP).filter Qcx).flatMap F=((r.take j).filter Qcx).flatMap F++F x:=by
    rw[z8,nv,vu a,vx,y6];simp
   show dh X CL b _ _ {nx:=λδ=>dh X CL b _ δ {nx:=λδ=>∃v m,δ=[_,_,_,_,_,_,some (.lst (((base++((r.take QP).filter Qcx).flatMap F).map .int).map T.sh)),v,m],rt:=_,bk:=_,ct:=_},rt:=_,bk:=_,ct:=_};rw[Z,← hZ];generalize U:base++((r.take j).filter Qcx).flatMap F=cur;have wZ:cur.length<=100+44*(41*41):=by rw[← U,j2];lia
   have eF:F x=((gX es x).filter Qcs).flatMap Qcr:=by rw[← Y]
   have Pw:=PV es x;refine jc E.g E.jU (λi δ=>∃m,δ=[some (.sh Qba),some Qkd,some (.sh (.int u)),some QfU,some (.sh (.str mode)),some Qlu,some (.lst (((cur++(((gX es x).take i).filter Qcs).flatMap Qcr).map .int).map T.sh)),some (.sh Qdy),m])
    (eB (eW (c_ ((ks,es,ss,x)) E.QO E.CW (ah Qa6 (ah (aC E.eV) aE)) ((by dsimp only [qI];lia)) (aN _)))) ⟨_,by simp;rfl⟩ (λj δ ⟨_,e⟩=>by subst e;exact Nat.le_of_ble_eq_true rfl) ?ahH ?fin2
   case ahH=>
    rintro i d δ hi ⟨m,rfl⟩;obtain⟨p,rfl,_,O,ae,_,G⟩:=jZ hi;have hb:=vD O;obtain⟨q,rfl⟩:∃q:Nat,p=q:=⟨p.toNat,We⟩;have TX:((((gX es x).take i).filter Qcs).flatMap Qcr).length<=41*41:=by
     have h1:(((gX es x).take i).filter Qcs).length<=41:=kq (qr _ _) (by rw[ot];lia);refine kq (Cp (c:=41) λp a=>?_) (Nat.mul_le_mul_right _ h1);have hb:=vD (tf (j1.1 a).1);obtain⟨q,rfl⟩:∃q:Nat,p=q:=⟨p.toNat,We⟩;exact o _ _ q We
    refine eU (zc (l:=cX es u tg) (aC E.jU) (vL E.qw.1) rfl rfl).1 (λN=>?_) (λN=>ai (ai ?_))
    .refine Fg E.fJ.1 rfl (aK (c_ ((ks,es,ss,mem,q,("new":Str))) E.uI E.lS (ah Qa6 (ah QbS (ah (aC E.jU) (ah bQ aE)))) (by dsimp only [k6];exact(⟨⟨hl,K,hs,hm,We,.inl rfl,w⟩,z,We⟩)) (aN _)) rfl) rfl ?len (ai (ai ?_))
     case len=>
      have:=o false false q We;rw[H];simp only[hP,j2];lia
     have e1:(((cur++(((gX es x).take i).filter Qcs).flatMap Qcr).map D.int).map T.sh)++(((LZ ks es ss mem "new" q).map D.int).map T.sh)=((cur++(((gX es x).take (i+1)).filter Qcs).flatMap Qcr).map D.int).map T.sh:=by
      rw[G,nv,vu (p:=λp=>!decide (p∈cX es u tg)) N,vx,y6,H,← hZ,← js,← js];simp
     rw[show((((cur++(((gX es x).take i).filter _).flatMap Qcr).map D.int).map T.sh)++(((LZ ks es ss mem "new" q).map D.int).map T.sh))=_ from e1];exact⟨_,rfl⟩
    .have e1:(((gX es x).take i).filter Qcs).flatMap Qcr=(((gX es x).take (i+1)).filter Qcs).flatMap Qcr:=by
      rw[G,nv,G1 (by rw[N];decide),vx,iz]
     rw[e1];exact⟨_,rfl⟩
   case fin2=>
    rintro δ ⟨m,rfl⟩;rw[hP,lL];refine ai (ai ?_);dsimp only;rw[eF];exact⟨_,_,rfl⟩
  .have a:ao ks x=false:=a;have e1:((r.take j).filter Qcx).flatMap F=((r.take QP).filter Qcx).flatMap F:=by
    rw[z8,nv,G1 (p:=λs=>ao ks s) (by rw[a];decide),vx,iz]
   rw[e1];exact⟨_,_,rfl⟩
 case fin=>
  rintro δ ⟨v,m,rfl⟩;rw[hP,lL];exact bz (m9 E.fh (vL E.fJ.1) We E.fc) rfl
noncomputable def eL:FG Ow ["tree","memory","upper","target","mode"] ["road","opened","inner","sorted"] (aj Ey):=fG
abbrev tS:=top 44
abbrev tT:=BA×BA×At×AT×AT×BA×BA×List bT×AT×AT
noncomputable abbrev Aj:At:=["chart","memory","going","come","number","way"]
def kO:tT->BA:=λ(bs,nm,ks,es,ss,is,os,ws,mem,gs)=>[iH bs nm Qba is os QaV,.lst Qc7,.lst (gs.map .int)]
def je:tT->Prop:=λ(bs,nm,ks,es,ss,is,os,ws,mem,gs)=>(es.length<=40/\ks.length=es.length/\ss.length=es.length/\mem.length=es.length/\∀k:Nat,k<es.length->aY ks k=true\/ao ks k=true\/ks.getD k Str.empty="one")/\dR QaD QU es ss mem/\(∀i∈gs,QeD/\Qgu/\(0<=(ig ws i).iq/\(ig ws i).iq<es.length)/\vH (ig ws i).mode/\Qlc)/\((gs.map QbE).flatMap Qc8).length<64
def kP:tT->T:=λ(bs,nm,ks,es,ss,is,os,ws,mem,gs)=>(.lst (((zY ks es ss mem (gs.map QbE)).map .int).map T.sh):T)
structure Mq(X:Cx)(CL:BC):Prop extends bL X where
 aH:Ln X 0 "chart"
 cO:Ln X 1 "memory"
 lZ:Ln X 2 "going"
 vW:Ln X 3 "come"
 cI:Ln X 4 "number"
 gQ:Ln X 5 "way"
 EA:Gl X "entered"
 nJ:Gl X "way_top"
 oM:Gl X "TARGET"
 Rn:Gl X "MODE"
 fc:Gl X "sorted"
 adE:Fc X CL "entered" 44 5 sM sN sO
 uO:Fc X CL "way_top" 4 2 oR ly oS
 oN:∃u,X.mg "TARGET" = some (.int 4 u)
 Ro:∃u,X.mg "MODE" = some (.int 5 u)
 fh:kE X "sorted"
 aA:jP X.K QR
 bR:aF X.K QR "ways"
 bf:aF X.K QR "tree"
theorem Mr(E:Mq X CL) :
  oz X CL b tS Aj kO je kP:=by
 rintro⟨bs,nm,ks,es,ss,is,os,ws,mem,gs⟩ h;dsimp only [je,kO,kP]at h ⊢;obtain⟨⟨C,s,k,A,m⟩,t,y,q⟩:=h;have v:=t.pre.1;have a:∀l:List bT,(l.flatMap _).length=(l.flatMap Qc8).length:=λl=>(DZ l).length_eq;refine aL E.g E.vW Qa9 ?_;refine jc E.g E.cI (λj δ=>∃o o',δ=[some _,some _,some _,some (.lst (((((gs.take j).map QbE).flatMap λw=>sortI QfG).map .int).map T.sh)),o,o'])
  (eB (v_ E.lZ.1)) ⟨_,_,rfl⟩ (λj δ ⟨_,_,e⟩=>by subst e;exact h7 rfl) ?turn ?fin
 case turn=>
  rintro j d δ x ⟨o,o',rfl⟩;obtain⟨i,rfl,_,hi,D,_,u⟩:=jZ x;obtain⟨⟨r,i1⟩,hs,f,z,c⟩:=y i hi;have B:(((gs.take j).map QbE).flatMap λw=>sortI QfG).length<64:=by
   rw[a,List.map_take];exact p8 (sX _ _) q
  have p:(((gs.take QP).map QbE).flatMap λw=>sortI QfG).length<64:=by
   rw[a,List.map_take];exact p8 (sX _ _) q
  have e2:((gs.take QP).map QbE).flatMap (λw=>sortI QfG)=(((gs.take j).map QbE).flatMap λw=>sortI QfG)++sortI (Tj ks es ss mem QbQ):=by
   rw[u,js];simp
  rw[e2,j2]at p;have n:((ig ws i).iq.toNat:Int)=(ig ws i).iq:=by lia
  refine aL E.g E.gQ (aK (WQ Qfn QeP (gf w0 r i1)) (t2:=.sh (iu QbQ)) rfl) ?_;refine Fg E.vW.1 rfl (aK (c_ (ks,es,ss,mem,jd ks es _,(ig ws i).iq.toNat,(ig ws i).mode) E.adE E.EA (ah QcX (ah QbS (ah (ay (aK (c_ (bs,nm,ks,es,ss,is,os,ws,i) E.uO E.nJ QgU (by exact⟨v,We,s,⟨r,i1⟩,hs,f⟩) rfl) rfl)) (ah (wY Qgt (congrArg _ n.symm)) (ah QiC aE))))) (by exact⟨⟨We,s,k,A,We,z,m⟩,t,We,c⟩) (aN _)) (t2:=.lst (((sortI (Tj ks es ss mem _)).map .int).map T.sh)) rfl) rfl (by simp only[hP];lia) (ai ⟨some (.sh QaQ),some (.sh (iu QbQ)),?_⟩);rw[e2];simp
 case fin=>
  rintro δ ⟨o,o',rfl⟩;rw[hP,lL];refine bz (m9 E.fh (vL E.vW.1) (by rw[a];exact q) E.fc) ?_;rw[DY (DZ _)];rfl
noncomputable def cQ:FG Aj ["chart","memory","going"] ["entered","way_top","TARGET","MODE","sorted"] (aj tS):=fG
abbrev J3:=top 40
abbrev J4:=BA×BA×At×AT×AT×BA×BA×List bT×Int
noncomputable abbrev Vv:At:=["chart","mood","way"]
def wH:J4->BA:=λ(bs,nm,ks,es,ss,is,os,ws,m)=>[iH bs nm Qba is os QaV,.int m]
def rK:J4->Prop:=λ(bs,nm,ks,es,ss,is,os,ws,m)=>fD es/\ks.length=es.length/\es.length<=1000/\0<=m/\m<es.length
def rL:J4->T:=λ(bs,nm,ks,es,ss,is,os,ws,m)=>(.sh (.bl (jY ks es ws m)):T)
structure ahL(X:Cx)(CL:BC):Prop extends bL X where
 aH:Ln X 0 "chart"
 bJ:Ln X 1 "mood"
 gQ:Ln X 2 "way"
 Rn:Gl X "MODE"
 oM:Gl X "TARGET"
 oO:Gl X "within"
 Ro:∃u,X.mg "MODE" = some (.int 5 u)
 oN:∃u,X.mg "TARGET" = some (.int 4 u)
 oQ:Fc X CL "within" 2 3 nF nG nI
 aA:jP X.K QR
 bO:jP X.K Qag
 bR:aF X.K QR "ways"
 aZ:aF X.K Qag "kinds"
 bf:aF X.K QR "tree"
theorem ahM(E:ahL X CL) :
  oz X CL b J3 Vv wH rK rL:=by
 rintro⟨bs,nm,ks,es,ss,is,os,ws,m⟩ h;dsimp [rL]at h ⊢;obtain⟨p,s,q,m0,m1⟩:=h;refine eU (WN (bG (cy E.bO E.aZ QcX fz) Qav (gf Str.empty m0 We)) bQ).1 (λa=>?_) (λa=>ai ?_)
 .apply bz oq;have:cg ks m=false:=by
   rw[KI]at a;exact a
  unfold jY;rw[this];rfl
 have n:cg ks m=true:=by
  rw[Bool.not_eq_false']at a;exact a
 have k:jY ks es ws m=ws.any (N6 es m):=by unfold jY;rw[n];rfl
 rw[k];refine jc E.g E.gQ (λj δ=>(∀i x,i<j->ws[i]? = some x->N6 es m x=false)/\∃o,δ=[some _,some _,o])
  (eB Qfn) ⟨λi x hi=>by lia,_,rfl⟩ (λj δ ⟨_,_,e⟩=>by subst e;exact h7 rfl) ?turn ?fin
 case turn=>
  rintro j d δ r ⟨c,o,rfl⟩;obtain⟨w,rfl,hw,_,t,_,_⟩:=jZ r;refine eU (oY (ic (WN QiC bQ).1 (λ_=>iU (fW Qgt Qav).1))) (λa=>?_) (λa=>ai ?_)
  .apply bz oq;rw[UM hw (by unfold N6;rw[a];rfl)]
  refine eU (oY (ic (dg QiC bQ).1 (λ_=>iU (qQ (c_ (ks,es,ss,m,w.iq) E.oQ E.oO (ah QcX (ah Qav (ah Qgt aE))) (⟨p,m0,m1,q⟩) rfl))))) (λl=>?_) (λl=>ai (ai ?_))
  .apply bz oq;rw[UM hw (by unfold N6;rw[l,Bool.or_true])]
  .refine⟨λi x hi f=>?_,_,rfl⟩;by_cases e:i=j
   .subst e;rw[hw]at f;cases f;unfold N6;rw[a,l];rfl
   .exact c i x We f
 case fin=>
  rintro δ ⟨c,o,rfl⟩;apply bz oq;rw[any_none λi x f=>c i x (by rw[hP];exact(l4.1 f).1) f]
noncomputable def nK:FG Vv ["chart","mood"] ["MODE","TARGET","within"] (aj J3):=fG
abbrev Bm:=top 45
abbrev Bo:=BA×BA×At×AT×AT×BA×EQ×List bT×AT×AT×AT
noncomputable abbrev J5:At:=["chart","gone","memory","behind","rows","mood"]
def wI:Bo->BA:=λ(bs,nm,ks,es,ss,is,os,ws,gone,mem,bh)=>[iH bs nm Qba is (os.map .tup) QaV,.lst (gone.map .int),.lst Qc7,.lst (bh.map .int)]
def qy:Bo->Prop:=λ(bs,nm,ks,es,ss,is,os,ws,gone,mem,bh)=>fD es/\es.length<=1000/\ks.length=es.length/\os.length=es.length/\mem.length=es.length/\bh.length=es.length/\vI os/\gone.length<=1000/\∀m∈gone,0<=m/\m<es.length
def qz:Bo->T:=λ(bs,nm,ks,es,ss,is,os,ws,gone,mem,bh)=>(.lst ((L4 Qcf os mem bh gone).map T.sh):T)
structure YF(X:Cx)(CL:BC):Prop extends bL X where
 aH:Ln X 0 "chart"
 tR:Ln X 1 "gone"
 cO:Ln X 2 "memory"
 bK:Ln X 3 "behind"
 bX:Ln X 4 "rows"
 bJ:Ln X 5 "mood"
 J6:Gl X "heeded"
 J7:Fc X CL "heeded" 3 2 wH rK rL
 aA:jP X.K QR
 vV:aF X.K QR "outs"
theorem YG(E:YF X CL) :
  oz X CL b Bm J5 wI qy qz:=by
 rintro⟨bs,nm,ks,es,ss,is,os,ws,gone,mem,bh⟩ h;dsimp [qz]at h ⊢;obtain⟨l,p,q,n,y,w,f,s,t⟩:=h;apply aL E.g E.bX Qa9;refine jc E.g E.bJ (λj δ=>∃o,δ=[some _,some _,some _,some _,some (.lst ((L4 Qcf os mem bh (gone.take j)).map T.sh)),o])
  (eB (v_ E.tR.1)) ⟨_,rfl⟩ (λj δ ⟨_,e⟩=>by subst e;exact h7 rfl) ?turn ?fin
 case turn=>
  rintro j d δ r ⟨o,rfl⟩;obtain⟨m,rfl,_,hm,x,_,i⟩:=jZ r;obtain⟨m0,m1⟩:=t m hm;have c:=(P8 (jn:=jY ks es ws) (mem:=mem) (bh:=bh) f (gone.take j)).1;have k:(gone.take j).length<=j:=by simp;lia
  obtain⟨g1,g2⟩:=f.get m.toNat;rw[i,adb];generalize L4 _ os mem bh _=rs at c ⊢;apply mY E.bX.1 rfl (jR (aJ f9 QhF) aQ) rfl (by rw[hP];lia);refine B6 (λδ=>δ=[some (.sh (iH bs nm Qba is (os.map .tup) QaV)),some (.sh (.lst (gone.map .int))),some Qkd,some (.sh (.lst (bh.map .int))),some (.lst ((rs++(D.tup [.str "out",.int m]::(if jY ks es ws m=true then [D.tup [.str "keep",.int m,.int Qht,.int Qfs]] else []))).map T.sh)),some Qbr])
   (qQ (aK (c_ (bs,nm,ks,es,ss,is,os.map _,ws,m) E.J7 E.J6 (ah QaI (ah Qav aE)) (⟨l,q,p,m0,m1⟩) rfl) rfl)) (λa=>?_) (λa=>?_) ?_
  .rw[hO a];refine mY E.bX.1 rfl (jR (aJ f9 (aJ (v_ E.bJ.1) (aJ (cS (bG QbS Qav (gJ m0 We)) rfl) (aJ (cS (bG (aC E.bK) Qav (gJ m0 We)) rfl) gi)))) aQ) rfl W9 (ai ?_);simp
  .rw[cq (by rw[a];decide)];apply ai;simp
  rintro δ rfl;have u:(if jY ks es ws m=true then [D.tup [.str "keep",.int m,.int Qht,.int Qfs]] else []).length<=1:=by split<;>simp
  generalize (if jY ks es ws m=true then [D.tup _] else [])=v at u ⊢;refine W2 E.bX.1 rfl (bG (cy E.aA E.vV QaI Xq) Qav (gf [] m0 We)) g2 rfl (by rw[hP,j2,k8];lia) (ai ⟨some Qbr,?_⟩);simp
 case fin=>
  rintro δ ⟨o,rfl⟩;rw[hP,lL];exact bz QdW rfl
noncomputable def iS:FG J5 ["chart","gone","memory","behind"] ["heeded"] (aj Bm):=fG
abbrev Bp:=top 46
abbrev Bq:=BA×BA×D×BA×BA×List bT×Nat×AT
noncomputable abbrev J8:At:=["chart","ways","rows","number"]
def wJ:Bq->BA:=λ(bs,nm,tr,is,os,ws,n,sel)=>[iH bs nm tr is os QaV,.lst (sel.map .int)]
def qA:Bq->Prop:=λ(bs,nm,tr,is,os,ws,n,sel)=>sel.length<=1000/\(∀i∈sel,QeD/\ze n QbQ)
def qB:Bq->T:=λ(bs,nm,tr,is,os,ws,n,sel)=>(.lst ((L5 ws sel).map T.sh):T)
structure YH(X:Cx)(CL:BC):Prop extends bL X where
 aH:Ln X 0 "chart"
 pe:Ln X 1 "ways"
 bX:Ln X 2 "rows"
 cI:Ln X 3 "number"
 alQ:Gl X "DEEDS"
 alR:∃u,X.mg "DEEDS" = some (.int 3 u)
 aA:jP X.K QR
 bR:aF X.K QR "ways"
theorem YJ(E:YH X CL) :
  oz X CL b Bp J8 wJ qA qB:=by
 rintro⟨bs,nm,tr,is,os,ws,n,sel⟩ h;dsimp [qB]at h ⊢;obtain⟨p,hs⟩:=h;apply aL E.g E.bX Qa9;refine jc E.g E.cI (λj δ=>∃o,δ=[Option.some _,Option.some _,Option.some (.lst ((L5 ws (sel.take j)).map T.sh)),o])
  (eB (v_ E.pe.1)) ⟨_,rfl⟩ (λj δ ⟨_,e⟩=>by subst e;exact h7 rfl) ?turn ?fin
 case turn=>
  rintro j d δ m ⟨o,rfl⟩;obtain⟨i,rfl,_,hi,q,_,a⟩:=jZ m;obtain⟨⟨c,i1⟩,hw⟩:=hs i hi;have l:=(P9 (some:=sel.take j) (λx f=>(hs x (tf f)).2)).1;have k:(sel.take j).length<=j:=by simp;lia
  have d1:=hw.2.2.2.1;apply mY E.bX.1 rfl (jR (aJ f9 (aJ (v_ E.cI.1) gi)) aQ) rfl (by rw[hP];lia);refine W2 E.bX.1 rfl (aV (bG (cy E.aA E.bR QaI iY) QeP (gf w0 c i1)) (ay (eZ E.alR E.alQ)) ayM) hw.2.2.2.2.1 rfl (by rw[j2,hP];show _+1+(ig ws i).sE.length<=_;lia) (ai ⟨Option.some (.sh QaQ),?_⟩);rw[a,ade,js,hZ];rfl
 case fin=>
  rintro δ ⟨o,rfl⟩;rw[hP,lL];exact bz QdW rfl
noncomputable def lz:FG J8 ["chart","ways"] ["DEEDS"] (aj Bp):=fG
abbrev Hj:=top 41
abbrev Rp:=BA×BA×At×AT×AT×EQ×EQ×List bT×AT×AT×AT
noncomputable abbrev abp:At:=["chart","opens","memory","ways","going","gone","behind","come","script"]
def zO:Rp->BA:=λ(bs,nm,ks,es,ss,is,os,ws,ch,mem,a)=>[iH bs nm Qba (is.map .tup) (os.map .tup) QaV,.lst ((fP QU es ch Q2).map .int),.lst Qc7,.lst Qe1]
def zP:Rp->Prop:=λ(bs,nm,ks,es,ss,is,os,ws,ch,mem,a)=>lK ks es ss is os ws/\(ch.length=es.length/\F8 QaN es ch)/\IX ks es mem/\sY ks es ws QaB a
def uQ:Rp->T:=λ(bs,nm,ks,es,ss,is,os,ws,ch,mem,a)=>(.tup [.lst ((Xu ks es ss is os ws mem QaB a).map T.sh),.lst (((xn ks es ss (Qa ks es ws mem QaB Qaz) QaB Qaz).map .int).map T.sh),.lst (((Qa ks es ws mem QaB Qaz).map .int).map T.sh)]:T)
structure alS(X:Cx)(CL:BC):Prop extends bL X where
 aH:Ln X 0 "chart"
 lY:zW X "chart"
 bw:Ln X 1 "opens"
 cO:Ln X 2 "memory"
 pe:Ln X 3 "ways"
 lZ:Ln X 4 "going"
 tR:Ln X 5 "gone"
 arq:zW X "gone"
 bK:Ln X 6 "behind"
 vW:Ln X 7 "come"
 cj:Ln X 8 "script"
 Br:Gl X "all_left"
 wK:Gl X "remembered"
 tU:Gl X "all_entered"
 Bs:Gl X "out_rows"
 Bt:Gl X "way_rows"
 uJ:Gl X "in_rows"
 fc:Gl X "sorted"
 YK:Fc X CL "all_left" 5 3 wC qu qv
 Rq:Fc X CL "remembered" 1 4 rH mh rJ
 Ms:Fc X CL "all_entered" 45 3 kO je kP
 YL:Fc X CL "out_rows" 4 4 wI qy qz
 YM:Fc X CL "way_rows" 1 2 wJ qA qB
 Em:Fc X CL "in_rows" 1 2 sL oJ oK
 fh:kE X "sorted"
 wg:Fc X CL "has_target" 1 2 lU iN lV
 J7:Fc X CL "heeded" 3 2 wH rK rL
 aA:jP X.K QR
 bf:aF X.K QR "tree"
theorem alT(E:alS X CL) :
  oz X CL b Hj abp zO zP uQ:=by
 rintro⟨bs,nm,ks,es,ss,is,os,ws,ch,mem,a⟩ h;dsimp only [zP,zO,uQ]at h ⊢;obtain⟨c,⟨y,B⟩,hm,hs⟩:=h;have q:=c.pre.1;have n0:=c.n0;have n1:=c.n1;have H:=hs.q7 c;have o:=hs.w3 c;have k:=hs.i;have K:=hs.l;have f:=hs.ap;have u:∀x∈fP QU es ch Q2,0<=x/\x<es.length:=λx j=>Ct n0 j;have r:=gO (isAll:=ao ks) (es:=es) (ch:=ch) Q2;have L:=GO (isAll:=ao ks) (es:=es) (ch:=ch) Q2;obtain⟨UI,_,_,_,U⟩:=IV c.kd (c.tree (JJ c B y hm Qaz)) n0 y B f H;have m:=JJ c B y hm Qaz;have t:=c.tree m;obtain⟨f1,f2⟩:=UK (ks:=ks) q r u f;obtain⟨g1,g2⟩:=DX (ks:=ks) q r u f;obtain⟨Z,P,O⟩:=IU t f H;have e:∀x∈kY ks es QaB Qaz,0<=x/\x<es.length:=λx j=>u x (zo.1 j).1;have s:(a.filter QcL).map QbE=lB ws a:=rfl;have v:∀i∈a.filter QcL,QeD/\Qgu/\(0<=(ig ws i).iq/\(ig ws i).iq<es.length)/\vH (ig ws i).mode/\Qlc:=λi hi=>by
  have h1:=(j1.1 hi).1;have w:=o i h1;have g:=H QbQ (ip.2 ⟨i,hi,rfl⟩);exact⟨(k i h1).1,w.1,g.1,w.2.2.1,g.up⟩
 unfold Xu;generalize S:fP QU es ch Q2=ops at *;refine vq (p:=λd=>qj ws d.ug) (gg:=λd=>T.sh d) E.g E.lZ QgB (eB (v_ E.pe.1)) Qar (λC s0 J f0 I d hd=>?azx) Qe5 ?rest (by exact h7 rfl) QbM
 case azx=>
  obtain⟨i,hi,rfl⟩:=ip.1 hd;exact⟨qQ (c_ (bs,nm,cW ks es ss,is.map .tup,os.map .tup,ws,i) (lD E.wg) vA (ah (fZ 1) (ah (ju 0) aE)) (by dsimp only [iN];exact(k i hi).1) rfl),λ_=>(v_ (DR 0))⟩
 case rest=>
 have G:(((a.map D.int).filter (λd=>qj ws d.ug)).map λd=>T.sh d)=((a.filter QcL).map D.int).map T.sh:=by
  rw[o2,ia];exact(ia ..).symm
 rw[G];refine aL E.g E.tR (eW (ds:=(kY ks es ops Qaz).map .int) (aK (c_ (bs,nm,ks,es,ss,is.map .tup,os.map .tup,ws,ops,a.filter QcL) E.YK E.Br (ah QaI (ah QaR (ah (vL E.lZ.1) aE))) (by dsimp only [qu];exact⟨q,We,c.kl,We,u,λi hi=>⟨(v i hi).1,(v i hi).2.1,(v i hi).2.2.1⟩,by rw[s];lia⟩) (aN _)) rfl)) ?_;have N:((kY ks es ops Qaz).filter Qcf).length<=es.length:=kq (qr _ _) g2;refine aL E.g E.bK (aK (c_ (ks,es,ss,mem,ops,(kY ks es ops Qaz).filter Qcf) E.Rq E.wK (ah QcX (ah QbS (ah QaR (ah (cu (aK (lH (p:=λd=>jY ks es ws d.ug) (g:=λd=>T.sh d) QgB E.g.calm (eB (v_ E.tR.1)) Qar (λC s0 J f0 I d hd=>?X6) Qe5) (t2:=.lst _) (by
  refine congrArg T.lst ?_;rw[o2,ia];exact(List.map_map ..).symm))) aE)))) (by dsimp only [mh];exact⟨q,c.kl,hm.1,u,λx j=>e x (List.mem_filter.1 j).1⟩) (aN _)) (t2:=.lst (((Qa ks es ws mem ops Qaz).map .int).map T.sh)) rfl) ?_
 case X6=>
  obtain⟨i,hi,rfl⟩:=ip.1 hd;exact⟨qQ (c_ (bs,nm,ks,es,ss,is.map .tup,os.map .tup,ws,i) (lD E.J7) vA (ah (fZ 1) (ah (ju 0) aE)) (by dsimp only [rK];exact⟨q,c.kl,We,(e i hi).1,(e i hi).2⟩) rfl),λ_=>(v_ (DR 0))⟩
 generalize Y:Qa ks es ws mem ops Qaz=bh at *;refine aL E.g E.vW (aK (c_ (bs,nm,ks,es,ss,is.map .tup,os.map .tup,ws,bh,a.filter QcL) E.Ms E.tU (ah QaI (ah (vL E.bK.1) (ah (vL E.lZ.1) aE))) (by dsimp only [je];exact⟨⟨n1,c.kl,c.sl,m.1,c.kinds⟩,t,v,by rw[s];lia⟩) (aN _)) rfl) ?_;obtain⟨W,z⟩:=P8 (jn:=jY ks es ws) (mem:=mem) (bh:=bh) c.or (kY ks es ops Qaz);obtain⟨V,w2⟩:=P9 (n:=es.length) o;have R:(zY ks es ss bh Qaz).length<=es.length:=by unfold zY;rw[qE];exact P
 have A:∀x∈zY ks es ss bh Qaz,0<=x/\x<is.length:=λx j=>by
  rw[c.il];exact(O x (lg.1 j)).1
 obtain⟨i1,i2⟩:=IW c.ir (zY ks es ss bh Qaz);refine aL E.g E.cj (zb (cu (zb (cu (aK (c_ (bs,nm,ks,es,ss,is.map .tup,os,ws,kY ks es ops Qaz,mem,bh) E.YL E.Bs (ah QaI (ah (aC E.tR) (ah QbS Qkn))) (by dsimp only [qy];exact⟨q,We,c.kl,c.ol,hm.1,m.1,c.or,We,e⟩) (dF z)) (t2:=.lst _) rfl))
  (cu (aK (c_ (bs,nm,cW ks es ss,is.map .tup,os.map .tup,ws,es.length,a) E.YM E.Bt (ah QaI (ah (aC E.pe) aE)) (by dsimp only [qA];exact⟨We,λi hi=>⟨(k i hi).1,o i hi⟩⟩) (dF w2)) (t2:=.lst ((L5 ws a).map T.sh)) rfl)) z w2 (Nat.le_of_lt (cA We))))
  (cu (aK (c_ (bs,nm,cW ks es ss,is,os.map .tup,ws.map iu,zY ks es ss bh Qaz) E.Em E.uJ (ah QaI (ah (vL E.vW.1) aE)) (by dsimp only [oJ];exact⟨c.ir,We,A⟩) (dF i2)) rfl)) (UL z w2) i2 (Nat.le_of_lt (cA (by rw[List.length_append];lia)))) ?_
 have F:((((ops.map D.int).filter (λd=>!decide (d.ug∈kY ks es ops Qaz))).map λd=>T.sh d))=((ops.filter Qiw).map D.int).map T.sh:=by
  rw[o2,ia];exact(ia ..).symm
 have M:(ops.filter Qiw).length<=ops.length:=qr _ _;refine bz (oX (aO (vM E.cj.1) (aO (aK (m9 E.fh (cu (aK (zb (ds2:=(zY ks es ss bh Qaz).map .int) (cu (aK (lH (g:=λd=>T.sh d) (bu (.cons E.tR.1 (.inl E.arq) .nil) Wg) E.g.calm (eB (v_ E.bw.1)) Qar (λC s0 J f0 I d hd=>?ahg) Qe5) (congrArg T.lst F))) (vL E.vW.1) (cC _) (cC _) (kv (cA (by simp only[hP];lia)))) (t2:=.lst (((ops.filter Qiw++zY ks es ss bh Qaz).map .int).map T.sh)) (by rw[← js]))) We E.fc) rfl) (aO Qf3 bD))) aQ) rfl
 case ahg=>
  obtain⟨i,hi,rfl⟩:=ip.1 hd;exact⟨(zc (l:=kY ks es ops Qaz) (ju 0) (fZ 1) rfl rfl).1,λ_=>(v_ (DR 0))⟩
def fj:Te (aj Hj) ([("chart",.cell),("opens",cG),("memory",cG),("ways",cG),("going",cG),("gone",.cell),("behind",cG),("come",cG),("script",cG),("all_left",bI),("remembered",bI),("all_entered",bI),("out_rows",bI),("way_rows",bI),("in_rows",bI),("sorted",bI)])=true:=by decide +kernel
noncomputable def ahN:dz abp ["chart","opens","memory","ways"] (aj Hj):=jt
abbrev mj:=inClass (top 64) 1
abbrev mq:=CH×Pl×BA×AT×EN×Str
noncomputable abbrev sP:At:=["self","sign","opens","ways","move"]
def j4:mq->BA:=λ(c,p,pa,bs,ex,sg)=>[.ins "NestRun" (vK c.d (GX p) pa bs ex),.str sg]
def iB:mq->Prop:=λ(c,p,pa,bs,ex,sg)=>c.Ok/\Gd c p/\bs.length=c.bs.length
def j5:mq->T:=λ(c,p,pa,bs,ex,sg)=>(.tup [.lst (((goN c p sg bs).1.map It.d).map T.sh),.tup [.lst (((goN c p sg bs).2.1.map .int).map T.sh),.lst (((goN c p sg bs).2.2.map .int).map T.sh)]]:T)
structure C9(X:Cx)(CL:BC):Prop extends bL X where
 bW:Ln X 0 "self"
 lQ:Ln X 1 "sign"
 bw:Ln X 2 "opens"
 pe:Ln X 3 "ways"
 Rr:Ln X 4 "move"
 Rt:Gl X "kept"
 Ru:Gl X "picks"
 Rw:Gl X "moved"
 EB:Fc X CL "kept" 5 2 C1 C2 C3
 alU:Fc X CL "picks" 4 4 Ew Ex zM
 alV:Fc X CL "moved" 46 4 zO zP uQ
 aA:jP X.K QR
 aD:jP X.K Qac
 b8:aF X.K Qac "place"
 jf:aF X.K Qac "chart"
 dX:aF X.K QR "boxes"
 bZ:aF X.K Qac "boxes"
theorem Dc(E:C9 X CL) :
  oz X CL b mj sP j4 iB j5:=by
 rintro⟨c,p,pa,bs,ex,sg⟩ h;obtain⟨i,j,o⟩:=h;have go:=Qn i j sg bs;have hs:=go.s;have hd:=go.d;obtain⟨ch,⟨u,t⟩,e,r⟩:=j;have a:=i.k;have n0:=a.n0;have n1:=a.n1;have wl:=a.wl;have v:∀x∈p.1,0<=x/\x<c.es.length:=e▸λx l=>Ct n0 l;have m:p.1.length<=c.es.length:=by have:=GO (isAll:=ao c.ks) (es:=c.es) (ch:=ch) Qb4;lia
 have hpl:=aaQ c.ws p.1 bs sg c.es (nk c.ks p.1);have n:(nk c.ks p.1).length<=p.1.length:=qr _ _;have f:∀k∈Tp _ p.1 bs sg c.es (nk c.ks p.1),0<=k/\k<c.ws.length:=aqq;show dh X CL b _ _ {nx:=_,rt:=λy _=>y=T.tup _,bk:=_,ct:=_};rw[hd];apply aL E.g E.bw (m7 Qiz ak DQ);refine aL E.g E.pe (aK (c_ (c.bs.map qi,c.nm,c.ks,c.es,c.ss,c.is.map _,c.os.map _,c.ws,Tp _ p.1 bs sg _ _) E.EB E.Rt (ah Qjj (ah (cu (aK (c_ (c.bs.map qi,c.nm,c.ks,c.es,c.ss,c.is.map _,c.os.map _,c.ws,p.1,bs,sg) E.alU E.Ru (ah Qjj (ah QaR (ah (cy E.aD E.bZ (aC E.bW) D8) (ah (aC E.lQ) aE)))) (⟨a.pre.1,We,a.kl,We,We,v,i.q bs o⟩) (aN _)) rfl)) aE)) (⟨a.pre.1,We,a.kl,We,f,λw hw=>by have:=a.wo w hw;exact⟨this.1,by obtain z|z:=this.2.1<;>lia⟩⟩) (aN _)) rfl) ?_;have em:uQ (c.bs.map qi,c.nm,c.ks,c.es,c.ss,c.is,c.os,c.ws,ch,p.2,n3 c p.1 bs sg)=T.tup [.lst ((uu c p Qdb).map T.sh),.lst (((toN c p Qdb).1.map .int).map T.sh),.lst (((toN c p Qdb).2.map .int).map T.sh)]:=by unfold uu toN;rw[e];rfl
 refine aL E.g E.Rr (aK (c_ (c.bs.map qi,c.nm,c.ks,c.es,c.ss,c.is,c.os,c.ws,ch,p.2,n3 c p.1 bs sg) E.alV E.Rw (ah Qjj (ah (wY QaR (by rw[e])) (ah (aV (cy E.aD E.b8 (aC E.bW) uB) ak LX) (ah (vL E.pe.1) aE)))) (⟨a,⟨u,t⟩,r,e▸hs⟩) (by rw[em,T.clean,T.dP,T.dP,T.dP,aN,aN,dF (hd▸eY Qf _)];rfl)) em) ?_;exact bz (oX (aO (jS 0 E.Rr.1 rfl rfl) (aO (oX (aO (jS 1 E.Rr.1 rfl rfl) (aO (jS 2 E.Rr.1 rfl rfl) bD)) aQ) bD)) aQ) rfl
noncomputable def cz:FG sP ["self","sign"] ["kept","picks","moved"] (aj mj):=fG
abbrev rM:=inClass (top 62) 2
abbrev mw:=Addr×CH×Pl×Bn×AT×ES×At
abbrev yx:At:=["self","called","waiting","rows","many","sign","going","step"]
def gH:mw->Bn:=λ(y,c,p,pt,bs,eo,cs)=>[.pin y (.ins "NestRun" (kZ c.d (GX p) pt bs QbV)),.sh (.lst (cs.map .str))]
def fB:mw->Bn:=λ(y,c,p,pt,bs,eo,cs)=>[.pin y (.ins "NestRun" (kZ c.d (GX (mN c (cs,p,bs))) pt (oP c (cs,p,bs)) QbV)),.sh (.lst (cs.map .str))]
def iP:mw->Prop:=λ(y,c,p,pt,bs,eo,cs)=>c.Ok/\Gd c p/\bs.length=c.bs.length/\cs.length<=1000
def gI:mw->T:=λ(y,c,p,pt,bs,eo,cs)=>(.lst ((Oj c (cs,p,bs)).map T.sh):T)
structure J9(X:Cx)(CL:BC):Prop extends bL X where
 bW:Ln X 0 "self"
 lT:Ln X 1 "called"
 qJ:Ln X 2 "waiting"
 bX:Ln X 3 "rows"
 cY:Ln X 4 "many"
 lQ:Ln X 5 "sign"
 lZ:Ln X 6 "going"
 eV:Ln X 7 "step"
 cM:Gl X "list"
 Rx:Gl X "MOST_SIGNS"
 oV:Gl X "performed"
 fS:Gl X "len"
 cD:kE X "list"
 Ry:∃u,X.mg "MOST_SIGNS" = some (.int 8 u)
 yz:Fc X CL "performed" 5 2 ki jm nU
 fU:kE X "len"
 Dd:Fq X CL "NestRun" "step_at" 47 2 j4 iB j5
 aA:jP X.K QR
 aD:jP X.K Qac
 b8:aF X.K Qac "place"
 dX:aF X.K QR "boxes"
 bZ:aF X.K Qac "boxes"
theorem Ka(E:J9 X CL)(y c p pt bs eo cs)(h:iP (y,c,p,pt,bs,eo,cs)) :
  dh X CL b (d9 rM) (vv yx (gH (y,c,p,pt,bs,eo,cs))) {nx:=λδ=>gI (y,c,p,pt,bs,eo,cs)=.sh .non/\Keeps δ (fB (y,c,p,pt,bs,eo,cs)),rt:=λM δ=>M=gI (y,c,p,pt,bs,eo,cs)/\Keeps δ (fB (y,c,p,pt,bs,eo,cs))}:=by
 dsimp only [iP,gH,gI,fB]at h ⊢;obtain⟨o,K,J,N⟩:=h;refine aL E.g E.qJ (ou E.cD (v_ E.lT.1) E.cM bH) ?_;refine aL E.g E.bX (dQ (tl:=[]) bD aQ) ?_;refine aL E.g E.cY bB ?_;refine Pk E.g (λk δ=>∃(j:Nat) (C B A:QcP),k+j=8/\δ=[some (.pin y (.ins "NestRun" (kZ c.d (GX (xr c j (cs,p,bs)).2.2.1) pt (xr c j (cs,p,bs)).2.2.2 QbV))),some _,some (.lst (((xr c j (cs,p,bs)).2.1.map .str).map T.sh)),some (.lst ((xr c j (cs,p,bs)).1.map T.sh)),some Qc1,C,B,A]) 8 ⟨0,_,_,_,rfl,rfl⟩ ?loop
 case loop=>
  rintro k δ ⟨j,C,B,A,hm,rfl⟩;obtain⟨k1,k2,f,i,D⟩:=AZ o (cs:=cs) K J j;have u:=@U0 c (cs,p,bs) j;have e:=@Cw c (cs,p,bs) j;have q:(xr c j (cs,p,bs)).2.1=[]\/j=8->xr c 8 (cs,p,bs)=xr c j (cs,p,bs):=λz=>by
   obtain z|z:=z
   .have:=u z (8-j)
    rwa [show j+(8-j)=8 by lia]at this
   .rw[z]
  unfold oP mN Oj;generalize H:xr c j (cs,p,bs)=s at k1 k2 i D f q e ⊢;obtain⟨rs,w,r,cur⟩:=s;dsimp only at k1 k2 i D f q ⊢;refine⟨_,_,oY (ic (afN (vL E.qJ.1)) (λ_=>iU (Nx Qcl (ay (eZ E.Ry E.Rx))).1)),λl=>?_,λl=>?_⟩
  .rw[km]at l;obtain⟨n,I⟩:=l;cases w with
   | nil=>cases n
   | cons sg w=>
    have v:=e (rs:=rs) (sg:=sg) (w:=w) (a:=r) (bs:=cur) rfl;obtain⟨_,_,F,s1,gn⟩:=Qn o f sg cur;generalize L:goN c r sg cur=gg at F s1 gn v;have s3:(dG gg.1).length<=gg.1.length:=yY _ _;rw[k8]at k2;refine ap2 E.g E.cY rfl ak ?_;refine iE E.g E.lQ (afW (t:=.sh (.str sg)) (jT E.qJ.1 rfl) rfl rfl) ?_;refine aL E.g E.lZ (kD (d:=.tup [.lst (gg.1.map It.d),GX gg.2]) (aK (q_ (c,r,T.iD pt,cur,Wi eo,sg) E.Dd (vE E.bW.1 rfl Oe) (Ql Wg Wg Wg Wg Wg) (ah (aC E.lQ) aE) rfl (by dsimp only [iB];exact⟨o,f,i⟩) (by show T.dP _=true;rw[T.dP,T.dP,T.dP,dF (eY Qf _),T.clean,T.dP,T.dP,T.dP,aN,aN];rfl)) (t2:=.tup [.lst ((gg.1.map It.d).map T.sh),.tup [.lst ((gg.2.1.map .int).map T.sh),.lst ((gg.2.2.map .int).map T.sh)]]) (by rw[← L];rfl)) (by rw[T.gW,T.iD,T.iD,T.iD,fQ,T.gW,T.iD,T.iD,T.iD,fQ,fQ];rfl)) ?_;refine aL E.g E.eV (aK (c_ (true,gg.1,cur) E.yz E.oV (ah (aV (aC E.lZ) ak DQ) (ah (cy E.aD E.bZ (vE E.bW.1 rfl Oe) D8) aE)) (by dsimp only [jm];exact⟨We,λx G=>XM (F x G) i⟩) (Qh (cC _) (Qg _ _) (eY Qde _))) (t2:=.tup [.lst _,.lst _,.lst _]) rfl) ?_;refine qS E.aD E.b8 E.bW.1 (m7 (v_ E.lZ.1) ak LX) rfl (UX _ _ _ _ _) ?_;rw[XD];refine qS E.aD E.bZ E.bW.1 (eW Qhp) rfl (UX _ _ _ _ _) ?_;rw[XE];refine mY E.bX.1 rfl (jR (aJ f9 (aJ (v_ E.lQ.1) gi)) aQ) rfl (by rw[hP];lia) ?_;refine Fg E.bX.1 rfl QjZ rfl (by simp[Cu];lia) ?_;refine Fg E.qJ.1 rfl Qj0 rfl W9 (ai ⟨k-1,We,j+1,some QdQ,some (.sh (.tup [.lst (gg.1.map It.d),GX gg.2])),some (.tup [.sh .any,.sh .any,.sh .any]),We,?_⟩);rw[v];dsimp only;rw[js,js,js,kc,hZ];rfl
  .have hz:w=[]\/j=8:=by
    cases w with
    | nil=>exact .inl rfl
    | cons sg w=>
     right;have:=lx ((Bool.true_and _).symm.trans l);lia
   rw[q hz];dsimp only;refine eU (afN (vL E.qJ.1)) (λm=>?_) (λm=>ai ?_)
   .have hw:w≠[]:=by
     rintro rfl;cases m
    rw[cq hw];refine mY E.bX.1 rfl (jR (aJ f9 (aJ (aK (O8 E.fU (vL E.qJ.1) E.fS) (by rw[hP])) gi)) aQ) rfl (by rw[hP];lia) (ai (bz QdW ⟨?_,o9 (ds:=[_])⟩));rw[js];rfl
   .have hw:w=[]:=by
     cases w with
     | nil=>rfl
     | cons sg w=>cases m
    subst hw;rw[hO rfl,iz];exact bz QdW ⟨rfl,o9 (ds:=[_])⟩
noncomputable def bM:FG yx ["self","called"] ["list","MOST_SIGNS","performed","len"] (aj rM):=fG
abbrev tV:=inClass (top 62) 0
abbrev n5:=Addr×CH×Pl×AT×Ee
noncomputable abbrev Ak:At:=["self","boxes","place","script","step"]
def jg:n5->Bn:=λ(y,c,p,bs,xs)=>[.pin y (.ins "NestRun" [("chart",.sh c.d)]),.sh Qew,.sh (GX p),.sh (.lst QeU)]
def gY:n5->Bn:=λ(y,c,p,bs,xs)=>[.pin y (.ins "NestRun" (UU c.d (GX (mN c (dG xs,p,xs.foldl It.af bs))) [] (oP c (dG xs,p,xs.foldl It.af bs)) (Lv (some ((D3 xs bs).map J.d++Oj c (dG xs,p,xs.foldl It.af bs)))))),.sh Qew,.sh (GX p),.sh (.lst QeU)]
def pI:n5->Prop:=λ(y,c,p,bs,xs)=>c.Ok/\Gd c p/\bs.length=c.bs.length/\xs.length<=200/\(∀x∈xs,pf c.bs.length x)
noncomputable def jh:n5->T:=λ(y,c,p,bs,xs)=>(.sh .non:T)
structure Mt(X:Cx)(CL:BC):Prop extends bL X where
 bW:Ln X 0 "self"
 ck:Ln X 1 "boxes"
 jU:Ln X 2 "place"
 cj:Ln X 3 "script"
 eV:Ln X 4 "step"
 oV:Gl X "performed"
 yz:Fc X CL "performed" 5 2 ki jm nU
 rN:LU X CL "NestRun" "dealt" 48 2 gH iP gI fB
 aA:jP X.K QR
 aD:jP X.K Qac
 b8:aF X.K Qac "place"
 jM:aF X.K Qac "past"
 dX:aF X.K QR "boxes"
 bZ:aF X.K Qac "boxes"
 jN:aF X.K Qac "first_rows"
theorem Mu(E:Mt X CL)(y c p bs xs)(h:pI (y,c,p,bs,xs)) :
  dh X CL b (d9 tV) (vv Ak (jg (y,c,p,bs,xs))) {nx:=λδ=>jh (y,c,p,bs,xs)=.sh .non/\Keeps δ (gY (y,c,p,bs,xs)),rt:=λk δ=>k=jh (y,c,p,bs,xs)/\Keeps δ (gY (y,c,p,bs,xs))}:=by
 dsimp [jg,jh,gY]at h ⊢;obtain⟨i,hf,f,m,e⟩:=h;have l:(dG xs).length<=xs.length:=yY _ _;have j:=vJ xs bs;have a:=j.trans f;obtain⟨d1,d2⟩:=Je i (cs:=dG xs) hf a;apply qS E.aD E.b8 E.bW.1 (v_ E.jU.1) rfl Qbd;rw[show sU _ _ _=[(("chart":Str),T.sh c.d),(("place"),T.sh _)] by rfl];apply qS E.aD E.jM E.bW.1 (dQ bD aQ) rfl Qbd;rw[show sU _ _ _=[(("chart":Str),T.sh c.d),(("place"),T.sh _),(("past"),T.lst [])] by rfl];refine aL E.g E.eV (aK (c_ (true,xs,bs) E.yz E.oV (ah Qdm Qcw) (⟨We,λx hm=>XM (e x hm) f⟩) (Qh (cC _) (Qg _ _) (eY Qde _))) rfl) ?_;apply qS E.aD E.bZ E.bW.1 (eW Qhp) rfl Qbd;rw[show sU _ _ _=UU c.d _ [] _ (Lv none) by rfl];generalize xs.foldl _ bs=cur at j a d1 d2 ⊢;refine ap3 E.aD E.jN E.bW.1 (aks QjZ (qM (dl:=[.lst _]) (λz=>(z,c,p,[],cur,none,dG xs)) (.pin y (.ins _ (UU c.d _ [] _ _))) E.rN E.bW.1 (.pin rfl) (aO (eW Qj0) bD) (λz _=>⟨i,hf,a,We⟩) QfS (λz hz=>by subst hz;exact⟨rfl,.inr rfl,trivial⟩) (ak4 Wg Wg Wg Wg Wg) (λz hz=>by rfl)) (by rw[lh,hP,Cu];lia)) rfl (agL _ _ _ _ _) (ai ⟨rfl,?_⟩);exact o9 (ds:=[_,_,_])
noncomputable def fM:FG Ak ["self","boxes","place","script"] ["performed"] (aj tV):=fG
abbrev rO:=inClass (top 64) 0
abbrev rP:=CH
abbrev yC:At:=["self","chart","start"]
def uR:rP->BA:=λc=>[c.d]
def uS:rP->Prop:=λc=>c.Ok
def uT:rP->BN:=λc=>(UU c.d (GX (mN c (dG (zu c),Ol c,(zu c).foldl It.af (c.bs.map (·.2))))) [] (oP c (dG (zu c),Ol c,(zu c).foldl It.af (c.bs.map (·.2)))) (Lv (some ((D3 (zu c) (c.bs.map (·.2))).map J.d++Oj c (dG (zu c),Ol c,(zu c).foldl It.af (c.bs.map (·.2)))))):BN)
structure Kc(X:Cx)(CL:BC):Prop extends bL X where
 bW:Ln X 0 "self"
 aH:Ln X 1 "chart"
 kK:Ln X 2 "start"
 Rz:Gl X "begun"
 ahO:Gl X "Runner"
 Kd:Gl X "firsts"
 alW:Fc X CL "begun" 44 1 Ek El zI
 ahP:Fc X CL "firsts" 1 1 A7 vX vY
 tW:FkM X CL "Runner" "__init__" 49 4 jg pI jh gY
 aD:jP X.K Qac
 jf:aF X.K Qac "chart"
def Ke(E:Kc X CL)(c:CH)(y:Addr)(h:c.Ok) :
  dh X CL b (d9 rO) (WR yC y "NestRun" [c.d]) {nx:=λδ=>δ[0]? = some (some (.pin y (.ins "NestRun" (UU c.d (GX (mN c (dG (zu c),Ol c,(zu c).foldl It.af (c.bs.map (·.2))))) [] (oP c (dG (zu c),Ol c,(zu c).foldl It.af (c.bs.map (·.2)))) (Lv (some ((D3 (zu c) (c.bs.map (·.2))).map J.d++Oj c (dG (zu c),Ol c,(zu c).foldl It.af (c.bs.map (·.2)))))))))),rt:=λ_ _=>False}:=by
 have e:=h;have a:=e.k;obtain⟨g0,i1,i2,f⟩:=agR e;apply qS E.aD E.jf E.bW.1 Qgd rfl Qbd;apply aL E.g E.kK (kD (d:=.tup [.lst ((zu c).map _),.lst _,.lst _]) (aK (c_ (c.bs.map qi,c.nm,c.ks,c.es,c.ss,c.is,c.os.map _,c.ws.map iu) E.alW E.Rz (ah QaI aE) (⟨e.nl,a.n0,a.n1,a.kl,a.sl,a.il,a.ir,a.kinds,Jf e⟩) (by show T.dP _=true;rw[T.dP,T.dP,T.dP,aN,aN,dF (i1▸eY Qf _)];rfl)) (t2:=.tup [.lst ((inR _ (Ol c).1).map _),.lst _,.lst _]) rfl) (by rw[i1,T.gW,T.iD,T.iD,T.iD,T.iD,fQ,fQ,fQ]));have i:(c.bs.map (·.2)).length=c.bs.length:=hP ..;refine akh (kM1 (λz=>(z,c,Ol c,c.bs.map _,zu c)) _
  E.tW E.ahO (gu E.bW.1 rfl (e7 (eW (c_ (c.bs,c.nm,cW _ _ _,c.is.map _,c.os.map _,c.ws.map iu) E.ahP E.Kd (ah QaI aE) e.bl (aN _))) (e7 (jR (aJ (m7 (v_ E.kK.1) ak LX) (aJ (m7 (v_ E.kK.1) ak HI) gi)) aQ) (e7 (m7 (v_ E.kK.1) ak DQ) dm))))
  (λz _=>⟨e,g0,i,f,i2⟩) QfS (λz hz=>by cases hz.1;exact⟨rfl,.inr rfl,trivial⟩) (λz hz=>by cases hz.1;rfl)) (ai rfl)
noncomputable def eO:FG yC ["self","chart"] ["begun","Runner","firsts"] (aj rO):=fG
abbrev pJ:=inClass (top 64) 3
abbrev pK:=D×Pl×BA×AT×EN
noncomputable abbrev w9:At:=["self"]
def mz:pK->BA:=λ(cd,p,pa,bs,ex)=>[.ins "NestRun" (vK cd (GX p) pa bs ex)]
def mC:pK->Prop:=λ(cd,p,pa,bs,ex)=>True
noncomputable def mF:pK->T:=λ(cd,p,pa,bs,ex)=>(.tup [.lst ((p.1.map .int).map T.sh),.lst ((p.2.map .int).map T.sh),.lst ((bs.map .int).map T.sh)]:T)
structure Gb(X:Cx)(CL:BC):Prop extends bL X where
 bW:Ln X 0 "self"
 cM:Gl X "list"
 cD:kE X "list"
 aA:jP X.K QR
 aD:jP X.K Qac
 dX:aF X.K QR "boxes"
 bZ:aF X.K Qac "boxes"
 b8:aF X.K Qac "place"
def Ge(E:Gb X CL) :
  oz X CL b pJ w9 mz mC mF:=by
 rintro⟨cd,p,pa,bs,ex⟩ h;exact bz (oX (aO QlL (aO (ou E.cD (m7 Qiz ak LX) E.cM bH) (aO (ou E.cD (jH E.aD E.bZ (v_ E.bW.1) D8) E.cM bH) bD))) aQ) rfl
noncomputable def jV:FG w9 ["self"] ["list"] (aj pJ):=fG
abbrev tX:=inClass (top 62) 3
abbrev n9:=Addr×CH×Pl×List Xz×AT×ES×Str
noncomputable abbrev Al:At:=["self","sign","place","boxes","rows"]
def ji:n9->Bn:=λ(y,c,p,l,bs,eo,sg)=>[.pin y (.ins "NestRun" (kZ c.d (GX p) (sG l) bs QbV)),.sh (.str sg)]
def gZ:n9->Bn:=λ(y,c,p,l,bs,eo,sg)=>[.pin y (.ins "NestRun" (kZ c.d (GX (mN c ([sg],p,bs))) (sG (l++[(p,bs,Oj c ([sg],p,bs))])) (oP c ([sg],p,bs)) QbV)),.sh (.str sg)]
def kQ:n9->Prop:=λ(y,c,p,l,bs,eo,sg)=>c.Ok/\Gd c p/\bs.length=c.bs.length/\l.length<=1000
def jk:n9->T:=λ(y,c,p,l,bs,eo,sg)=>(.lst ((Oj c ([sg],p,bs)).map T.sh):T)
structure Mv(X:Cx)(CL:BC):Prop extends bL X where
 bW:Ln X 0 "self"
 lQ:Ln X 1 "sign"
 jU:Ln X 2 "place"
 ck:Ln X 3 "boxes"
 bX:Ln X 4 "rows"
 cM:Gl X "list"
 cD:kE X "list"
 rN:LU X CL "NestRun" "dealt" 48 2 gH iP gI fB
 aA:jP X.K QR
 aD:jP X.K Qac
 b8:aF X.K Qac "place"
 dX:aF X.K QR "boxes"
 bZ:aF X.K Qac "boxes"
 jM:aF X.K Qac "past"
theorem Mw(E:Mv X CL)(y c p l bs eo sg)(h:kQ (y,c,p,l,bs,eo,sg)) :
  dh X CL b (d9 tX) (vv Al (ji (y,c,p,l,bs,eo,sg))) {nx:=λδ=>jk (y,c,p,l,bs,eo,sg)=.sh .non/\Keeps δ (gZ (y,c,p,l,bs,eo,sg)),rt:=λk δ=>k=jk (y,c,p,l,bs,eo,sg)/\Keeps δ (gZ (y,c,p,l,bs,eo,sg))}:=by
 dsimp [ji,jk,gZ]at h ⊢;obtain⟨f,e,d,a⟩:=h;obtain⟨_,j⟩:=Je f (cs:=[sg]) e d;refine aL E.g E.jU (GJ (Xg E.aD E.b8 (jT E.bW.1 rfl) rfl rfl XA) rfl XF) ?_;refine aL E.g E.ck (GJ (Xg E.aD E.bZ (jT E.bW.1 rfl) rfl rfl XC) rfl XG) ?_;refine iE E.g E.bX (qM (dl:=[.lst [.str sg]]) (λz=>(z,c,p,sG l,bs,eo,[sg])) _ E.rN E.bW.1 (.pin rfl) (aO (eW (dQ (aO (v_ E.lQ.1) bD) aQ)) bD) (λz _=>⟨f,e,d,Wp⟩) QfS (λz hz=>by subst hz;exact⟨rfl,.inr rfl,trivial⟩) (aaS Wg Wg Wg Wg Wg) (λz hz=>by rfl)) ?_;rw[XI];generalize Oj c _=fr at j ⊢;have hpl:(sG l).length<=1000:=by unfold sG;rw[hP];exact a
 generalize sG l=pt at hpl ⊢;refine PL (i:=4) rfl λz=>?_;apply ap1 (p:=[.fld _]) (Xg E.aD E.jM (jT E.bW.1 rfl) rfl rfl Og) rfl Oh (oX (aO (v_ E.jU.1) (aO (v_ E.ck.1) (aO (af7 E.bX.1 rfl) bD))) aQ) rfl Oh We;rw[XH];exact bz (auO (δ2:=[some _,some _,some _,some _,some _]) (af8 (i:=0) _ (g7 E.cD (ac0 (i:=0) E.bX.1 rfl rfl Oi (fQ fr)) j E.cM bH) rfl Oi) (by rw[adp];rfl)) ⟨rfl,o9 (ds:=[_])⟩
noncomputable def fN:FG Al ["self","sign"] ["list"] (aj tX):=fG
def De(l:Qb2):BA:=l.map λq=>.tup [GX q.1,.lst Qh4,.lst q.2.2]
noncomputable def iQ(r:BA)(l:Qb2):BA:=r++l.flatMap (·.2.2)
abbrev rQ:=inClass (top 62) 6
abbrev rR:=D×D×List Xz×AT×BA
noncomputable abbrev yE:At:=["self","rows","step"]
def nL:rR->BA:=λ(cd,pl,l,bs,r)=>[.ins "NestRun" (vK cd pl (De l) bs QeT)]
def nM:rR->Prop:=λ(cd,pl,l,bs,r)=>D.bS r=true/\r.length<=5000/\l.length<=100/\∀q∈l,q.2.2.length<=4000/\D.bS q.2.2=true
def nO:rR->T:=λ(cd,pl,l,bs,r)=>(.lst ((iQ r l).map T.sh):T)
structure Kf(X:Cx)(CL:BC):Prop extends bL X where
 bW:Ln X 0 "self"
 bX:Ln X 1 "rows"
 eV:Ln X 2 "step"
 cM:Gl X "list"
 cD:kE X "list"
 aD:jP X.K Qac
 jM:aF X.K Qac "past"
 jN:aF X.K Qac "first_rows"
theorem Kg(E:Kf X CL) :
  oz X CL b rQ yE nL nM nO:=by
 rintro⟨cd,pl,l,bs,r⟩ h;obtain⟨v,m,w,c⟩:=h;apply aL E.g E.bX (ou E.cD (jH E.aD E.jN (v_ E.bW.1) ado) E.cM bH);have hlen:∀j,(iQ r (l.take j)).length<=r.length+4000*j:=λj=>by
  unfold iQ;rw[j2];have:∀l:List Xz,(∀q∈l,q.2.2.length<=4000)->(l.flatMap (·.2.2)).length<=4000*l.length:=by
   intro l
   induction l with
   | nil=>intro _;exact i8 _
   | cons q l k=>
    intro h;rw[sT,j2,k8];have h1:=h q hU;have h2:=k λp n=>h p (hX _ n);lia
  have h1:=this (l.take j) λq hm=>(c q (tf hm)).1;have h2:(l.take j).length<=j:=by rw[ot];lia
  lia
 refine jc E.g E.eV (λj δ=>∃o,δ=[some (.sh (.ins "NestRun" (vK cd pl (De l) bs QeT))),some (.lst ((iQ r (l.take j)).map T.sh)),o])
  (eB (jH E.aD E.jM (v_ E.bW.1) agK)) ⟨ _,by rw[List.take_zero];unfold iQ;rw[List.flatMap_nil,iz];rfl⟩ (λj δ ⟨_,e⟩=>by subst e;exact h7 rfl) ?turn ?fin
 case turn=>
  rintro j d δ t ⟨o,rfl⟩;obtain⟨q,rfl,_,a,x,_,f⟩:=jZ t;obtain⟨u,i⟩:=c q a;have s:=hlen j;refine akr (jT E.bX.1 rfl) rfl rfl (aV (aC E.eV) ak HI) i rfl rfl (by rw[hP];lia) (ai ⟨some (.sh (.tup [GX q.1,.lst Qh4,.lst q.2.2])),?_⟩);rw[f];unfold iQ;rw[y6,sT,List.flatMap_nil,iz,← hZ,js (l₂:=q.2.2)];rfl
 case fin=>
  rintro δ ⟨o,rfl⟩;have e:(De l).length=l.length:=hP ..;rw[e,lL];exact bz QdW rfl
noncomputable def g6:FG yE ["self"] ["list"] (aj rQ):=fG
abbrev pL:=inClass (top 64) 2
abbrev pM:=D×Pl×BA×AT×EN
noncomputable abbrev xg:At:=["self"]
def mG:pM->BA:=λ(cd,p,pa,bs,ex)=>[.ins "NestRun" (vK cd (GX p) pa bs ex)]
def mH:pM->Prop:=λ(cd,p,pa,bs,ex)=>True
noncomputable def mJ:pM->T:=λ(cd,p,pa,bs,ex)=>(.lst ((p.1.map .int).map T.sh):T)
structure Gf(X:Cx)(CL:BC):Prop extends bL X where
 bW:Ln X 0 "self"
 cM:Gl X "list"
 cD:kE X "list"
 aD:jP X.K Qac
 b8:aF X.K Qac "place"
def Gg(E:Gf X CL) :
  oz X CL b pL xg mG mH mJ:=by
 rintro⟨cd,p,pa,bs,ex⟩ h;exact bz QlL rfl
noncomputable def jW:FG xg ["self"] ["list"] (aj pL):=fG
def adF(l:Qb2):T.iD (sG l)=De l:=by
 unfold sG De
 induction l with
 | nil=>rw[List.map_nil,List.map_nil,T.iD]
 | cons q l a=>rw[kc,kc,T.iD,a,T.gW,T.iD,T.iD,T.iD,T.iD,T.gW,T.gW,fQ]
def uU{l:Qb2}:T.gW (.ins "NestRun" (kZ cd pl (sG l) bs QbV))=.ins "NestRun" (vK cd pl (De l) bs (Wi eo)):=by rw[UW,adF]
noncomputable def ox(c:CH):nj:=([],List.replicate c.es.length (-1),c.bs.map (·.2))
def yF(s:nj):(Wh s).gW=Ls s:=ayX ..
def rS(s:nj):(Wh s).clean=true:=Qh (cC _) (cC _) (cC _)
def nP(s:nj):AG 60 (Ls s):=.tup λd hd=>by
 simp at hd;obtain rfl|rfl|rfl:=hd<;>exact .lst λd hd=>by obtain⟨i,_,rfl⟩:=ip.1 hd;exact .int _ _
def EC{rows:BA}{s t:nj}(h:j9 n rows s t)(g:uy n s)(c:n<60):uy n t/\∃a:List J,rows=a.map J.d/\(Fits false (tn false a) s/\(tn false a).foldl Qf0 s=t)/\(Fits true (tn true a) t/\(tn true a).foldl (jX true) t=s):=by
 obtain⟨a,rfl,b,rfl⟩:=h;exact⟨Fp g b,a,rfl,⟨Ft c g b,rfl⟩,Fv c g b⟩
structure wx(c:CH)(r:BA)(p:Pl)(B:AT)(l:Qb2):Prop where
 g:Gd c p
 b:B.length=c.bs.length
 z:Qt c p.2
 q:∀q∈l,q.2.2.length<=4000/\∀d∈q.2.2,t4 d
 s:j9 c.es.length (iQ r l) (ox c) (p.1,p.2,B)
theorem wx.feed(a:c.Ok){r:BA}{p:Pl}{B:AT}{l:Qb2}(h:wx c r p B l)(hs:PyData.strOk sg=true):wx c r (mN c ([sg],p,B)) (oP c ([sg],p,B)) (l++[(p,B,Oj c ([sg],p,B))])/\j9 c.es.length (Oj c ([sg],p,B)) (p.1,p.2,B) ((mN c ([sg],p,B)).1,(mN c ([sg],p,B)).2,oP c ([sg],p,B)):=by
 have d:=AZ a (cs:=[sg]) h.g h.b 8;obtain⟨f,hz⟩:=U6 a h.g h.b h.z;refine⟨⟨d.g,d.b,hz,λq j=>?_,?_⟩,f⟩
 .obtain z|z:=hV.1 j
  .exact h.q q z
  .rw[i4.1 z];exact⟨(Je a h.g h.b).1,aaU a h.g h.b λx i=>i4.1 i▸hs ⟩
 .have e:iQ r (l++[(p,B,Oj c ([sg],p,B))])=iQ r l++Oj c ([sg],p,B):=by
   unfold iQ;rw[y6,List.flatMap_singleton,hZ]
  exact e▸h.s.app f
theorem arw{l:Qb2}:(∀q∈l,q.2.2.length<=4000)->(l.flatMap (·.2.2)).length<=4000*l.length:=by
 intro h
 induction l with
 | nil=>exact i8 _
 | cons x l a=>
  have h1:=h x hU;have h2:=a λq b=>h q (hX _ b);rw[sT,j2,k8];lia
theorem wx.SU{r:BA}{p:Pl}{B:AT}{l:Qb2}(h:wx c r p B l)(h1:r.length<=5000)(h2:∀d∈r,t4 d)(b:l.length<=63):(D.bS r=true/\r.length<=5000/\l.length<=100/\∀q∈l,q.2.2.length<=4000/\D.bS q.2.2=true)/\(iQ r l).length<=500000/\D.bS (iQ r l)=true:=by
 refine⟨⟨Jd h2,h1,We,λq a=>⟨(h.q q a).1,Jd (h.q q a).2⟩⟩,?_,Jd λd hd=>?_⟩
 .have:=arw λq a=>(h.q q a).1;unfold iQ;rw[j2];lia
 .obtain z|z:=hV.1 hd
  .exact h2 d z
  .obtain⟨q,a,z⟩:=l5.1 z;exact(h.q q a).2 d z
noncomputable def Vw:At:=["go","go2","ago","gog"]
def alX(k:Nat):PyData.strOk (Vw.getD k Str.empty)=true:=by
 have:∀x∈Vw,PyData.strOk x=true:=by decide +kernel
 rw[kf];cases e:Vw[k]? with
 | none=>decide +kernel
 | some x=>exact this x (l7 e)
def Me(s:nj):(!T8 (Ls s) (Ls s))=false:=by rw[xM (nP s)];rfl
def azy(l:AT):(!T8 Qii Qii)=false:=by rw[xM (j8 l)];rfl
def azz(q:Bool):uW ([30,6].map D.int) (if q then 1 else 0)=some (.int ((if q then 6 else 30:Nat):Int)):=by cases q<;>rfl
abbrev NL:=top 81
abbrev NJ:=AT
abbrev SS:At:=["script","chart","tree","run","start","state","cell","rows","behind"]
noncomputable def zQ:NJ->BA:=λa=>[.lst Qe1]
def zR:NJ->Prop:=λa=>a.length<=63
noncomputable def zS:NJ->T:=λa=>(.sh Qbj:T)
structure av2(X:Cx)(CL:BC):Prop extends bL X where
 cj:Ln X 0 "script"
 aH:Ln X 1 "chart"
 bA:Ln X 2 "tree"
 FJ:Ln X 3 "run"
 kK:Ln X 4 "start"
 fH:Ln X 5 "state"
 Eb:Ln X 6 "cell"
 bX:Ln X 7 "rows"
 bK:Ln X 8 "behind"
 RA:Gl X "_law_chart"
 adG:Gl X "NestRun"
 Df:Gl X "_law_lists"
 Dg:Gl X "_law_whole"
 oW:Gl X "_law_walk"
 RB:Gl X "_law_turns"
 Cz:Gl X "int"
 fS:Gl X "len"
 zT:Fc X CL "_law_chart" 5 1 zx zy zA
 adH:Fm X CL "NestRun" 51 2 uR uS uT
 abq:Fc X CL "_law_lists" 1 1 Ec Ed Ef
 abr:Fc X CL "_law_whole" 1 2 zB zC zE
 Kh:Fc X CL "_law_walk" 1 3 CP CQ CT
 alY:Fc X CL "_law_turns" 1 3 Eg Eh zF
 CB:kE X "int"
 fU:kE X "len"
 xh:Fq X CL "NestRun" "state" 1 1 mz mC mF
 Mx:LU X CL "NestRun" "feed" 49 2 ji kQ jk gZ
 rT:Fq X CL "NestRun" "story" 1 1 nL nM nO
 Gh:Fq X CL "NestRun" "moods" 1 1 mG mH mJ
 aA:jP X.K QR
 aD:jP X.K Qac
 bO:jP X.K Qag
 bf:aF X.K QR "tree"
 aZ:aF X.K Qag "kinds"
 dX:aF X.K QR "boxes"
 bZ:aF X.K Qac "boxes"
 kh:aF X.K QR "names"
theorem av3(E:av2 X CL) :
  oz X CL b NL SS zQ zR zS:=by
 intro a h;dsimp only [zR,zQ,zS]at h ⊢;have hs:a.length<=63:=by lia
 obtain⟨c,hc⟩:∃c,c=vk qH 10 a:=⟨_,rfl⟩;have n:c.Ok:=by rw[hc];exact aqE Wl Wl
 have N:c.es.length<60:=by have:=n.k.n1;lia
 obtain⟨g0,i1,i2,i3⟩:=agR n;obtain⟨b1,b2⟩:=ag4 n;have GF:(c.bs.map (·.2)).length=c.bs.length:=hP ..;have wZ:((zu c).foldl It.af (c.bs.map (·.2))).length=c.bs.length:=(vJ _ _).trans GF;obtain⟨m,M⟩:∃m,m=mN c (dG (zu c),Ol c,(zu c).foldl It.af (c.bs.map (·.2))):=⟨_,rfl⟩;obtain⟨o,L⟩:∃o,o=oP c (dG (zu c),Ol c,(zu c).foldl It.af (c.bs.map (·.2))):=⟨_,rfl⟩;obtain⟨f,w⟩:∃f,f=(D3 (zu c) (c.bs.map (·.2))).map J.d++Oj c (dG (zu c),Ol c,(zu c).foldl It.af (c.bs.map (·.2))):=⟨_,rfl⟩;have Y:f.length<=5000:=by
  have:=(Je n (cs:=dG (zu c)) g0 wZ).1;rw[w,j2,hP,Cu];lia
 have W:∀d∈f,t4 d:=λd hd=>by
  rw[w]at hd;obtain z|z:=hV.1 hd
  .exact XO _ i2 d z
  .exact aaU n g0 wZ (UZ i2) d z
 have t:wx c f m o []:=by
  have d:=AZ n (cs:=dG (zu c)) g0 wZ 8;obtain⟨y1,y2⟩:=U6 n (cs:=dG (zu c)) g0 wZ b2;rw[M,L,w];refine⟨d.g,d.b,y2,λq hq=>absurd hq ke,?_⟩;unfold iQ;rw[List.flatMap_nil,iz];exact b1.app y1
 have aa:uy c.es.length (ox c):=⟨List.Pairwise.nil,λx hx=>absurd hx ke,ti ..⟩;refine aL E.g E.aH (kD (cF a E.zT E.RA (aO (v_ E.cj.1) bD) (show a.length<=1000 by lia)) (d:=c.d) (by rw[hc];exact adv _)) ?_;refine aL E.g E.bA (jH E.aA E.bf Qgd fX) ?_;refine aL E.g E.FJ (aK (mkF c E.adH E.adG (aO Qgd bD) n) (t2:=.ins "NestRun" (kZ c.d (GX m) (sG []) o (Lv (some f)))) (by rw[M,L,w];rfl)) ?_;clear M L w hc;refine aL E.g E.kK (kD (d:=Ls (ox c)) (aK (oX (aO Qa9 (aO (lH (p:=λ_=>true) (g:=λ_=>T.sh (.int (-1))) Qd2 E.g.calm (eB (jH E.bO E.aZ (v_ E.bA.1) fz)) Qar (λC s0 H0 f0 b' d hd=>⟨rfl,λ_=>gV ak⟩) ?l1) (aO (lH (p:=λ_=>true) (g:=λd=>T.sh d.at2) Qd2 E.g.calm (eB (jH E.aA E.dX Qgd Fw)) Qar (λC s0 H0 f0 b' d hd=>?zX) ?l2) bD))) aQ) (t2:=Wh (ox c)) ?eq) (yF _)) ?_
 case l1=>rw[hP,n.k.kl,lh];lia
 case l2=>have:=n.bl;rw[hP,lh];lia
 case zX=>
  obtain⟨p,F,rfl⟩:=ip.1 hd;exact⟨rfl,λ_=>cS (aV (ju 0) ak rfl) rfl⟩
 case eq=>
  have e1:((c.ks.map D.str).filter λ_=>true).map (λ_=>T.sh (.int (-1)))=((List.replicate c.es.length (-1:Int)).map D.int).map T.sh:=by
   rw[jF,List.map_replicate,List.map_replicate,List.map_const',hP,n.k.kl]
  have e2:((c.bs.map qi).filter λ_=>true).map (λd=>T.sh d.at2)=((c.bs.map (·.2)).map D.int).map T.sh:=by
   rw[jF,ia,ia,ia];rfl
  rw[e1,e2];rfl
 have S:∀{cd pl:D} {pa:BA} {bs:AT} {r:BA},(vK cd pl pa bs QeT).lookup ("state":Str)=none:=λ{cd pl pa bs r}=>Ql Wg Wg Wg Wg Wg;have ae:∀{cd pl:D} {pa:BA} {bs:AT} {r:BA},(vK cd pl pa bs QeT).lookup ("moods":Str)=none:=λ{cd pl pa bs r}=>Ql Wg Wg Wg Wg Wg;have H:∀{cd pl:D} {pa:BA} {bs:AT} {r:BA},(vK cd pl pa bs QeT).lookup ("story":Str)=none:=λ{cd pl pa bs r}=>Ql Wg Wg Wg Wg Wg;refine aL E.g E.fH (kD (aK (q0_ (c.d,m,De [],o,Wi (some f)) E.xh QeE S rfl trivial (rS (m.1,m.2,o))) (t2:=Wh (m.1,m.2,o)) rfl) (yF _)) ?_;obtain⟨sp,sl,A⟩:=t.SU Y W (i8 _);obtain⟨gA,U,v,hf,K⟩:=EC t.s aa N;rw[v]at sl A;refine eU (oY (xG (HJ (qQ (aK (c_ (m.1,m.2,o) E.abq E.Df (ah QbD aE) trivial rfl) (t2:=.sh Qbj) rfl))) (λ_=>xG (HJ (qQ (aK (c_ (c,(m.1,m.2,o)) E.abr E.Dg (ah Qa6 (ah QbD aE)) ⟨n,U7 n t.g,S3 t.g t.z⟩ rfl) (t2:=.sh Qbj) rfl))) (λ_=>AA (AH E.u (d1:=Ls (m.1,m.2,o)) (d2:=Ls (m.1,m.2,o)) (ay (kD (aK (c_ (false,U,ox c) E.Kh E.oW (ah (wY (cu (ds:=iQ f []) (aK (q0_ (c.d,GX m,[],o,f) E.rT QeE H rfl sp (by show(T.lst ((iQ f []).map T.sh)).clean=true;rw[v];exact dF A)) rfl)) (by rw[v])) (ah (aC E.kK) QfW)) ⟨by rw[hP]at sl;exact sl,hf.1,A⟩ (rS _)) (t2:=Wh (m.1,m.2,o)) (congrArg Wh hf.2)) (yF _))) QbD (nP _) (nP _)).1)))) (λF=>?_) (λ_=>ai ?_)
 .rw[Me]at F;cases F
 clear v hf K sl A sp U;have ag:c.nm.length=c.es.length:=n.nl;obtain⟨q,hq⟩:∃q,q=decide ((c.es.length:Int) > 10):=⟨_,rfl⟩;have ax:=alr a 21 QlG;refine jc E.g E.Eb (λj δ=>∃(p:Pl) (B:AT) (l:Qb2) (o6 o7 o8:QcP),(wx c f p B l/\uy c.es.length (p.1,p.2,B)/\l.length<=j)/\δ=[some (.sh (.lst Qe1)),some (.sh c.d),some (.sh QhD),some (.ins "NestRun" (kZ c.d (GX p) (sG l) B (Lv (some f)))),some (.sh (Ls (ox c))),some (.sh (Ls (p.1,p.2,B))),o6,o7,o8]) (eB (eW (aK (c_ (a,21,QlG) E.alY E.RB (ah Qdm (ah ak (ah (bG (cu (dN (aav (l:=[30,6]) rfl) aQ)) (ay (vh E.CB (ay (aK (Jn (ay (gT ag E.fU (cy E.aA E.kh QaI Fx) E.fS)) ak).2 (t2:=.sh (.bl q)) (by rw[hq]))) E.Cz)) (azz q)) aE))) ?tp (aN _)) rfl))) ⟨m,o,[],_,_,_,⟨t,gA,hW _⟩,rfl⟩ (λj δ ⟨_,_,_,_,_,_,_,e⟩=>by subst e;exact h7 rfl) ?turn ?fin
 case tp=>exact⟨hs,by cases q<;>decide,by cases q<;>decide,Wl⟩
 case fin=>
  rintro δ ⟨p,B,l,o6,o7,o8,⟨st,gs,Z⟩,rfl⟩;have aw:l.length<=63:=by
   rw[hP]at Z;lia
  obtain⟨sp,sl,A⟩:=st.SU Y W aw;obtain⟨_,O,v,hf,K⟩:=EC st.s aa N;rw[v]at sl A;rw[hP]at sl;refine bz (aK (WO (afc E.u (d1:=Ls (p.1,p.2,B)) (d2:=Ls (p.1,p.2,B)) (ay (kD (aK (c_ (false,O,ox c) E.Kh E.oW (ah (wY (cu (ds:=iQ f l) (aK (q0_ (c.d,GX p,l,B,f) E.rT QeE H rfl sp (by show(T.lst ((iQ f l).map T.sh)).clean=true;rw[v];exact dF A)) rfl)) (by rw[v])) (ah (aC E.kK) QfW)) ⟨sl,hf.1,A⟩ (rS _)) (t2:=Wh (p.1,p.2,B)) (congrArg Wh hf.2)) (yF _))) QbD (nP _) (nP _)).2 (λ_=>O7 (afc E.u (d1:=Ls (ox c)) (d2:=Ls (ox c)) (ay (kD (aK (c_ (true,O,(p.1,p.2,B)) E.Kh E.oW (ah (wY (cu (ds:=iQ f l) (aK (q0_ (c.d,GX p,l,B,f) E.rT QeE H rfl sp (by show(T.lst ((iQ f l).map T.sh)).clean=true;rw[v];exact dF A)) rfl)) (by rw[v])) (ah QbD QfW)) ⟨sl,K.1,A⟩ (rS _)) (t2:=Wh (ox c)) (congrArg Wh K.2)) (yF _))) (aC E.kK) (nP _) (nP _)).2)) (t2:=.sh Qbj) (by rw[xM (nP _),xM (nP _)];rfl)) rfl
 case turn=>
  rintro j d δ hj ⟨p,B,l,o6,o7,o8,⟨st,gs,Z⟩,rfl⟩;rw[la]at hj;obtain⟨x,hx,rfl⟩:=yA.1 hj;have aI:j<63:=by have:=(l4.1 hx).1;lia
  have c0:=k3 (x % 9) (b:=4) Wl;have c1:=ky (x % 9) (b:=4) Wl;have V:=alX (x % 9 % 4).toNat;refine iE E.g E.bX (af2 (qM (dl:=[.str (Vw.getD (x % 9 % 4).toNat Str.empty)]) (λz=>(z,c,p,l,B,some f,Vw.getD (x % 9 % 4).toNat Str.empty)) (.ins "NestRun" (kZ c.d _ _ _ (Lv (some f)))) E.Mx E.FJ.1 (.own rfl) (aO (cS (bG (cu (dN (nS (l:=Vw) rfl) aQ)) (ay (kW (ay (kW (aC E.Eb) ak Wl)) ak Wl)) (gf Str.empty (l:=Vw) c0 (show x % 9 % 4<4 from c1))) rfl) bD) (λz _=>by dsimp only [kQ];exact⟨n,st.g,st.b,We⟩) QfS (λz _=>⟨rfl,.inl rfl,trivial⟩) (aaS Wg Wg Wg Wg Wg) QfS) (fQ _)) ?_;generalize Vw.getD (x % 9 % 4).toNat Str.empty=sg at V ⊢;obtain⟨G,lf⟩:=st.feed n V;have rl:=(Je n (cs:=[sg]) st.g st.b);have I:(l++[(p,B,Oj c ([sg],p,B))]).length<=j+1:=by rw[j2,vr];lia
  generalize Oj c ([sg],p,B)=R at G lf rl I ⊢;generalize mN c ([sg],p,B)=i at G lf ⊢;generalize oP c ([sg],p,B)=y at G lf ⊢;generalize l++[(p,B,R)]=l1 at G I ⊢;obtain⟨ar,O,v,hf,K⟩:=EC lf gs N;subst v;obtain⟨ab,P⟩:=rl;rw[hP]at ab;show dh X CL b _ [some (.sh (.lst Qe1)),some (.sh c.d),some (.sh QhD),some _,some (.sh (Ls (ox c))),some (.sh (Ls (p.1,p.2,B))),some (.sh Qdy),some (.sh (.lst (O.map J.d))),o8] _;refine aL E.g E.bK (kD (aK (q0_ (c.d,i,De l1,y,Wi (some f)) E.xh QeE S rfl trivial (rS (i.1,i.2,y))) (t2:=Wh (i.1,i.2,y)) rfl) (yF _)) ?_;refine eU (oY (xG (HJ (qQ (aK (c_ (i.1,i.2,y) E.abq E.Df (ah (aC E.bK) aE) trivial rfl) (t2:=.sh Qbj) rfl))) (λ_=>xG (HJ (qQ (aK (c_ (c,(i.1,i.2,y)) E.abr E.Dg (ah Qa6 (ah (aC E.bK) aE)) ⟨n,U7 n G.g,S3 G.g G.z⟩ rfl) (t2:=.sh Qbj) rfl))) (λ_=>AA (AH E.u (d1:=.lst (i.1.map .int)) (d2:=.lst (i.1.map .int)) (cu (aK (q0_ (c.d,i,De l1,y,Wi (some f)) E.Gh QeE ae rfl trivial (aN _)) rfl)) (aV (ay (v_ E.bK.1)) ak DQ) (j8 _) (j8 _)).1)))) (λF=>?_) (λ_=>ai ?_)
  .rw[azy]at F;cases F
  refine eU (oY (xG (AH E.u (d1:=Ls (i.1,i.2,y)) (d2:=Ls (i.1,i.2,y)) (ay (kD (aK (c_ (false,O,(p.1,p.2,B)) E.Kh E.oW (ah (aC E.bX) (ah QbD QfW)) ⟨We,hf.1,P⟩ (rS _)) (t2:=Wh (i.1,i.2,y)) (congrArg Wh hf.2)) (yF _))) (aC E.bK) (nP _) (nP _)).1 (λ_=>AA (AH E.u (d1:=Ls (p.1,p.2,B)) (d2:=Ls (p.1,p.2,B)) (ay (kD (aK (c_ (true,O,(i.1,i.2,y)) E.Kh E.oW (ah (aC E.bX) (ah (aC E.bK) QfW)) ⟨We,K.1,P⟩ (rS _)) (t2:=Wh (p.1,p.2,B)) (congrArg Wh K.2)) (yF _))) QbD (nP _) (nP _)).1))) (λF=>?_) (λ_=>ai ?_)
  .rw[Me,Me]at F;cases F
  exact aL E.g E.fH (v_ E.bK.1) (ai ⟨i,y,l1,_,_,_,⟨G,ar,I⟩,rfl⟩)
noncomputable def jb:FG SS ["script"] ["_law_chart","NestRun","_law_lists","_law_whole","_law_walk","_law_turns","int","len"] (aj NL):=fG
noncomputable def cl(aM bq aG av cJ dH bP:Addr):Str->Addr:=λc=>if c="Chart" then aM else if c="Tree" then bq else if c="Runner" then aG else if c="NestRun" then av else if c="#_law_chart.<locals>.<lambda>" then cJ else if c="#kept.<locals>.<lambda>" then dH else if c="#goable.<locals>.<lambda>" then bP else 0
variable{aM bq aG av cJ dH bP:Addr}
def YN:cl aM bq aG av cJ dH bP "#_law_chart.<locals>.<lambda>" = cJ:=by unfold cl;rw[cq Wg];rw[cq Wg];rw[cq Wg];rw[cq Wg];rw[hO rfl]
def adI:cl aM bq aG av cJ dH bP "#kept.<locals>.<lambda>" = dH:=by unfold cl;rw[cq Wg];rw[cq Wg];rw[cq Wg];rw[cq Wg];rw[cq Wg];rw[hO rfl]
def Vx:cl aM bq aG av cJ dH bP "#goable.<locals>.<lambda>" = bP:=by unfold cl;rw[cq Wg];rw[cq Wg];rw[cq Wg];rw[cq Wg];rw[cq Wg];rw[cq Wg];rw[hO rfl]
def ahT:cl aM bq aG av cJ dH bP "Chart" = aM:=by unfold cl;rw[hO rfl]
def alZ:cl aM bq aG av cJ dH bP "Tree" = bq:=by unfold cl;rw[cq Wg];rw[hO rfl]
def adJ:cl aM bq aG av cJ dH bP "Runner" = aG:=by unfold cl;rw[cq Wg];rw[cq Wg];rw[hO rfl]
def YQ:cl aM bq aG av cJ dH bP "NestRun" = av:=by unfold cl;rw[cq Wg];rw[cq Wg];rw[cq Wg];rw[hO rfl]
def al0{x:Str}(h:Nu x=true)(h0:cl aM bq aG av cJ dH bP x≠0):(cl aM bq aG av cJ dH bP x,O2 x)∈([(cJ,"_law_chart.<locals>.<lambda>"),(dH,"kept.<locals>.<lambda>"),(bP,"goable.<locals>.<lambda>")]:Co):=by
 unfold cl at h0 ⊢;rw[cq (λe=>by rw[e]at h;exact absurd h Wg)]at h0 ⊢;rw[cq (λe=>by rw[e]at h;exact absurd h Wg)]at h0 ⊢;rw[cq (λe=>by rw[e]at h;exact absurd h Wg)]at h0 ⊢;rw[cq (λe=>by rw[e]at h;exact absurd h Wg)]at h0 ⊢;by_cases b:x="#_law_chart.<locals>.<lambda>"
 .rw[hO b,b,show O2 ("#_law_chart.<locals>.<lambda>":Str)="_law_chart.<locals>.<lambda>" by decide +kernel];simp
 rw[cq b]at h0 ⊢;by_cases a:x="#kept.<locals>.<lambda>"
 .rw[hO a,a,show O2 ("#kept.<locals>.<lambda>":Str)="kept.<locals>.<lambda>" by decide +kernel];simp
 rw[cq a]at h0 ⊢;by_cases c:x="#goable.<locals>.<lambda>"
 .rw[hO c,c,show O2 ("#goable.<locals>.<lambda>":Str)="goable.<locals>.<lambda>" by decide +kernel];simp
 rw[cq c]at h0 ⊢;exact absurd rfl h0
theorem all_mk{l:PySem.W.OpenLaw}{w:World}{K:Frag}{h:Heap}{mg:Bz}{T0:BS}{fa Ox YS bo Vy sQ bj YT YV Dh N ae qC RD b7 b6 bg b5 b4 FL Km Oz b0 Vz bx Am VA bc Kn FN Di bt VB ab OB cP FP YW An bb Ko cx Kp Ao cw br Kq Dj bp OD Aq VC Kr Ks cv jz mK X mL kR oh mO kT aa:Addr}(g:K.In h)(G:h.Ns mainGlobals mg)(c1:mg "law" = some (.ref fa))
  {hI ew eu ht VD er ep en RG dy du RH cp fT fR el fI CW yj lS uJ Rz Kd vZ tK JD Yi Bd oV wc lW oO NM nJ fA VF Rt tP Yq C6 Rh Bj tQ Ru Yy Br wK YD EA tU J6 Bs Bt Rw Dk Ku My Kv Gi Mz Kw Gj Z:Qa0}
  (RJ:j7 K "Chart" aM) (Kx:plainGet K aM Str.empty=true) (Ky:hasDictIn K aM=true) (Kz:plainOver K aM=true) (KC:findIn K QcN "__setattr__" = some Qen) (KD:makesIn K aM=true) (KG:keepIn K QcN=true)
  (D:findIn K QcN "boxes" = some none)
  (kB:findIn K QcN "names" = some none)
  (r:findIn K QcN "tree" = some none)
  (sR:findIn K QcN "ins" = some none)
  (qD:findIn K QcN "outs" = some none)
  (B:findIn K QcN "ways" = some none)
  (YX:j7 K "Tree" bq) (RK:plainGet K bq Str.empty=true) (RL:hasDictIn K bq=true) (RM:plainOver K bq=true) (RN:findIn K Qfg "__setattr__" = some Qen) (RP:makesIn K bq=true) (RQ:keepIn K Qfg=true)
  (z:findIn K Qfg "kinds" = some none)
  (P:findIn K Qfg "elders" = some none)
  (oi:findIn K Qfg "starts" = some none)
  (KH:j7 K "Runner" aG) (ED:plainGet K aG Str.empty=true) (EE:hasDictIn K aG=true) (EF:plainOver K aG=true) (EG:findIn K QcO "__setattr__" = some Qen) (OG:makesIn K aG=true) (OI:keepIn K QcO=true)
  (yG:findIn K QcO "place" = some none)
  (As:findIn K QcO "past" = some none)
  (yH:findIn K QcO "boxes" = some none)
  (qe:findIn K QcO "first_rows" = some none)
  (EH:j7 K "NestRun" av) (Bu:plainGet K av Str.empty=true) (Bv:hasDictIn K av=true) (Bw:plainOver K av=true) (By:findIn K Qbl "__setattr__" = some Qen) (BD:makesIn K av=true) (BE:keepIn K Qbl=true)
  (kU:findIn K Qbl "chart" = some none)
  (R:findIn K Qbl "place" = some none)
  (jO:findIn K Qbl "past" = some none)
  (F:findIn K Qbl "boxes" = some none)
  (g9:findIn K Qbl "first_rows" = some none)
  (EI:j7 K "_law_cell_at" Ox) (hH:jq K "_law_cell_at" "_law_cell_at" D9 Ox hI)
  (YY:j7 K "_law_take" YS) (C:jq K "_law_take" "_law_take" XU YS ew)
  (YZ:j7 K "_law_line" bo) (ek:jq K "_law_line" "_law_line" XW bo eu)
  (KJ:j7 K "_law_elders" Vy) (hq:jq K "_law_elders" "_law_elders" Jl Vy ht)
  (yJ:findIn K Qfg "__init__" = some (some (.ref sQ))) (yK:isFn K (.ref sQ)=true) (FQ:jq K "__init__" "Tree.__init__" xV sQ VD)
  (Y0:j7 K "_law_tree" bj) (ej:jq K "_law_tree" "_law_tree" Qv bj er)
  (Y3:j7 K "_law_term" YT) (RT:jq K "_law_term" "_law_term" X3 YT ep)
  (Y4:j7 K "_law_deed" YV) (RV:jq K "_law_deed" "_law_deed" X4 YV en)
  (wL:j7 K "_law_some_deeds" Dh) (RW:jq K "_law_some_deeds" "_law_some_deeds" ql Dh RG)
  (ho:j7 K "_law_ask" N) (O:jq K "_law_ask" "_law_ask" NI N dy)
  (hn:j7 K "_law_way" ae) (dt:jq K "_law_way" "_law_way" Ki ae du)
  (wM:findIn K QcN "__init__" = some (some (.ref qC))) (wO:isFn K (.ref qC)=true) (Dl:jq K "__init__" "Chart.__init__" vS qC RH)
  (RX:j7 K "_law_chart" RD) (RZ:jq K "_law_chart" "_law_chart" G7 RD cp)
  {zT:Addr} {hl:Dx} {VG:CS} {hk:Cn} (KL:cp.code=.ref zT) (VH:K.lookup zT=some ⟨.type "code",hl,.fields VG,hk⟩) (VJ:VG[11]? = some (.ref cJ)) (Dm:codeHdIn K zT cJ=true) (KN:cJ≠0) (KP:K.lookup cJ=none) (KQ:cJ∈T0)
  (R0:j7 K "_law_lists" b7) (fy:jq K "_law_lists" "_law_lists" QH b7 fT)
  (R1:j7 K "_law_whole" b6) (fw:jq K "_law_whole" "_law_whole" G8 b6 fR)
  (Y5:j7 K "_law_walk" bg) (ei:jq K "_law_walk" "_law_walk" QL bg el)
  (R3:j7 K "_law_turns" b5) (fv:jq K "_law_turns" "_law_turns" G9 b5 fI)
  (R4:j7 K "inner" b4) (fu:jq K "inner" "inner" Hf b4 CW)
  (yL:j7 K "opened_in" FL) (VL:jq K "opened_in" "opened_in" yh FL yj)
  (KR:j7 K "opened" Km) (Dn:jq K "opened" "opened" Ju Km lS)
  (EJ:j7 K "in_rows" Oz) (hG:jq K "in_rows" "in_rows" Ei Oz uJ)
  (R5:j7 K "begun" b0) (ft:jq K "begun" "begun" QS b0 Rz)
  (KS:j7 K "firsts" Vz) (hj:jq K "firsts" "firsts" Jw Vz Kd)
  (R6:j7 K "value" bx) (fk:jq K "value" "value" QV bx vZ)
  (tY:j7 K "with_number" Am) (MA:jq K "with_number" "with_number" tG Am tK)
  (KW:j7 K "redone" VA) (g4:jq K "redone" "redone" Jy VA JD)
  (Y6:j7 K "done" bc) (eh:jq K "done" "done" Ye bc Yi)
  (BF:j7 K "all_done" Kn) (Y7:jq K "all_done" "all_done" Bb Kn Bd)
  (yM:j7 K "performed" FN) (VM:jq K "performed" "performed" yo FN oV)
  (wQ:j7 K "has_target" Di) (R7:jq K "has_target" "has_target" v8 Di wc)
  (R8:j7 K "above" bt) (fg:jq K "above" "above" Q0 bt lW)
  (KY:j7 K "within" VB) (g0:jq K "within" "within" JH VB oO)
  (gN:j7 K "top" ab) (dr:jq K "top" "top" NO ab NM)
  (EK:j7 K "way_top" OB) (hF:jq K "way_top" "way_top" En OB nJ)
  (R9:j7 K "depth" cP) (ff:jq K "depth" "depth" Q8 cP fA)
  (yN:j7 K "tops_meet" FP) (VN:jq K "tops_meet" "tops_meet" yt FP VF)
  (Y8:j7 K "kept" YW) (Y9:jq K "kept" "kept" Ra YW Rt)
  {EB:Addr} {fe:Dx} {cn:CS} {fb:Cn} (Sb:Rt.code=.ref EB) (hL:K.lookup EB=some ⟨.type "code",fe,.fields cn,fb⟩) (hK:cn[11]? = some (.ref dH)) (Hl:codeHdIn K EB dH=true) (Sd:dH≠0) (Se:K.lookup dH=none) (Sf:dH∈T0)
  (tZ:j7 K "open_leaves" An) (MB:jq K "open_leaves" "open_leaves" nY An tP)
  (Za:j7 K "fits" bb) (eg:jq K "fits" "fits" Yn bb Yq)
  (KZ:j7 K "goable" Ko) (K0:jq K "goable" "goable" C5 Ko C6)
  {uP:Addr} {hE:Dx} {OJ:CS} {hC:Cn} (EL:C6.code=.ref uP) (OL:K.lookup uP=some ⟨.type "code",hE,.fields OJ,hC⟩) (OO:OJ[11]? = some (.ref bP)) (zU:codeHdIn K uP bP=true) (ER:bP≠0) (EV:K.lookup bP=none) (EW:bP∈T0)
  (Sg:j7 K "holds" cx) (e8:jq K "holds" "holds" Rc cx Rh)
  (BG:j7 K "all_hold" Kp) (Zb:jq K "all_hold" "all_hold" Bg Kp Bj)
  (t6:j7 K "number_asks" Ao) (MC:jq K "number_asks" "number_asks" tN Ao tQ)
  (Sh:j7 K "picks" cw) (e6:jq K "picks" "picks" Ri cw Ru)
  (Zc:j7 K "left" br) (ef:jq K "left" "left" Rk br Yy)
  (BH:j7 K "all_left" Kq) (Zd:jq K "all_left" "all_left" Bk Kq Br)
  (wR:j7 K "remembered" Dj) (Si:jq K "remembered" "remembered" wF Dj wK)
  (Ze:j7 K "road" bp) (ee:jq K "road" "road" YB bp YD)
  (EX:j7 K "entered" OD) (hB:jq K "entered" "entered" Ey OD EA)
  (t7:j7 K "all_entered" Aq) (MD:jq K "all_entered" "all_entered" tS Aq tU)
  (K1:j7 K "heeded" VC) (gM:jq K "heeded" "heeded" J3 VC J6)
  (BI:j7 K "out_rows" Kr) (Zf:jq K "out_rows" "out_rows" Bm Kr Bs)
  (BJ:j7 K "way_rows" Ks) (Zg:jq K "way_rows" "way_rows" Bp Ks Bt)
  (Sj:j7 K "moved" cv) (e5:jq K "moved" "moved" Hj cv Rw)
  (mP:findIn K Qbl "step_at" = some (some (.ref jz))) (mQ:isFn K (.ref jz)=true) (mR:jq K "step_at" "NestRun.step_at" mj jz Dk)
  (mS:findIn K Qbl "dealt" = some (some (.ref mK))) (mU:isFn K (.ref mK)=true) (mV:jq K "dealt" "Runner.dealt" rM mK Ku)
  (Au:findIn K QcO "__init__" = some (some (.ref X))) (Av:isFn K (.ref X)=true) (t8:jq K "__init__" "Runner.__init__" tV X My)
  (rV:specialIn K QcO "__getattribute__" = some Qk7) (rW:readsIn K aG Qh7=true) (rX:findCls K QcO Qh7 "__init__" = some (.val (.ref X)))
  (rY:findIn K Qbl "__init__" = some (some (.ref mL))) (rZ:isFn K (.ref mL)=true) (yO:jq K "__init__" "NestRun.__init__" rO mL Kv)
  (pN:findIn K Qbl "state" = some (some (.ref kR))) (pP:isFn K (.ref kR)=true) (pQ:jq K "state" "NestRun.state" pJ kR Gi)
  (t9:findIn K Qbl "feed" = some (some (.ref oh))) (ua:isFn K (.ref oh)=true) (uc:jq K "feed" "Runner.feed" tX oh Mz)
  (r6:findIn K Qbl "story" = some (some (.ref mO))) (r9:isFn K (.ref mO)=true) (sd:jq K "story" "Runner.story" rQ mO Kw)
  (pR:findIn K Qbl "moods" = some (some (.ref kT))) (pS:isFn K (.ref kT)=true) (pT:jq K "moods" "NestRun.moods" pL kT Gj)
  (cm:j7 K "law" aa) (L:jq K "law" "law" NL aa Z)
  (gA:nsIn K mainGlobals "len" = some none)
  (Sl:nsIn K mainGlobals "range" = some none)
  (Zh:nsIn K mainGlobals "list" = some none)
  (gz:nsIn K mainGlobals "int" = some none)
  (gy:nsIn K mainGlobals "str" = some none)
  (Sn:nsIn K mainGlobals "tuple" = some none)
  (K2:nsIn K mainGlobals "sorted" = some none)
  (wU:nsIn K mainGlobals "isinstance" = some none)
  (gx:nsIn K mainGlobals "all" = some none)
  (gw:nsIn K mainGlobals "set" = some none)
  (gv:nsIn K mainGlobals "min" = some none)
  (gr:nsIn K mainGlobals "max" = some none)
  (gq:nsIn K mainGlobals "sum" = some none)
  (yP:nsIn K mainGlobals "enumerate" = some none)
  {gm:Tok} (Sq:nsIn K mainGlobals "AFTER" = some (some (.int 3 gm)))
  {cf:Addr} {gk:Dx} {Hg:Nat} {gh:Cn} {Zi Zj Zk Zm:Tok} (Ss:nsIn K mainGlobals "MARKS" = some (some (.ref cf))) (K3:K.lookup cf=some ⟨.type "tuple",gk,.seq #[.str "out" Zi,.str "keep" Zj,.str "way" Zk,.str "in" Zm] Hg,gh⟩)
  {hA:Tok} (K4:nsIn K mainGlobals "TARGET" = some (some (.int 4 hA)))
  {hz:Tok} (K5:nsIn K mainGlobals "SOURCE" = some (some (.int 0 hz)))
  (gg:nsIn K mainGlobals "any" = some none)
  {e4:Tok} (Zn:nsIn K mainGlobals "SIGN" = some (some (.int 1 e4)))
  {e3:Tok} (Zo:nsIn K mainGlobals "ASKS" = some (some (.int 2 e3)))
  (BK:nsIn K mainGlobals "reversed" = some none)
  {eT:Tok} (Zq:nsIn K mainGlobals "MODE" = some (some (.int 5 eT)))
  {gd:Tok} (Sv:nsIn K mainGlobals "DEEDS" = some (some (.int 3 gd)))
  {MF:Tok} (wV:nsIn K mainGlobals "MOST_SIGNS" = some (some (.int 8 MF)))
  (ud:dH≠cJ) (pU:bP≠cJ) (se:bP≠dH)
  : ∃(fd:Qa0) (ts:Co),(∀p∈ts,p.1∈T0/\ts.lookup p.1=some p.2/\K.lookup p.1=none/\∃c,CodeHd h c p.1)/\(∀(s:Qr) (v:Value),BindsTo s fd ⟨[v],[]⟩ [("script",v)])/\∀base:Heap,K.In base->base.Ns mainGlobals mg->Ik mg base->d7 l.prog w K mg base mX 53 fa fd ["script"] (spT K ts 1 zQ zR zS):=by
 have e:=c1.symm.trans (lj g G cm);cases e;obtain⟨i,rfl,rfl,rfl,rfl,rfl,rfl,rfl,c2⟩:∃i:Str->Addr,aM=i "Chart" /\ bq=i "Tree" /\ aG=i "Runner" /\ av=i "NestRun" /\ cJ=i "#_law_chart.<locals>.<lambda>" /\ dH=i "#kept.<locals>.<lambda>" /\ bP=i "#goable.<locals>.<lambda>" /\ ∀x,Nu x=true->i x≠0->(i x,O2 x)∈([(cJ,"_law_chart.<locals>.<lambda>"),(dH,"kept.<locals>.<lambda>"),(bP,"goable.<locals>.<lambda>")]:Co):=⟨(cl aM bq aG av cJ dH bP),ahT.symm,alZ.symm,adJ.symm,YQ.symm,YN.symm,adI.symm,Vx.symm,λx=>al0⟩;have T:=lj g G YY;have S:=C.binds (ps:=["pot","many"]) λ_ _ _ _ _ _=>by refine iF ?_;exactλ_ _=>rfl
 have VP:=FQ.binds (ps:=["self","kinds","elders","starts"]) λ_ _ _ _ _ _=>by refine iF ?_;exactλ_ _ _ _=>rfl
 have ax:=lj g G Y3;have aw:=RT.binds (ps:=["pot","many"]) λ_ _ _ _ _ _=>by refine iF ?_;exactλ_ _=>rfl
 have ar:=lj g G Y4;have ag:=RV.binds (ps:=["pot","many","heard"]) λ_ _ _ _ _ _=>by refine iF ?_;exactλ_ _ _=>rfl
 have dq:=lj g G ho;have dn:=O.binds (ps:=["pot","many","moods"]) λ_ _ _ _ _ _=>by refine iF ?_;exactλ_ _ _=>rfl
 have Sw:=Dl.binds (ps:=["self","boxes","names","tree","ins","outs","ways"]) λ_ _ _ _ _ _=>by refine iF ?_;exactλ_ _ _ _ _ _ _=>rfl
 have eR:=lj g G RX;have eP:=RZ.binds (ps:=["script"]) λ_ _ _ _ _ _=>by refine iF ?_;exactλ_=>rfl
 have VQ:=lj g G KR;have VR:=Dn.binds (ps:=["tree","memory","mood","mode"]) λ_ _ _ _ _ _=>by refine iF ?_;exactλ_ _ _ _=>rfl
 have ed:=lj g G Y8;have ec:=Y9.binds (ps:=["chart","found"]) λ_ _ _ _ _ _=>by refine iF ?_;exactλ_ _=>rfl
 have gc:=lj g G KZ;have f5:=K0.binds (ps:=["chart","opens","leaf","sign"]) λ_ _ _ _ _ _=>by refine iF ?_;exactλ_ _ _ _=>rfl
 have Dp:=mR.binds (ps:=["self","sign"]) λ_ _ _ _ _ _=>by refine iF ?_;exactλ_ _=>rfl
 have yQ:=mV.binds (ps:=["self","called"]) λ_ _ _ _ _ _=>by refine iF ?_;exactλ_ _=>rfl
 have MG:=t8.binds (ps:=["self","boxes","place","script"]) λ_ _ _ _ _ _=>by refine iF ?_;exactλ_ _ _ _=>rfl
 have K6:=yO.binds (ps:=["self","chart"]) λ_ _ _ _ _ _=>by refine iF ?_;exactλ_ _=>rfl
 have Gk:=pQ.binds (ps:=["self"]) λ_ _ _ _ _ _=>by refine iF ?_;exactλ_=>rfl
 have MH:=uc.binds (ps:=["self","sign"]) λ_ _ _ _ _ _=>by refine iF ?_;exactλ_ _=>rfl
 have K7:=sd.binds (ps:=["self"]) λ_ _ _ _ _ _=>by refine iF ?_;exactλ_=>rfl
 have Gm:=pT.binds (ps:=["self"]) λ_ _ _ _ _ _=>by refine iF ?_;exactλ_=>rfl
 have hM:=lj g G cm;have hN:=L.binds (ps:=["script"]) λ_ _ _ _ _ _=>by refine iF ?_;exactλ_=>rfl
 have eM:=lj g G RJ;have aA:jP K (i "Chart"):=⟨Kx,Ky,Kz,KC⟩;have eb:=lj g G YX;have bO:jP K (i "Tree"):=⟨RK,RL,RM,RN⟩;have f3:=lj g G KH;have hJ:jP K (i "Runner"):=⟨ED,EE,EF,EG⟩;have hy:=lj g G EH;have aD:jP K (i "NestRun"):=⟨Bu,Bv,Bw,By⟩;have o:=mu g G gA;have I:=mu g G Sl;have n:=mu g G Zh;have M:=mu g G gz;have Y:=mu g G gy;have Ho:=mu g G Sn;have A:=mu g G K2;have Sx:=mu g G wU;have dk:=mu g G gx;have dj:=mu g G gw;have df:=mu g G gv;have de:=mu g G gr;have dc:=mu g G gq;have FT:=mu g G yP;have eJ:∃u,mg "AFTER" = some (.int 3 u):=⟨_,lj g G Sq⟩;have eI:=lj g G Ss;have Dq:∃u,mg "TARGET" = some (.int 4 u):=⟨_,lj g G K4⟩;have K8:∃u,mg "SOURCE" = some (.int 0 u):=⟨_,lj g G K5⟩;have da:=mu g G gg;have ea:∃u,mg "SIGN" = some (.int 1 u):=⟨_,lj g G Zn⟩;have ba:∃u,mg "ASKS" = some (.int 2 u):=⟨_,lj g G Zo⟩;have K9:=mu g G BK;have a0:∃u,mg "MODE" = some (.int 5 u):=⟨_,lj g G Zq⟩;have eH:∃u,mg "DEEDS" = some (.int 3 u):=⟨_,lj g G Sv⟩;have Sy:∃u,mg "MOST_SIGNS" = some (.int 8 u):=⟨_,lj g G wV⟩;refine⟨Z,[((i "#_law_chart.<locals>.<lambda>"),"_law_chart.<locals>.<lambda>"),((i "#kept.<locals>.<lambda>"),"kept.<locals>.<lambda>"),((i "#goable.<locals>.<lambda>"),"goable.<locals>.<lambda>")],?tabs,?bind,λbase kb _ bl=>?_⟩
 case tabs=>
  intro p f;simp only[hR,ke,or_false]at f;obtain rfl|rfl|rfl:=f
  .exact⟨KQ,by simp only[l0,G2],KP,zT,Ll g Dm⟩
  .exact⟨Sf,by simp only[l0,G2,beq_false_of_ne ud],Se,EB,Ll g Hl⟩
  .exact⟨EW,by simp only[l0,G2,beq_false_of_ne pU,beq_false_of_ne se],EV,uP,Ll g zU⟩
 case bind=>
  obtain⟨oc,od,kV,doc,pm,an,iR,ct,osl,rfl,lk,k9⟩:=L.ex;exactλs v=>.of_eq rfl
 have q:=@ap6 l.prog w mg base K h i g G;have E1:=q 0 oE oF oG hH vN.1 EI λd u p=>adt (by exact⟨u,gL vN 0,gL vN 1,gG vN 0,o⟩) p;have U:d7 l.prog w K mg base mX 1 YS _ ["pot","many"] (mI K i 2 lN pre_take lO kg):=AO C Cy.1 (λa f=>by
  obtain⟨j,p1,p2⟩:=a;dsimp only [lN,kg]
  repeat (first|exact trivial|refine⟨rfl,?_⟩)) λiR k outer s H E b a d f=>by
  obtain⟨j,p1,p2⟩:=a;refine aqG ?_ j p1 p2 f;exact⟨⟨⟨Cy.nd,rfl,.never⟩,d.units⟩,gL Cy 0,gL Cy 1,gL Cy 2⟩
 have d6:=q 0 Ji Jj Jk ek GY.1 YZ λd u p=>aqI (by exact⟨u,gL GY 0,gL GY 1,gL GY 2⟩) p;have hh:=q 1 A2 A3 A4 hq iJ.1 KJ λd u p=>ag8 (by exact⟨u,gL iJ 0,gL iJ 1,gL iJ 2,gL iJ 3,gL iJ 4,gL iJ 5,gG iJ 0,gG iJ 1,gG iJ 2,gG iJ 3,I,di d6 d,o,di E1 d⟩) p;have VW:d7 l.prog w K mg base mX 1 sQ _ ["self","kinds","elders","starts"] (uj K i "Tree" 4 Ac Ad Ae):=Pj FQ i7.1 λiR k outer s H E b a y d f=>by
  obtain⟨j,p1,p2⟩:=a;refine Vb ?_ j p1 p2 y f;exact⟨⟨⟨i7.nd,rfl,.never⟩,d.units⟩,gL i7 0,gL i7 1,gL i7 2,gL i7 3,gG i7 0,n,bO,z,P,oi⟩
 have d5:=q 2 Jo Jp Jq ej alc Y0 λd u p=>aqO (by exact⟨u,ow iA 0,ow iA 1,ow iA 2,zV iA 3,bU iA 3 rfl,ow iA 4,ow iA 5,zV iA 6,bU iA 6 rfl,ow iA 7,oZ iA 8,oZ iA 9,oZ iA 10,oZ iA 11,oZ iA 12,oZ iA 13,di hh d,I,o,di E1 d,M,⟨⟨_,_,_,⟨RP,yJ,yK,RQ⟩,VW,eb,VP⟩,d.mono Wl⟩⟩) p;have aT:d7 l.prog w K mg base mX 2 YT _ ["pot","many"] (mI K i 2 uD xY uE qY):=AO RT vO.1 (λa f=>by
  obtain⟨j,p1,p2⟩:=a;dsimp only [uD,qY]
  repeat (first|exact trivial|refine⟨rfl,?_⟩)) λiR k outer s H E b a d f=>by
  obtain⟨j,p1,p2⟩:=a;refine aqQ ?_ j p1 p2 f;exact⟨⟨⟨vO.nd,rfl,.never⟩,d.units⟩,gL vO 0,gL vO 1,gL vO 2,gL vO 3,gG vO 0,⟨⟨_,_,_,U,T,C.kp,S⟩,d.mono Wl⟩⟩
 have aI:d7 l.prog w K mg base mX 3 YV _ ["pot","many","heard"] (mI K i 3 xZ CD x6 uF):=AO RV lP.1 (λa f=>by
  obtain⟨j,p1,p2,m⟩:=a;dsimp only [xZ,uF]
  repeat (first|exact trivial|refine⟨rfl,?_⟩)) λiR k outer s H E b a d f=>by
  obtain⟨j,p1,p2,m⟩:=a;refine aqS ?_ j p1 p2 m f;exact⟨⟨⟨lP.nd,rfl,.never⟩,d.units⟩,gL lP 0,gL lP 1,gL lP 2,gL lP 3,gL lP 4,gG lP 0,gG lP 1,gG lP 2,gG lP 3,⟨⟨_,_,_,U,T,C.kp,S⟩,d.mono Wl⟩,⟨⟨_,_,_,aT,ax,RT.kp,aw⟩,d.mono Wl⟩,Y,o⟩
 have Sz:=q 3 qZ q8 rg RW Ma wL λd u p=>Qz (by exact⟨u,ow dW 0,zV dW 1,bU dW 1 rfl,zV dW 2,bU dW 2 rfl,zV dW 3,bU dW 3 rfl,oZ dW 4,oZ dW 5,oZ dW 6,Ho,I,⟨⟨_,_,_,U,T,C.kp,S⟩,d.mono Wl⟩,⟨⟨_,_,_,aI,ar,RV.kp,ag⟩,d.mono Wl⟩⟩) p;have c8:d7 l.prog w K mg base mX 3 N _ ["pot","many","moods"] (mI K i 3 GZ QB G0 CG):=AO O vR.1 (λa f=>by
  obtain⟨j,p1,p2,m⟩:=a;dsimp only [GZ,CG]
  repeat (first|exact trivial|refine⟨rfl,?_⟩)) λiR k outer s H E b a d f=>by
  obtain⟨j,p1,p2,m⟩:=a;refine avm ?_ j p1 p2 m f;exact⟨⟨⟨vR.nd,rfl,.never⟩,d.units⟩,gL vR 0,gL vR 1,gL vR 2,gL vR 3,gL vR 4,gG vR 0,gG vR 1,⟨⟨_,_,_,U,T,C.kp,S⟩,d.mono Wl⟩,⟨⟨_,_,_,aT,ax,RT.kp,aw⟩,d.mono Wl⟩⟩
 have c5:=q 3 G3 G4 G5 dt aqT hn λd u p=>avp (by exact⟨u,ow gR 0,zV gR 1,bU gR 1 rfl,zV gR 2,bU gR 2 rfl,zV gR 3,bU gR 3 rfl,ow gR 4,zV gR 5,bU gR 5 rfl,zV gR 6,bU gR 6 rfl,zV gR 7,bU gR 7 rfl,ow gR 8,ow gR 9,ow gR 10,ow gR 11,ow gR 12,oZ gR 13,oZ gR 14,oZ gR 15,oZ gR 16,o,⟨⟨_,_,_,U,T,C.kp,S⟩,d.mono Wl⟩,I,Ho,⟨⟨_,_,_,c8,dq,O.kp,dn⟩,d.mono Wl⟩,⟨⟨_,_,_,aI,ar,RV.kp,ag⟩,d.mono Wl⟩⟩) p;have SD:d7 l.prog w K mg base mX 1 qC _ ["self","boxes","names","tree","ins","outs","ways"] (uj K i "Chart" 7 yb yc yd):=Pj Dl dY.1 λiR k outer s H E b a y d f=>by
  obtain⟨j,p1,p2,m,t,J⟩:=a;refine QF ?_ j p1 p2 m t J y f;exact⟨⟨⟨dY.nd,rfl,.never⟩,d.units⟩,gL dY 0,gL dY 1,gL dY 2,gL dY 3,gL dY 4,gL dY 5,gL dY 6,gG dY 0,n,aA,aD,D,F,kB,r,sR,qD,B⟩
 have eF:d7 l.prog w K mg base mX 5 RD _ ["script"] (Ny K i 1 zx zy zA):=Ij RZ Vf λiR k outer s H E b a k9 d f=>by
  refine ali ?_ f;exact⟨⟨⟨Vf.nd,rfl,.never⟩,d.units⟩,zV cN 0,bU cN 0 rfl,ow cN 1,zV cN 2,bU cN 2 rfl,ow cN 3,zV cN 4,bU cN 4 rfl,ow cN 5,zV cN 6,bU cN 6 rfl,zV cN 7,bU cN 7 rfl,ow cN 8,ow cN 9,ow cN 10,ow cN 11,ow cN 12,oZ cN 13,oZ cN 14,oZ cN 15,oZ cN 16,oZ cN 17,oZ cN 18,oZ cN 19,di E1 d,⟨⟨_,_,_,U,T,C.kp,S⟩,d.mono Wl⟩,di d5 d,o,I,⟨⟨_,_,_,⟨KD,wM,wO,KG⟩,SD,eM,Sw⟩,d.mono Wl⟩,A,Y,di Sz d,di c5 d,bO,z,P,MU bl kb k9 KL (Dm) (KN),PB d,d⟩
 have eE:=IS eF eR RZ.kp eP;have eD:=q 0 Ec Ed Ef fy uH.1 R0 λd u p=>alk (by exact⟨u,gL uH 0,gG uH 0,gG uH 1,gG uH 2,gG uH 3,Sx,Ho,o,dk,n⟩) p;have eC:=q 0 zB zC zE fw ahj R1 λd u p=>alo (by exact⟨u,zV iK 0,bU iK 0 rfl,ow iK 1,zV iK 2,bU iK 2 rfl,zV iK 3,bU iK 3 rfl,ow iK 4,ow iK 5,oZ iK 6,oZ iK 7,oZ iK 8,oZ iK 9,A,o,dj,I,bO,z,P⟩) p;have d4:=q 0 CP CQ CT ei alq Y5 λd u p=>aq4 (by exact⟨u,ow kJ 0,ow kJ 1,ow kJ 2,ow kJ 3,ow kJ 4,ow kJ 5,ow kJ 6,zV kJ 7,bU kJ 7 rfl,oZ kJ 8,oZ kJ 9,oZ kJ 10,n,M,A⟩) p;have eA:=q 0 Eg Eh zF fv aho R3 λd u p=>alv (by exact⟨u,zV jK 0,bU jK 0 rfl,zV jK 1,bU jK 1 rfl,zV jK 2,bU jK 2 rfl,ow jK 3,oZ jK 4,oZ jK 5,oZ jK 6,oZ jK 7,df,de,o,I,dc⟩) p;have cc:=q 0 zG qI zH fu ahp R4 λd u p=>alx (by exact⟨u,ow CV 0,zV CV 1,bU CV 1 rfl,oZ CV 2,FT,bO,P⟩) p;have VX:=q 1 tE tF nT VL i9.1 yL λd u p=>Vi (by exact⟨u,gL i9 0,gL i9 1,gL i9 2,gL i9 3,gL i9 4,gG i9 0,di cc d,bO,z,oi⟩) p;have hx:∀dd,d7 l.prog w K mg base mX (3+dd) Km lS ["tree","memory","mood","mode"] (Ny K i 4 rA (k6 dd) ny):=by
  intro dd
  induction dd using Nat.strongRecOn with
  | ind dd ih=>
   rw[show 3+dd=(2+dd)+1 by lia];exact vf Dn iL.1 λiR k outer s H E b a d f=>by
    refine ahr (dd:=dd) ?_ f;exact⟨⟨⟨iL.nd,rfl,.never⟩,d.units⟩,gL iL 0,gL iL 1,gL iL 2,gL iL 3,gL iL 4,gL iL 5,gL iL 6,gG iL 0,gG iL 1,di VX d We,λd' hd=>⟨⟨_,_,_,ih d' hd,VQ,Dn.kp,VR⟩,d.mono We⟩⟩
 have hg:=hx 40;have VY:=IS hg VQ Dn.kp VR;have OQ:=q 0 sL oJ oK hG rB.1 EJ λd u p=>adz (by exact⟨u,gL rB 0,gL rB 1,gL rB 2,gL rB 3,aA,sR⟩) p;have ez:=q 43 Ek El zI ft rC.1 R5 λd u p=>alz (by exact⟨u,gL rC 0,gL rC 1,gL rC 2,gG rC 0,gG rC 1,gG rC 2,o,di VY d,di OQ d,aA,r,kB⟩) p;have hc:=q 0 A7 vX vY hj Ot.1 KS λd u p=>aht (by exact⟨u,gL Ot 0,aA,aD,D,F⟩) p;have cb:=q 0 zJ uK zK fk yk.1 R6 λd u p=>alB (by exact⟨u,gL yk 0,gL yk 1,gL yk 2,gL yk 3⟩) p;have MJ:=q 0 pA pB kL MA iM.1 tY λd u p=>Mf (by exact⟨u,gL iM 0,gL iM 1,gL iM 2,gL iM 3,gG iM 0,n⟩) p;have hb:=q 1 A8 A9 Ba g4 uL.1 KW λd u p=>ahv (by exact⟨u,gL uL 0,gL uL 1,gG uL 0,gG uL 1,di MJ d,eJ⟩) p;have d3:=q 2 JA JB JC eh v5.1 Y6 λd u p=>aq7 (by exact⟨u,gL v5 0,gL v5 1,gL v5 2,gL v5 3,gG v5 0,gG v5 1,di cb d,di hb d⟩) p;have Zr:=q 3 v7 qm qo Y7 gB.1 BF λd u p=>Yj (by exact⟨u,gL gB 0,gL gB 1,gL gB 2,gL gB 3,gL gB 4,gL gB 5,gL gB 6,gG gB 0,gG gB 1,n,di d3 d⟩) p;have FU:=q 4 ki jm nU VM eK.1 yM λd u p=>Vp (by exact⟨u,gL eK 0,gL eK 1,gL eK 2,gL eK 3,gL eK 4,gL eK 5,gL eK 6,gG eK 0,gG eK 1,gG eK 2,n,ayN eI K3,di Zr d⟩) p;have Dr:=q 0 lU iN lV R7 nV.1 wQ λd u p=>QZ (by exact⟨u,gL nV 0,gL nV 1,gG nV 0,Dq,aA,B⟩) p;have Ds:=q 0 nA nB nE fg yq.1 R8 λd u p=>alF (by exact⟨u,gL yq 0,gL yq 1,gL yq 2,gL yq 3,bO,P⟩) p;have Dt:=q 1 nF nG nI g0 uM.1 KY λd u p=>ahz (by exact⟨u,gL uM 0,gL uM 1,gL uM 2,gG uM 0,di Ds d⟩) p;have c4:=q 2 Q6 Q7 Hh dr Be.1 gN λd u p=>avQ (by exact⟨u,gL Be 0,gL Be 1,gL Be 2,gL Be 3,gG Be 0,gG Be 1,di Ds d,di Dt d,bO,z⟩) p;have E3:=q 3 oR ly oS hF k7.1 EK λd u p=>adB (by exact⟨u,gL k7 0,gL k7 1,gL k7 2,gG k7 0,gG k7 1,gG k7 2,di c4 d,K8,Dq,aA,B,r⟩) p;have ey:=q 1 Ep zL Er ff yr.1 R9 λd u p=>alH (by exact⟨u,gL yr 0,gL yr 1,gG yr 0,gG yr 1,o,di Ds d⟩) p;have VZ:=q 2 tL nW nX VN lX.1 yN λd u p=>Vs (by exact⟨u,gL lX 0,gL lX 1,gL lX 2,gG lX 0,di Dt d⟩) p;have d0:d7 l.prog w K mg base mX 5 YW _ ["chart","found"] (Ny K i 2 C1 C2 C3):=Ij Y9 abm λiR k outer s H E b a k9 d f=>by
  refine arb ?_ f;exact⟨⟨⟨abm.nd,rfl,.never⟩,d.units⟩,zV kM 0,bU kM 0 rfl,ow kM 1,ow kM 2,ow kM 3,ow kM 4,zV kM 5,bU kM 5 rfl,oZ kM 6,oZ kM 7,oZ kM 8,oZ kM 9,A,di Dr d,di E3 d,da,di ey d,K8,di VZ d,aA,r,B,MU bl kb k9 Sb (Hl) (Sd),PB d,d⟩
 have dV:=IS d0 ed Y9.kp ec;have MK:=q 0 pC pD kN MB JN tZ λd u p=>Mi (by exact⟨u,zV rD 0,bU rD 0 rfl,ow rD 1,aA,bO,z,r⟩) p;have dE:=q 0 JQ JR C4 eg Hi.1 Za λd u p=>ard (by exact⟨u,gL Hi 0,gL Hi 1,gL Hi 2⟩) p;have ha:d7 l.prog w K mg base mX 2 Ko _ ["chart","opens","leaf","sign"] (Ny K i 4 wk Bf rE):=Ij K0 Ov λiR k outer s H E b a k9 d f=>by
  refine ahG ?_ f;exact⟨⟨⟨Ov.nd,rfl,.never⟩,d.units⟩,zV dM 0,bU dM 0 rfl,ow dM 1,ow dM 2,ow dM 3,ow dM 4,ow dM 5,ow dM 6,zV dM 7,bU dM 7 rfl,oZ dM 8,oZ dM 9,oZ dM 10,oZ dM 11,oZ dM 12,oZ dM 13,oZ dM 14,di Ds d,FT,ea,K8,di dE d,ba,A,aA,B,r,MU bl kb k9 EL (zU) (ER),PB d,d⟩
 have g5:=IS ha gc K0.kp f5;have fo:=q 1 Es Et Eu e8 rG.1 Sg λd u p=>alK (by exact⟨u,gL rG 0,gL rG 1,gL rG 2,gL rG 3,gL rG 4,gG rG 0,di cb d⟩) p;have Zt:=q 2 wm wu qq Zb oU.1 BG λd u p=>Yu (by exact⟨u,gL oU 0,gL oU 1,gL oU 2,gG oU 0,di fo d⟩) p;have ML:=q 0 pF pG pH MC jL.1 t6 λd u p=>Ml (by exact⟨u,gL jL 0,gL jL 1,gG jL 0,gG jL 1,Ho,ba,aA,B⟩) p;have fm:=q 3 Ew Ex zM e6 iO.1 Sh λd u p=>alN (by exact⟨u,gL iO 0,gL iO 1,gL iO 2,gL iO 3,gL iO 4,gL iO 5,gL iO 6,gG iO 0,gG iO 1,gG iO 2,gG iO 3,gG iO 4,di MK d,di g5 d,di Zt d,di ML d,n⟩) p;have dC:=q 2 JX JY JZ ef alP Zc λd u p=>ark (by exact⟨u,zV zN 0,bU zN 0 rfl,ow zN 1,zV zN 2,bU zN 2 rfl,oZ zN 3,K9,di Dt d⟩) p;have Zu:=q 4 wC qu qv Zd g8.1 BH λd u p=>Yz (by exact⟨u,gL g8 0,gL g8 1,gL g8 2,gL g8 3,gL g8 4,gG g8 0,gG g8 1,gG g8 2,di dC d,di E3 d,A,aA,r⟩) p;have SG:=q 0 rH mh rJ Si fK.1 wR λd u p=>Rm (by exact⟨u,gL fK 0,gL fK 1,gL fK 2,gL fK 3,gL fK 4,gL fK 5,gL fK 6,gG fK 0,n,bO,P,z⟩) p;have dA:=q 1 J2 C8 yw ee qx.1 Ze λd u p=>aro (by exact⟨u,gL qx 0,gL qx 1,gL qx 2,gL qx 3,gL qx 4,gG qx 0,gG qx 1,gG qx 2,di Ds d,n,K9⟩) p;have hu:=q 43 sM sN sO hB eL.1 EX λd u p=>adD (by exact⟨u,gL eL 0,gL eL 1,gL eL 2,gL eL 3,gL eL 4,gL eL 5,gL eL 6,gL eL 7,gL eL 8,gG eL 0,gG eL 1,gG eL 2,gG eL 3,di dA d,di VY d,di cc d,A,bO,z⟩) p;have MN:=q 44 kO je kP MD cQ.1 t7 λd u p=>Mr (by exact⟨u,gL cQ 0,gL cQ 1,gL cQ 2,gL cQ 3,gL cQ 4,gL cQ 5,gG cQ 0,gG cQ 1,gG cQ 2,gG cQ 3,gG cQ 4,di hu d,di E3 d,Dq,a0,A,aA,B,r⟩) p;have V0:=q 2 wH rK rL gM nK.1 K1 λd u p=>ahM (by exact⟨u,gL nK 0,gL nK 1,gL nK 2,gG nK 0,gG nK 1,gG nK 2,a0,Dq,di Dt d,aA,bO,B,z,r⟩) p;have Zv:=q 3 wI qy qz Zf iS.1 BI λd u p=>YG (by exact⟨u,gL iS 0,gL iS 1,gL iS 2,gL iS 3,gL iS 4,gL iS 5,gG iS 0,di V0 d,aA,qD⟩) p;have Zw:=q 0 wJ qA qB Zg lz.1 BJ λd u p=>YJ (by exact⟨u,gL lz 0,gL lz 1,gL lz 2,gL lz 3,gG lz 0,eH,aA,B⟩) p;have fl:=q 45 zO zP uQ e5 ahN Sj λd u p=>alT (by exact⟨u,zV fj 0,bU fj 0 rfl,ow fj 1,ow fj 2,ow fj 3,ow fj 4,zV fj 5,bU fj 5 rfl,ow fj 6,ow fj 7,ow fj 8,oZ fj 9,oZ fj 10,oZ fj 11,oZ fj 12,oZ fj 13,oZ fj 14,oZ fj 15,di Zu d,di SG d,di MN d,di Zv d,di Zw d,di OQ d,A,di Dr d,di V0 d,aA,r⟩) p;have Du:d7 l.prog w K mg base mX 47 jz _ ["self","sign"] (Ny K i 2 j4 iB j5):=vf mR cz.1 λiR k outer s H E b a d f=>by
  refine Dc ?_ f;exact⟨⟨⟨cz.nd,rfl,.never⟩,d.units⟩,gL cz 0,gL cz 1,gL cz 2,gL cz 3,gL cz 4,gG cz 0,gG cz 1,gG cz 2,di dV d,di fm d,di fl d,aA,aD,R,kU,D,F⟩
 have yR:d7 l.prog w K mg base mX 48 mK _ ["self","called"] (mI K i 2 gH iP gI fB):=AO mV bM.1 (λa f=>by
  obtain⟨j,p1,p2,m,t,J,V⟩:=a;dsimp only [gH,fB]
  repeat (first|exact trivial|refine⟨rfl,?_⟩)) λiR k outer s H E b a d f=>by
  obtain⟨j,p1,p2,m,t,J,V⟩:=a;refine Ka ?_ j p1 p2 m t J V f;exact⟨⟨⟨bM.nd,rfl,.never⟩,d.units⟩,gL bM 0,gL bM 1,gL bM 2,gL bM 3,gL bM 4,gL bM 5,gL bM 6,gL bM 7,gG bM 0,gG bM 1,gG bM 2,gG bM 3,n,Sy,di FU d,o,⟨⟨_,_,_,⟨mP,mQ,mR.kp⟩,Du,Dp⟩,d.mono Wl,aD⟩,aA,aD,R,D,F⟩
 have MP:d7 l.prog w K mg base mX 49 X _ ["self","boxes","place","script"] (mI K i 4 jg pI jh gY):=AO t8 fM.1 (λa f=>by
  obtain⟨j,p1,p2,m,t⟩:=a;dsimp only [jg,gY]
  repeat (first|exact trivial|refine⟨rfl,?_⟩)) λiR k outer s H E b a d f=>by
  obtain⟨j,p1,p2,m,t⟩:=a;refine Mu ?_ j p1 p2 m t f;exact⟨⟨⟨fM.nd,rfl,.never⟩,d.units⟩,gL fM 0,gL fM 1,gL fM 2,gL fM 3,gL fM 4,gG fM 0,di FU d,⟨⟨_,_,_,⟨mS,mU,mV.kp⟩,yR,yQ⟩,d.mono Wl,aD⟩,aA,aD,R,jO,D,F,g9⟩
 have La:d7 l.prog w K mg base mX 51 mL _ ["self","chart"] (uj K i "NestRun" 2 uR uS uT):=Pj yO eO.1 λiR k outer s H E b a y d f=>by
  refine Ke ?_ a y f;exact⟨⟨⟨eO.nd,rfl,.never⟩,d.units⟩,gL eO 0,gL eO 1,gL eO 2,gG eO 0,gG eO 1,gG eO 2,di ez d,di hc d,⟨⟨_,_,_,⟨rV,rW,rX,t8.kp⟩,MP,f3,MG⟩,d.mono Wl⟩,aD,kU⟩
 have Gn:d7 l.prog w K mg base mX 1 kR _ ["self"] (Ny K i 1 mz mC mF):=vf pQ jV.1 λiR k outer s H E b a d f=>by
  refine Ge ?_ f;exact⟨⟨⟨jV.nd,rfl,.never⟩,d.units⟩,gL jV 0,gG jV 0,n,aA,aD,D,F,R⟩
 have MQ:d7 l.prog w K mg base mX 49 oh _ ["self","sign"] (mI K i 2 ji kQ jk gZ):=AO uc fN.1 (λa f=>by
  obtain⟨j,p1,p2,m,t,J,V⟩:=a;dsimp only [ji,gZ]
  repeat (first|exact trivial|refine⟨rfl,?_⟩)) λiR k outer s H E b a d f=>by
  obtain⟨j,p1,p2,m,t,J,V⟩:=a;refine Mw ?_ j p1 p2 m t J V f;exact⟨⟨⟨fN.nd,rfl,.never⟩,d.units⟩,gL fN 0,gL fN 1,gL fN 2,gL fN 3,gL fN 4,gG fN 0,n,⟨⟨_,_,_,⟨mS,mU,mV.kp⟩,yR,yQ⟩,d.mono Wl,aD⟩,aA,aD,R,D,F,jO⟩
 have Lb:d7 l.prog w K mg base mX 1 mO _ ["self"] (Ny K i 1 nL nM nO):=vf sd g6.1 λiR k outer s H E b a d f=>by
  refine Kg ?_ f;exact⟨⟨⟨g6.nd,rfl,.never⟩,d.units⟩,gL g6 0,gL g6 1,gL g6 2,gG g6 0,n,aD,jO,g9⟩
 have Gp:d7 l.prog w K mg base mX 1 kT _ ["self"] (Ny K i 1 mG mH mJ):=vf pT jW.1 λiR k outer s H E b a d f=>by
  refine Gg ?_ f;exact⟨⟨⟨jW.nd,rfl,.never⟩,d.units⟩,gL jW 0,gG jW 0,n,aD,R⟩
 have c3:d7 l.prog w K mg base mX 53 _ _ ["script"] (Ny K i 1 zQ zR zS):=vf L jb.1 λiR k outer s H E b a d f=>by
  refine av3 ?_ f;exact⟨⟨⟨jb.nd,rfl,.never⟩,d.units⟩,gL jb 0,gL jb 1,gL jb 2,gL jb 3,gL jb 4,gL jb 5,gL jb 6,gL jb 7,gL jb 8,gG jb 0,gG jb 1,gG jb 2,gG jb 3,gG jb 4,gG jb 5,gG jb 6,gG jb 7,di eE d,⟨⟨_,_,_,⟨BD,rY,rZ,BE⟩,La,hy,K6⟩,d.mono Wl⟩,di eD d,di eC d,di d4 d,di eA d,M,o,⟨⟨_,_,_,⟨pN,pP,pQ.kp⟩,Gn,Gk⟩,d.mono Wl,aD⟩,⟨⟨_,_,_,⟨t9,ua,uc.kp⟩,MQ,MH⟩,d.mono Wl,aD⟩,⟨⟨_,_,_,⟨r6,r9,sd.kp⟩,Lb,K7⟩,d.mono Wl,aD⟩,⟨⟨_,_,_,⟨pR,pS,pT.kp⟩,Gp,Gm⟩,d.mono Wl,aD⟩,aA,aD,bO,r,z,D,F,kB⟩
 exact c3.imp (akl Qde Qde c2)
def walk{l:PySem.W.OpenLaw}{q:QaE}{loose:At}{v:Bz->Heap->Prop}{e:Qj7}{d:DefRec}{K:Params->Frag}{T0:BS}(j:l.most=some 63)(b:Qkf)
  (o:∀(w:World) (h:Heap),e w h->(K w.params).In h) (r:∀(w:World) (h:Heap),e w h->∀P∈T0,h.get? P=some (tabObj #[]))
  (F:∀(w:World) (mg:Bz) (g:Addr) (h:Heap),(K w.params).In h->h.Ns mainGlobals mg->mg d.name=some (.ref g) →
   ∃(fd:Qa0) (ts:Co),(∀p∈ts,p.1∈T0/\ts.lookup p.1=some p.2/\(K w.params).lookup p.1=none/\∃c,CodeHd h c p.1)/\(∀(s:Qr) (u:Value),BindsTo s fd ⟨[u],[]⟩ [("script",u)])/\∀base:Heap,(K w.params).In base->base.Ns mainGlobals mg->Ik mg base->d7 l.prog w Qf8 mg base mX 53 g fd ["script"] (spT Qf8 ts 1 zQ zR zS)) :
  PySem.W.WalkO q loose v e l.row.toRowW d [] Qi2:=
 afK (n:=63) (k:=53) (x:="script") (sp:=λw ts=>spT Qf8 ts 1 zQ zR zS) j Wl b ⟨rfl,Wl,Wl⟩ o r F (λ_ _ _ a ns m t i=>akm rfl m rfl t i)
end Law
end
namespace PySem.W.Fast
def tw10018628784629841013:=0
def tw10025321584338993571:=0
def tw10041506386649472227:=0
def tw10046267119473388572:=0
def tw10092105900896404539:=0
def tw10126785933099044481:=0
def tw10187025875486183408:=0
def tw10256128010405974457:=0
def tw10291919992411063183:=0
def tw10381335577233898373:=0
def tw10438274819089776730:=0
def tw10462249354635965629:=0
def tw10476153449704623668:=0
def tw10520722087624755875:=0
def tw10548205535513569944:=0
def tw10622405524426836785:=0
def tw10698806332498083590:=0
def tw10726287771511709987:=0
def tw10737406808625463142:=0
def tw10792794571045220222:=0
def tw10817956731586749861:=0
def tw10839390745651091782:=0
def tw10953068636273133111:=0
def tw11078697924620530699:=0
def tw11139126713417080398:=0
def tw11161422875300643572:=0
def tw11186506040152812980:=0
def tw11277806526393117090:=0
def tw11416037528719075565:=0
def tw11422169997941307970:=0
def tw11458724884763222939:=0
def tw11481837463854086523:=0
def tw11510795316426778438:=0
def tw11549801471519481341:=0
def tw11566352839474766287:=0
def tw11648097344284563043:=0
def tw11655312360299384039:=0
def tw11669707879562071178:=0
def tw11777442396142974035:=0
def tw11784325027967704690:=0
def tw11841847238024868483:=0
def tw1199982978842250238:=0
def tw12053003758688950126:=0
def tw12073962397360028886:=0
def tw12112749013749673236:=0
def tw12168892997149311467:=0
def tw121696789419426153:=0
def tw12189594090400204952:=0
def tw1220341974312895216:=0
def tw12249305842252942036:=0
def tw12382330964049306159:=0
def tw12384762657259442545:=0
def tw12503538565461037470:=0
def tw1257749036071025449:=0
def tw12622256707535177238:=0
def tw12687472997684263785:=0
def tw12702669112404805270:=0
def tw12814255235215000383:=0
def tw12927261146742896994:=0
def tw13007059699039572310:=0
def tw13051412330929989709:=0
def tw13071888425824371127:=0
def tw13089967383297490302:=0
def tw13235296337446453939:=0
def tw13334132712826703243:=0
def tw13341234975709477364:=0
def tw13459223776777515618:=0
def tw13594708388076902563:=0
def tw13629329996510227872:=0
def tw14088369979991510706:=0
def tw14099790151009412034:=0
def tw141220255506970055:=0
def tw14138040490255508501:=0
def tw14140312448905703964:=0
def tw14141732402105681976:=0
def tw14325099303176184432:=0
def tw14411305661352221238:=0
def tw14559346467841348954:=0
def tw14561965849500385705:=0
def tw14615217278149989800:=0
def tw14617637940353981837:=0
def tw14633065538986715031:=0
def tw14750821942030710112:=0
def tw14793293061037590827:=0
def tw14835928617599704990:=0
def tw14928744140093775652:=0
def tw14928920981922266848:=0
def tw14948198107091700243:=0
def tw14985708286683763757:=0
def tw15070128917552957816:=0
def tw15110879124795922005:=0
def tw15211209573585434769:=0
def tw15270480491781708957:=0
def tw15277725016966713452:=0
def tw15375751828678591235:=0
def tw1555897246282944565:=0
def tw15794217110280342367:=0
def tw15861605411940483283:=0
def tw15890840561735595784:=0
def tw1594640872093333640:=0
def tw15946853443474302200:=0
def tw15962102858275408834:=0
def tw15987850387822993788:=0
def tw16027599346487346123:=0
def tw16130015707995317691:=0
def tw16131235883487228455:=0
def tw16150484054695822176:=0
def tw16372327078139451507:=0
def tw16403280769061229656:=0
def tw16403343433551813848:=0
def tw16454869542557608759:=0
def tw16558889446997070594:=0
def tw16657748945764383421:=0
def tw16776838187293309875:=0
def tw1683591838156691284:=0
def tw16888947140047528182:=0
def tw16973373428375800871:=0
def tw16992198541024449753:=0
def tw17096008257793118285:=0
def tw17113946116510453645:=0
def tw17135369935281456349:=0
def tw17171759687545802571:=0
def tw17282744797711251328:=0
def tw17306408567623278926:=0
def tw17395546892659467064:=0
def tw17469139016095123535:=0
def tw17526023105879021448:=0
def tw17637143002889575865:=0
def tw17657891499692982986:=0
def tw17664415606192040237:=0
def tw17756411255615634513:=0
def tw17799067730565372566:=0
def tw17953024474147002349:=0
def tw18063447631179787774:=0
def tw18141762599086119716:=0
def tw18176894415713975142:=0
def tw18225478540133377497:=0
def tw18255247058533950832:=0
def tw18308281299778016542:=0
def tw18320642250723498380:=0
def tw18330431342909108273:=0
def tw18368175638159397394:=0
def tw18428929869961534036:=0
def tw191451465195721001:=0
def tw1957128656823160331:=0
def tw2142353533981005006:=0
def tw2205981454142689639:=0
def tw2249336714774593157:=0
def tw2279702718432875899:=0
def tw2293971359414961175:=0
def tw2296814179653696369:=0
def tw2321272292825595167:=0
def tw2393759280249005930:=0
def tw2394007911347915080:=0
def tw2523781115184789538:=0
def tw2863381649500773039:=0
def tw2909626731611046051:=0
def tw2928844378573511244:=0
def tw2938951083819676177:=0
def tw3028390811568805019:=0
def tw30997890259948491:=0
def tw321164037312513003:=0
def tw3228451925082103298:=0
def tw3235080684275729368:=0
def tw3511992938416287454:=0
def tw3555219256255883065:=0
def tw3595669550819952626:=0
def tw381547436227954895:=0
def tw384247082524483891:=0
def tw3913534546775267948:=0
def tw3935276045732109048:=0
def tw400625822456057247:=0
def tw420147895915074299:=0
def tw4226319651054613379:=0
def tw4323451453114631254:=0
def tw433840553397728345:=0
def tw4364126845927386445:=0
def tw4425744489113118934:=0
def tw4526431077051091714:=0
def tw4719506704126519804:=0
def tw4952010924731120367:=0
def tw4965146398519291779:=0
def tw532899103984460989:=0
def tw5378813971010035736:=0
def tw5430227892661677744:=0
def tw5469091429667265131:=0
def tw5491755194167184854:=0
def tw5562124603299662966:=0
def tw5604129199131795276:=0
def tw594207387113449146:=0
def tw6005524008073941198:=0
def tw6042087306865767785:=0
def tw6057694777023750775:=0
def tw6142684020218823337:=0
def tw6259269731551197826:=0
def tw6272331779106635853:=0
def tw632881106028028444:=0
def tw6593316869984790485:=0
def tw6692269274897080087:=0
def tw7005772775580031184:=0
def tw7061210005566177646:=0
def tw7098272599806314037:=0
def tw7158926091891306736:=0
def tw7261929884780839496:=0
def tw7274180199052057910:=0
def tw7280663478312812390:=0
def tw7285813148931647599:=0
def tw7394202881794775222:=0
def tw7628500976774513273:=0
def tw7652287667650641093:=0
def tw7843906508402103788:=0
def tw7877721690634884327:=0
def tw7884294835381420660:=0
def tw7902575755094402079:=0
def tw7962349947114307129:=0
def tw8120988716108171722:=0
def tw8180671557134473727:=0
def tw8183224089002709646:=0
def tw8365913100801914916:=0
def tw8368226559852951232:=0
def tw8407018995507057689:=0
def tw8430715408578880491:=0
def tw8562523859212770615:=0
def tw8721715994650524310:=0
def tw8793978884343978900:=0
def tw8795956404325318913:=0
def tw8952133721216768413:=0
def tw896055733111499914:=0
def tw908450433965771500:=0
def tw9089845877635995936:=0
def tw9151699992059369457:=0
def tw9225883088187040266:=0
def tw9301579168240692281:=0
def tw9304143846690690269:=0
def tw9317497250175089967:=0
def tw9358760588384059591:=0
def tw9368955698588570073:=0
def tw9495143940585834120:=0
def tw9559751042081859900:=0
def tw9601725219809712110:=0
def tw960353788703858229:=0
def tw9631752368452046845:=0
def tw9677313255323732869:=0
def tw9685925497796680209:=0
def tw9833512624706638503:=0
def tw9885130969742119983:=0
def tw9895342390140003284:=0
end PySem.W.Fast
open PySem PySem.W PyProof.Rows L2
set_option maxRecDepth 100000 in
set_option maxHeartbeats 0 in
theorem PySem.Challenge.cw_moodtree_k46_states_by_the_rows_holds : PySem.Challenge.rw_moodtree_k46_states_by_the_rows.Holds := by
 w_on; o_law; k_head; (case hw => w_witness2)
 k_fill
 refine Law.walk (l := PySem.Challenge.rw_moodtree_k46_states_by_the_rows) rfl rfl (λw h Y => PySem.W.km_in_of Y) (λw h Y => PySem.W.km_tabs_of Y) ?F
 case F =>
   intro w mg fa h KX G hmg
   refine' Law.all_mk KX G hmg ?RJ ?Kx ?Ky ?Kz ?KC ?KD ?KG ?dZ ?kB ?c9 ?sR ?qD ?eN ?YX ?RK ?RL ?RM ?RN ?RP ?RQ ?dB ?gC ?oi ?KH ?ED ?EE ?EF ?EG ?OG ?OI ?yG ?As ?yH ?qe ?EH ?Bu ?Bv ?Bw ?By ?BD ?BE ?kU ?eS ?jO ?c6 ?g9 ?EI (aX ?adW ?adX ?adY) ?YY (aX ?ar0 ?ar3 ?ar4) ?YZ (aX ?JV ?ar5 ?Yp) ?KJ (aX ?dJ ?aiL ?xX) ?yJ ?yK (aX ?V1 ?V2 ?V3) ?Y0 (aX ?bA ?ar6 ?A6) ?Y3 (aX ?QX ?ar7 ?ar8) ?Y4 (aX ?jo ?ar9 ?asa) ?wL (aX ?SJ ?SK ?SM) ?ah4 (aX ?p9 ?awl ?awm) ?ah6 (aX ?gQ ?awn ?awo) ?wM ?wO (aX ?SN ?SQ ?SR) ?RX (aX ?aH ?amD ?lY) ?KL ?VH ?VJ ?Dm ?KN ?KP ?KQ ?R0 (aX ?amE ?amF ?amG) ?R1 (aX ?amH ?amI ?k_whole) ?Y5 (aX ?asb ?asd ?ase) ?R3 (aX ?amJ ?amK ?amL) ?R4 (aX ?amM ?amN ?amO) ?yL (aX ?V4 ?V5 ?V6) ?KR (aX ?aiM ?aiN ?aiO) ?EJ (aX ?adZ ?ad0 ?ad1) ?R5 (aX ?amP ?amQ ?amR) ?KS (aX ?aiP ?aiQ ?aiR) ?R6 (aX ?amS ?amT ?amU) ?tY (aX ?MR ?MS ?MT) ?KW (aX ?aiS ?aiT ?aiU) ?Y6 (aX ?asf ?ash ?asi) ?BF (aX ?Zx ?Zy ?Zz) ?yM (aX ?V7 ?V8 ?V9) ?wQ (aX ?SV ?SW ?SX) ?R8 (aX ?amV ?amW ?amX) ?KY (aX ?aiV ?aiW ?aiX) ?aic (aX ?awp ?awq ?awr) ?EK (aX ?ad2 ?ad3 ?ad4) ?R9 (aX ?amY ?amZ ?am0) ?yN (aX ?Wa ?Wb ?Wc) ?Y8 (aX ?asj ?asl ?asn) ?Sb ?abG ?abH ?Hl ?Sd ?Se ?Sf ?tZ (aX ?MV ?MX ?MY) ?Za (aX ?aso ?asp ?asq) ?KZ (aX ?aiY ?aiZ ?ai0) ?EL ?OL ?OO ?zU ?ER ?EV ?EW ?Sg (aX ?am1 ?am2 ?am3) ?BG (aX ?ZC ?ZD ?ZE) ?t6 (aX ?MZ ?M0 ?M3) ?Sh (aX ?am4 ?am5 ?am6) ?Zc (aX ?asr ?ass ?asu) ?BH (aX ?ZF ?ZG ?ZH) ?wR (aX ?SY ?S9 ?Tc) ?Ze (aX ?asv ?asw ?asx) ?EX (aX ?ad5 ?ad6 ?ad7) ?t7 (aX ?M4 ?M5 ?M6) ?K1 (aX ?ai1 ?ai2 ?ai3) ?BI (aX ?ZI ?ZJ ?ZK) ?BJ (aX ?ZL ?ZM ?ZN) ?Sj (aX ?am7 ?am8 ?am9) ?mP ?mQ (aX ?Dv ?Dw ?Dy) ?mS ?mU (aX ?Lc ?Ld ?Le) ?Au ?Av (aX ?M7 ?M8 ?tW) ?rV ?rW ?rX ?rY ?rZ (aX ?Lf ?Lg ?Lh) ?pN ?pP (aX ?Gq ?Gr ?Gs) ?t9 ?ua (aX ?M9 ?Nb ?Nf) ?r6 ?r9 (aX ?Li ?Lj ?Lk) ?pR ?pS (aX ?Gu ?Gv ?Gw) ?abI (aX ?awt ?awu ?awv) ?aif ?Sl ?Zh ?aih ?aii ?Sn ?K2 ?wU ?aij ?aik ?ail ?aim ?ain ?yP ?Sq ?Ss ?K3 ?K4 ?K5 ?air ?Zn ?Zo ?BK ?Zq ?Sv ?wV ?ud ?pU ?se
   case RJ | Kx | Ky | Kz | KC | KD | KG | dZ | kB | c9 | sR | qD | eN | YX | RK | RL | RM | RN | RP | RQ | dB | gC | oi | KH | ED | EE | EF | EG | OG | OI | yG | As | yH | qe | EH | Bu | Bv | Bw | By | BD | BE | kU | eS | jO | c6 | g9 | EI | adW | adX | adY | YY | ar0 | ar3 | ar4 | YZ | JV | ar5 | Yp | KJ | dJ | aiL | xX | yJ | yK | V1 | V2 | V3 | Y0 | bA | ar6 | A6 | Y3 | QX | ar7 | ar8 | Y4 | jo | ar9 | asa | wL | SJ | SK | SM | ah4 | p9 | awl | awm | ah6 | gQ | awn | awo | wM | wO | SN | SQ | SR | RX | aH | amD | lY => (try delta L3.j7); k_is
   case KL => exact rfl
   case VH => (try delta L3.j7); k_is
   case VJ => exact rfl
   case Dm => kernel_rfl
   case KN => decide
   case KP => kernel_rfl
   case KQ => decide
   case R0 | amE | amF | amG | R1 | amH | amI | k_whole | Y5 | asb | asd | ase | R3 | amJ | amK | amL | R4 | amM | amN | amO | yL | V4 | V5 | V6 | KR | aiM | aiN | aiO | EJ | adZ | ad0 | ad1 | R5 | amP | amQ | amR | KS | aiP | aiQ | aiR | R6 | amS | amT | amU | tY | MR | MS | MT | KW | aiS | aiT | aiU | Y6 | asf | ash | asi | BF | Zx | Zy | Zz | yM | V7 | V8 | V9 | wQ | SV | SW | SX | R8 | amV | amW | amX | KY | aiV | aiW | aiX | aic | awp | awq | awr | EK | ad2 | ad3 | ad4 | R9 | amY | amZ | am0 | yN | Wa | Wb | Wc | Y8 | asj | asl | asn => (try delta L3.j7); k_is
   case Sb => exact rfl
   case abG => (try delta L3.j7); k_is
   case abH => exact rfl
   case Hl => kernel_rfl
   case Sd => decide
   case Se => kernel_rfl
   case Sf => decide
   case tZ | MV | MX | MY | Za | aso | asp | asq | KZ | aiY | aiZ | ai0 => (try delta L3.j7); k_is
   case EL => exact rfl
   case OL => (try delta L3.j7); k_is
   case OO => exact rfl
   case zU => kernel_rfl
   case ER => decide
   case EV => kernel_rfl
   case EW => decide
   case Sg | am1 | am2 | am3 | BG | ZC | ZD | ZE | t6 | MZ | M0 | M3 | Sh | am4 | am5 | am6 | Zc | asr | ass | asu | BH | ZF | ZG | ZH | wR | SY | S9 | Tc | Ze | asv | asw | asx | EX | ad5 | ad6 | ad7 | t7 | M4 | M5 | M6 | K1 | ai1 | ai2 | ai3 | BI | ZI | ZJ | ZK | BJ | ZL | ZM | ZN | Sj | am7 | am8 | am9 | mP | mQ | Dv | Dw | Dy | mS | mU | Lc | Ld | Le | Au | Av | M7 | M8 | tW | rV | rW | rX | rY | rZ | Lf | Lg | Lh | pN | pP | Gq | Gr | Gs | t9 | ua | M9 | Nb | Nf | r6 | r9 | Li | Lj | Lk | pR | pS | Gu | Gv | Gw | abI | awt | awu | awv | aif | Sl | Zh | aih | aii | Sn | K2 | wU | aij | aik | ail | aim | ain | yP | Sq | Ss | K3 | K4 | K5 | air | Zn | Zo | BK | Zq | Sv | wV => (try delta L3.j7); k_is
   case ud => decide
   case pU => decide
   case se => decide
