import PyProof.Rows.All
import Wide.All
import OpenK.AllK
import Wide.FinOn
import Lean
import PyProof.EqAt
import PyProof.EqKinds
import PyProof.TupleCall
import PySem.Challenge.RW_moodtree_k64_idle_ways
set_option Elab.async false
set_option linter.all false
set_option maxRecDepth 100000
set_option maxHeartbeats 4000000
open PySem.W (instObj hideAll Frag lookIn plainGet hasDictIn findIn handedIn plainGet_of isFn plainOver takerIn any_some makesIn emptyDict keepIn methodCall_KW cellsFrom_some fnOf codeIn kla_obj CodeHd envX kla_fn codeHdIn codeHd_of_K tabObj nsOkIn nsIn tailIn exmOne mroIn kas_item kas_range kas_cmp)
theorem We{p:Prop}(h:p:=by lia):p:=h
def Wf{p:Prop}(h:p:=by decide +kernel):p:=h
def Wk{p:Prop}(h:p:=by decide):p:=h
def Wl{p:Prop}(h:p:=by simp):p:=h
theorem Wp{p:Prop}(h:p:=by simp_all):p:=h
theorem WA{p:Prop}(h:p:=by grind):p:=h
theorem WE{p:Prop}(h:p:=by simp;lia):p:=h
open Lean in
def qqM (k:Name) (x:List Syntax):Syntax:=.node .none k x.toArray
open Lean in
def qqL (x:String):Syntax:=.atom .none x
open Lean in
def qqN (x:String):Syntax:=mkIdent x.toName
open Lean in
def qqC (x:List Syntax):Syntax:=qqM nullKind (x.intersperse (qqL ","))
open Lean in
def qqS (q:List Syntax) (t:String):List Syntax:=
 let r:=(t.drop 1).toString;let n:=r.toNat?.getD 1;let s:=q.drop n;let a:=(q.take n).reverse;let y:=q.headD .missing;let o:=q.tail;let x:=o.headD .missing;let w:=o.tail;let p:=qqM ``Parser.Term.hygienicLParen [qqL "(",qqM hygieneInfoKind [mkIdent .anonymous]]
 match t.front with
 | '@'=>qqM ``Parser.Term.app [s.headD .missing,qqM nullKind a]::s.tail
 | '['=>qqM `«term[_]» [qqL "[",qqC a,qqL "]"]::s
 | '<'=>qqM ``Parser.Term.anonymousCtor [qqL "⟨",qqC a,qqL "⟩"]::s
 | ','=>qqM ``Parser.Term.tuple [p,qqM nullKind [a.headD .missing,qqL ",",qqC a.tail],qqL ")"]::s
 | '.'=>qqM ``Parser.Term.dotIdent [qqL ".",qqN r]::q
 | '!'=>qqM ``Parser.Term.explicit [qqL "@",qqN r]::q
 | '\''=>Syntax.mkStrLit r::q
 | '_'=>(if r.isEmpty then qqM ``Parser.Term.hole [qqL t] else qqN t)::q
 | '='=>qqM ``Parser.Term.namedArgument [qqL "(",qqN r,qqL ":=",y,qqL ")"]::o
 | '>'=>qqM ``Parser.Term.proj [y,qqL ".",if r.isNat then Syntax.mkLit fieldIdxKind r else qqN r]::o
 | '~'=>qqM (.mkSimple s!"term{r}_") [qqL r,y]::o
 | '^'=>qqM ``Parser.Term.arrow [x,qqL "→",y]::w
 | '`'=>qqM (.mkSimple s!"term_{r}_") [x,qqL r,y]::w
 | ':'=>qqM ``Parser.Term.typeAscription [p,x,qqL ":",qqM nullKind [y],qqL ")"]::w
 | '?'=>qqM `termIfThenElse [qqL "if",w.headD .missing,qqL "then",x,qqL "else",y]::w.tail
 | '\\'=>qqM ``Parser.Term.fun [qqL "fun",qqM ``Parser.Term.basicFun [qqM nullKind [if r=="_" then qqM ``Parser.Term.hole [qqL r] else qqN r],qqM nullKind [],qqL "=>",y]]::o
 | _=>(if t.isNat then Syntax.mkNumLit t else if t=="Prop" then qqM ``Parser.Term.prop [qqL t] else qqN t)::q
def qqT:Array String:=("
Shared















model X.prog X.w @2








.refl _ @



Inv X pins Y H s @5










E.gg 0 @

j 1 `+


aB E.ll 1 @ @






E.gg 1 @
aB E.ll 0 @ @
aB E.ll 2 @ @
List bO @



List α @

n 1 `+
.bU o .dT gs @ @2
aB E.ll 3 @ @
model prog w @2
A Prop ^
k1.trans k2 @
.ref a @
QCO
.cons h r @2 \\r \\h \\_ \\_
.ref f @
trivial \\_ \\_ \\_
.inl rfl @
.dT gs @
.ref C @
k 1 `+
QCP
QCQ
aV K CL b H Z U Y ts vs @9
trivial \\_ \\_ \\_ \\_
E.ll 3 @
E.ll 4 @
e es `::
AC X e es @3
v_ E.ll 2 @ >1 @
E.ll 5 @
QCR
QCS
.nil \\_
E.gg 2 @
E.ll 2 @
v_ E.ll 0 @ >1 @
.Name x pos @2
hT rfl @
cW I q Wl @3
.inr rfl @
E.gg 3 @
AL X pos es @3
some v @
some t @
QCT
.Name x pp @2
bR X CL b e U t δ1 @7
X.A.units 64 `+ cLine `<
.sh d @
rj ws a @2
v vs `::
QCU
QCV
QCW
.cons h k a hZ _ b @2 @2 \\b \\a @ r k a hV _ b @2 @2 \\b \\a @ @2 \\k \\r \\h \\_ \\_
b8 cA dZ hs @3
cu bG hY _ @ @2
E.ll 6 @
aB Qay @
ws.map j4 @
.ins c fs @2
.str x @
i 1 `+
dG ks es ss @3
ak st @
bf ks @
bF ks @
QCX
L2.Inv X pins Y H s @5
v_ E.ll 3 @ >1 @
es.length 1 `-
EP X pins Y Q @4
.tup xs @
QCY
eB aE isAll es ss mem @5
trivial \\_
False \\_ \\_
aB Qau @
.ref p @
QCZ
s.heap.objs.size 1 `+
v_ E.ll 1 @ >1 @
G0 c a >2 @2
.ref it @
.int i @
.lst xs @
.dK kvs @
.int _ @
QC0
v_ E.ll 5 @ >1 @
aZ Q2 ao rfl @3
X.hu XE X W @2 @
sV X.stack @
au fJ ao @ @
upd H a o @3
aB Qa0 @
E.gg 4 @
bJ st @
QC1
QC2
hG.mp b @ >elim h a @ r a @ @2 \\b \\a \\r \\h \\_ \\_
cL X CL b e1 U .int i @ δ1 @7
c6 X scope Nc C s H fp @7
absurd b iu @2 \\b \\a
ds.length sizeLine `≤
a.take 26 @
res a @
f9 ws @
QC3
QC4
QC5
QC6
.ref s.heap.objs.size @
.Subscript e1 e2 pos @3
he pins s Y H _ I h @7
.Call QaO Qav [0 pos @4
.lst ds @
sN X CL b e U p δ1 @7
fX s.rs @
es.map .int @
YM es ws @2
.ref e @
some t0 @
t ts `::
QC7
QC8
d8 X.env scope.names [0 @3
cK E.ll 0 @ >1 rfl @2
aV K CL b H Z U Y t ts `:: v vs `:: @9
cL X CL b e2 δ1 .int j @ U2 @7
a sysModules `==
rfl \\_ \\_
ops.map .int @
arg a @
k1.trans c @
jP ks es w @3
model P w @2
f9 ws i @2
.bl true @
.inl z @
some v0 @
.Vc q @
QC9
QDa
QDb
QDc
j3 bf ks @ bF ks @ es ss mem false es.length false p @9 \\p
decide p cN es u tg @3 `∈ @ ~! \\p
ds.map T.sh @
Bc cd mo fl pl rs s @6
vL E.ll 4 @ >1 @
I.ck.fresh hI _ @ @
l.map .int @
vL E.ll 5 @ >1 @
ns.map V.int @
E.ll 7 @
rfl \\_
q \\q \\_
ps.zip us @
c.trans a @
.tabs p >2 @
aJ q hn @2
E.ll 1 @
g1 g2 `++
fW ks @
QDd
QDe
QDf
QDg
QDh
QDi
QDj
QDk
QDl
decide x u `≠ @ \\x
cI E.bN E.cQ Q2 eV @4
absurd q iu @2 \\q
.tup ds @
trivial \\_ \\_
mem.map .int @
vL E.ll 3 @ >1 @
aZ Q3 ao rfl @3
.sh .int n @ @
some Qaj @
rj c.ws a @2
ks.map .str @
ss.map .int @
.inl w @
.iC kvs @
ez P w @2
I.tok _ @
.dT kvs @
l.map f @
.lst [0 @
.ref x @
E.gg 5 @
ia _ e @2
nj ws @
f e `++
QDm
QDn
QDo
QDp
QDq
QDr
QDs
QDt
QDu
QDv
QDw
QDx
QDy
QDz
QDA
swapsWith e some .Name x pos' @2 @ pos.line X.env @4 pure false @ `=
.ListComp elt tg iter ifs 0 <4 [1 scope pos @4
backToKw pos keywordEach [0 X.env @2 @2
bR X CL b e U .sh .dct kvs @ @ δ1 @7
.sh .tup ds @ @
e _ _ h @3
.BinOp e1 .Add e2 pos @4
v_ E.ll 4 @ >1 @
rawInt i Int : 1 `+ @
us.reverse vs `++
eval e X.env @2
vL E.ll 6 @ >1 @
bF ks s @2 \\s
some QaR @
U.set i none @2
xQ n _ @2 \\n
.sh QbX @
.lst Qct @
.int n @
aB QcA @
bD aL aC @2
CL 'Growth @
aB E.ll 8 @ @
es.length 1 `+
qz nb nm ns @3
CL 'Chart @
CL exc a @ @
some QeD @
h.trans g @
dQ rfl @
.int x @
fp gp `++
jM p w @2
g i j @2
.bl b @
.bl _ @
xP nb @
QDB
QDC
QDD
QDE
QDF
QDG
QDH
QDI
r k a hJ _ b @2 @2 \\b \\a @
c6 X scope Nc s3.heap.objs.size s3 upd H s.heap.objs.size .lst [0 @ @3 fp @7
some .Name x pos' @2 @
dB X.prog X.w X.K X.mg X.base CX k f fd ps sp @11
.Name x pos' @2
.Call .Attribute QaO m apos @3 Qav [0 pos @4
.lst k _ gF @2 >trans h @ Qeg @2 \\k \\r \\_ \\h
.ins k _ gF @2 >trans h @ Qeg @2 \\k \\r \\_ \\h
.dct k _ gF @2 >trans h @ Qeg @2 \\k \\r \\_ \\h
aq keep a hZ _ c @2 @2 @ \\c \\a
.Compare e1 .NotIn [1 e2 [1 pos @4
Bb ws ops sg es Wn ks ops @2 @5
.Compare e1 .Eq [1 e2 [1 pos @4
jr n.hi n.hv n.hd n.iO @4
.pin r k @ @ \\k \\r \\_
jv E.bN E.cj QaE dM @4
c a b i @3 \\i \\_ \\b \\a
starEach Qav X.env @2
aX Q2 ao rfl @3
.lst p >1 >map .int @ @
.lst p >2 >map .int @ @
.ins C dx fs @3
.ins CL c @ dx gs @3
.lst tl @
l.length 1 `-
CL 'TooWide @
z.elim \\z \\_
.builtin id @
.Dict [0 [0 pos @3
Sw ks es ss mem @4
qo _ rfl <2 @
Y.set i QaL @2
binaryOp .Add @
c.bs.map qx @
s.fl.map v5 @
TP X pins Y Q @4
upd Z1 a Qab @3
vM E.ll 2 @ >1 @
v_ E.ll 7 @ >1 @
.sh .int k @ @
R.drop i 1 `+ @
ns.map .str @
aB E.ll 9 @ @
tR b a Qab @3
es.getD x 0 @2
k7 ks es ws @3
f1 f2 d `++ `++
.str sg @
CL 'Table @
some QkH @
X.pinned p @
.Name x px @2
.ref p @ vs `::
.lst us @
XY ps @ δc `++
f.trans c @
q7 c mo @2
zC kz xs @2
D.gT ds @
.ref Dd @
.tup ks @
aJ e hn @2
.inl h @
.ref b @
.ref l @
.ref c @
.inl e @
.val v @
.ref D @
.lst _ @
vs JQ `++
Jb P w @2
nr _ _ @2
out a @
lW ao @
l r `::
QyP r `::
QDJ
QDK
QDL
QDM
QDN
QDO
QDP
QDQ
QDR
QDS
QDT
QDU
QDV
QDW
QDX
QDY
QDZ
QD0
fnOf x qual gH st @ bJ st @ ak st @ .none kV doc pm an d7 ct @12
envOfC qual ak st @ s.heap.objs.size f d7 @5
jR items.size items.size hi @3 jR items.size 0 lo @3 `-
.dct Rd.mono e h @2 r @2 \\r \\_ \\h
kvs.any decide a >1 k `= @ \\a @
.tup ay.Dn e h @2 r @2 \\r \\_ \\h
.Name y py @2
.lst e.seq h @ r @2 \\r \\_ \\h
mM X CL b Qav U arg a @ δ1 @7
seqObj 'list us.toArray 0 @3
.lst ds.filter p @ >map g @ @
X.env.frame some X.env.locals @ `=
some .lst tl t [1 `++ @ @
ds.length Ao.length `+ sizeLine `≤
Cq X A q scope Nc f c s H @9
r2 X CL b tg iter U ds δ1 @8
pa.endLine pb.line `== true `=
Fc X CL x k n arg Pre res @8
aV X.K CL b H Z U Y ts vs @9
.tup k.map kV @ @
k1.trans k2.trans c @ @
.jN QdC r q @3 \\q \\r \\_ \\_ \\h
.ins QdC r @2 \\r \\_ \\h
.iC QdC r @2 \\r \\_ \\h
List.lookup f fs @2 some t @ `=
Jb X.prog X.w @2
CI Addr Value `× `×
X.stack X.env X.outer `:: `=
.Subscript o i pos @3
.Attribute e f pos @3
0 i `≤ i ws.length `< `∧
X.xe False \\_ \\_ `=
v_ E.ll 10 @ >1 @
Sw ks es ss mem w @5
u 1 ~- `= u bM es t @2 `∈ `∨
keepIn K Qaj @2 true `=
Binds X.K fd ps [0 @4
some QaR @ δc `::
.type 'list @
.sh t.bU @
e \\e \\_ \\_ \\_
.bool true @
Int Int Bool ^ ^
jr hi hv hd iO @4
entry N Qce @2
X.A.units 1 `+ cLine `<
bP K CL Z kvs gs @5
U.set i QdK @2
fs.lookup m @ none `=
upd H1 a Qab @3
vM E.ll 4 @ >1 @
True \\_
bu X.K CL c @ f @3
It Hp Prop ^ ^
s.trans c.zh @
A.units 1 `+ cLine `<
.dct kvs @
.int i t @2
.ref CL c @ @
.jN w ds es @3
CI α `×
Jb l.prog w @2
eL Qao X.A @2
lA X pins H a @4
yO ds k @2 some d @ `=
.ref D' @
a.map .int @
Addr Prop ^
i2 h9 e @ @
g.trans f @
ke bB WE @ @
fQ QbZ @
z0 a o gs @3
1 j Int : `+
.own x @
List Qph @
truthy v @
Int Int `×
.inr z @
Int Int ^
.lst ys @
some t1 @
p >1 8 `/
.bU o u @2
ds d [1 `++
.own a @
E.gg 6 @
a y ys @2
yP R s @2
sub e @
f2 c `++
h k >1 @
r k >2 @
a >1 k `=
QD1
QD2
QD3
QD4
QD5
QD6
QD7
upd H s.heap.objs.size .lst [0 @ @3
.jN k _ gF @2 >trans h @ av.mono e f @2 av.mono e g @2 @3 \\k \\g \\f \\h
j3 bf ks @ bF ks @ es ss mem d9 mode @ es.length false @8
qP X CL scope Nc xs.length tg parts ifs elt δc ds p g @13
.iC k _ gF @2 >trans h @ bP.mono e f @2 @2 \\k \\f \\h
YL nj ws @ jP ks es f9 ws k @2 @3 \\k K7 es @ @3
PySem.revObj l its.toArray.size Int : 1 `- @2
.ListComp elt tg e ifs 0 <4 [1 scope pos @4
d9 mode @ true `= 'far 'new ?
.Call .Attribute o m apos @3 Qav [0 pos @4
0 f9 ws i @2 >src `≤ f9 ws i @2 >src es.length `< `∧
cH .cons E.ll 0 @ >1 .inl E.jD @ .nil @3 Wf @2
.sh .ins 'Table Df _ _ Nr c @ _ _ @5 @2 @
G9 X CL b Qav U arg a @ >map T.sh @ δ1 @7
kn.mpr keep p h rfl @3 \\h nd <2 @
b X.ex `∈ X.hO.heap.objs.size b `≤ `∨
a f2 `∈ H a @ Z a @ ?
.ins 'Growth fs @2
RH X.K CL n arg Pre res @6
.Call .Name x p @2 Qav [0 pos @4
.Assign .Name x pos' @2 [1 e pos @3 dO `::
Lies X pins Y H s H' e C a0 B s' @11
List.replicate es.length 1 ~- @2
.Compare e1 .NotEq [1 e2 [1 pos @4
scope.names.lookup x @ some .local @ `=
ah Qac aF @2
Ku .inl w @ E.u Qac Qa1 rfl @5
.tup QdC r k @ @2 \\k \\r \\_ \\h
tG b fx r fs w Wp @6 \\hw \\w
PassesOwn Qr X.A X.env X.xe @4
.Compare e1 .In [1 e2 [1 pos @4
behindInMarks .NotIn e2 @2 false `=
U.set i some .sh t.bU @ @ @2
tu ws w @2 [0 `= fP h w @2 some true @ `= `∨
.Compare e1 op [1 e2 [1 pos @4
congrArg _ i @2 \\i \\_ \\_
trivial \\_ \\_ \\_ \\_ \\_
.Compare a op [1 b [1 pos @4
bR X CL b e1 U QdB δ1 @7
cK E.ll 4 @ >1 rfl @2
some T.sh d @ @ \\d
ah Q2 ah Qbk aF @2 @2
bR X CL b e U QaR δ1 @7
.Name 'isinstance pp @2
v_ E.ll 6 @ >1 @
x '__debug__ Str : `==
behindInMarks op b @2 false `=
xs.map x >2 >2 \\x @
cI E.iG E.fZ Q2 jY @4
cI E.bN E.cj Q2 dM @4
lE List k8 @ `×
ah Q2 ah QU aF @2 @2
cL X CL b e2 δ1 d2 U2 @7
keys.zip us.toArray @
hi pins s Y H _ I h @7
h H Z Y ts vs _ S k @8
X.mg 'isinstance @ none `=
Str Option NameKind @ ^
s.fl.getD n [0 [0 ,2 @2
cL X CL b e1 U d1 δ1 @7
.done .ret .none @ @
DC n _ _ _ @4 \\n
DE n _ _ _ @4 \\n
g pins s Y H _ I h @7
f pins s Y H _ I h @7
E.ll 8 @
ia _ q @2 \\q \\_ \\_
qm.trans vv Wk hn @2 @
.builtin 'sorted @
aj Qbo aL @2
jP ks es f9 ws k @2 @3
c.ck.fresh hI _ @ @
keepIn X.K Qaj @2 true `=
n5 ks es ss is os ws @6
items.size sizeLine `≤
kvs.length sizeLine `≤
X.mg 'reversed @ none `=
.Tuple elts kk pt @3
es.getD m.toNat 0 @2
0 x `≤ x es.length `< `∧
s.trans s' @
kz.length us.length `=
upd H p .dK [0 @ @3
upd H p .dT [0 @ @3
getMethod I m pl @3
aj dH aj dH aL @2 @2
Nat Heap Prop ^ ^
e9 K CL H Z U Y fp @7
some .lst tl0 @ @
od.data .dict es ep @2 `=
.Tuple es j pos @3
X.mg 'sorted @ none `=
List CI L3.D `× @
Gl X 'isinstance @2
.lst Qcx @
gs.Pairwise Qo5 @
x '__name__ `≠
d.mem_iff.mp c @
nC X CL b e U i p @7
X.mg 'range @ none `=
arg a @ >length 1 `+ n `=
X.env X.outer `::
ah Q3 QhP @2
r \\r \\_ \\_
call Qaj u [1 @2
pyNext Qbq @
X.mg x @ some Qaj @ `=
.ins c QbN @2
upd H a Qam @3
.pin y QhH @2
vM E.ll 1 @ >1 @
Gl X 'reversed @2
ah ao aF @2
Recv U i c fs g @5
.List es pos @2
putK kvs k v @3
r \\r \\_
ah Qcv aF @2
kvs k t ,2 [1 `++
k2.trans a2 @
vZ nb nm m k w @5
SP X pins D @3
H a @ some QeB @ `=
oX N Qce @2
G5 f.heap H @2
yP R Wv _ @ @2
yP R ml _ @ @2
aj Qax aL @2
D Option BB @ ^
Gl X 'sorted @2
oY kvs k @2 some d @ `=
PE X value tv @3
.sh Qbr @
newList [0 @
K w.params @
n s.fl.length `<
.sh Qe1 @
I.kR x c e @3
vl r ta tb @3
hl j U2 p2 @3
Str Int `×
fU We We @2
Gl X 'range @2
f1 g c `++ `++
f1 g d `++ `++
m ops `∈
CL 'Tree @
e.trans s @
e.trans c @
.ok .next @
i.trans h @
d.trans u @
I.ok.hd p @
v_ AY 0 @ @
h b o e a @4
hJ _ hz @2
hJ _ he @2
IP a o gs @3
m.toNat 1 `+
K.In s.heap @
Key D `×
List Qlo @
KT H kvs xs @3
h.mono e @
some e @
Hp Prop ^
jc kvs k @2
tM d1 d2 @2
o8 s n j @3
X.mg x @ none `=
x l `∈
Er rfl Wf @2
Arguments
.type T @
.ref sl @
.tup ys @
α Prop ^
d9 mode @
0 l.length `<
.sh c.d @
xm d @ some t @ `=
kY sc I @2
tP H gp @2
.bU b q @2
f9 ws k @2
o7 ws R @2
vs v [1 `++
ds k [1 `++
es x [1 `++
r 36 `%
.inl i @
X.hu E @
.ref t @
D Prop ^
us ws `++
hZ _ a @2
hZ _ c @2
f1 f2 `++
hZ _ d @2
hJ _ b @2
hJ _ d @2
ne c d @2
.Call .Attribute QaO 'append pa @3 e [1 [0 pb @4
assign .Name y py @2 X.env @2
iQ fL E.aS E.dS Qb8 rfl rfl eu @6 rfl gW eu @ bV _ @ @4
.builtin 'type.__call__ .ref C @ us `:: kw <2 @2
attributeBase QaO 'append X.env eval QaO X.env @2 @4 eval QaO X.env @2 `=
wpAny Qr X.A pyIter v @ zp X pins Y tg R @5 X.xe s1 @6 \\s1 \\v
.ExceptHandler some .Name x np @2 @ none b₀ suite `:: pos @4 rest `::
.pin y .ins 'Growth Bc c.d mo _ _ _ .sh .int s.sp @ @ @6 @2 @2
fnOf x x gH st @ bJ st @ ak st @ .none kV doc pm an d7 ct @12
qP X CL scope Nc xs.length tg parts ifs elt δc gI kvs @ p g @13
.ListComp elt .Name y px @2 iter ifs 0 <4 [1 scope pc @4
iQ fL E.aS E.gX Qb8 rfl rfl k9 @6 rfl gW k9 @ rfl @4
[0 List Keyword @ : >isEmpty 0 1 ?
.ListComp elt tg iter ifs 0 <4 [1 scope pc @4
a f2 `∈ H a @ Z a @ ? \\a
.Compare e1 .Is [1 .Constant .none kj p2 @3 [1 pos @4
s.heap.IsRevIter it l items.size Int : 1 `- @3
.ListComp elt tg e ifs 0 <4 [1 scope a @4
swapsWith QkG none pos.line X.env @4 pure false @ `=
envOfC qual scope s.heap.objs.size f cd @5
.ext x4 f q params body scope Qb7 c @7 @
.Subscript e .Slice lo hi none p2 @4 pos @3
decide x oZ ks es ops gs @4 `∈ @ ~! \\x
swapsWith e none pos.line X.env @4 pure false @ `=
scope.names.lookup x @ some .globalImplicit @ `=
.Assign .Subscript e0 e2 ps @3 [1 e pos @3 dO `::
.Call .Name 'list pp @2 e [1 [0 pos @4
aj QdE aj Qbw aL @2 @2
Value.ref d @ Value.none `==
.Call .Name 'len pp @2 e [1 [0 pos @4
decide p cN es u t @3 `∈ @ ~! \\p
bR X CL b e2 δ1 .sh .tup Ao @ @ U2 @7
i2 lh h9 e @ I.ok.tI x c C f @4 @2 @
upd H p .ext J5 w p [0 [0 [0 @5 @ @3
.lst gI kvs @ >filter p @ >map g @ @
v_ E.ll 8 @ >1 @
t 'bool `== n 'int `== `&&
cG X CL b dO δ1.set i QaM @2 D @6
.ins 'Growth Np c.d mo w s @4 @2
.lst ds.filter p @ >map g @ @ ts `::
.builtin 'object.__class__ @
nY hs.i i hi @2 >1 hs.i i hi @2 >2 @2
ah Q3 aF @2
.ins 'Growth Np cd mo w s @4 @2
Str Addr `×
.Name 'reversed q @2
.tup e.Dn h @ r @2 \\r \\_ \\h
.lst e.JP h @ r @2 \\r \\_ \\h
.dct e.rd h @ r @2 \\r \\_ \\h
rC c 24 gQ c @ s.fl.length 0 s @6
V Cc Cc Hp VK Prop ^ ^ ^ ^ ^
PySem.call f vs @2 \\vs \\f
ws.length 63 `≤ E5 ws @ Sx ws @ `∧ `∧
.Assign .Name x pos' @2 [1 e pos @3
scope.names.lookup x @ some .free @ `=
jr nm.hi nm.hv nm.hd nm.iO @4
mv c.ks c.es c.ws p >2 p >1 Qc3 @6
.ins CL c @ dx oR f v gs @3 @3
ah QdQ ah QU QhP @2 @2
.ins 'Tree EH ks es ss @3 @2
au v_ Ky 1 =i rfl Wf @3 @ @
apos.endLine xo.line `== true `=
handleBy Qb2 X.env hs @3
.inl gs o rfl aA <4 @
ah iK 1 @ ah jl 0 @ aF @2 @2
h k a hZ _ b @2 @2 \\b \\a @
r k a hV _ b @2 @2 \\b \\a @
c6 X scope Nc C s0 a f0 @7
kk c hJ _ p @2 @2 \\p \\c
eB Qa8 Qa9 es ss mem @5
lookup_relabel_local a @
B0 Nat Hp V Prop ^ ^ ^ ^
.Constant Qbr j pos @3
.Constant Qa4 j pos @3
.ext J5 w a ds vs us @5 @
cL X CL b e1 U Qa4 δ1 @7
m pos pins s Y H _ I h @8
Fm X CL x k n arg Pre res @8
r3 X CL x k n arg Pre exc @8
behindInMarks .In e2 @2 false `=
I.base.free b o e n a @5
j pins s1 Y H1 _ m q1 @7
G9 X CL b es U Qct δ1 @7
cL X CL b e1 U QbX δ1 @7
bR X CL b e U QdB δ1 @7
bR X CL b e U QdO δ1 @7
bR X CL b e U QdN δ1 @7
hideAll s.heap Qbz @2
V V Hp VK Prop ^ ^ ^ ^
tl.reverse ts `++
es.getD d.qI.toNat 0 @2 j `=
keywordEach [0 X.env @2
cI E.iG E.iL Q2 nU @4
x >1 >isSome \\x
V.ref x >2 >1 @ \\x
.tup us @
Bool Shared Prop ^ ^
.Name 'reversed pq @2
seqObj 'list out c @3
kvs.take j @
hm b _ q z \\z @4
h pins s Y H _ I hw @7
hv pins s Y H _ I h @7
sysModules h.objs.size `<
.sh .tup ds Ao `++ @ @
Unit Shared Prop ^ ^
f QgI .int j u @2 @2
Flow Shared Prop ^ ^
n pins s Y H _ I h @7
ia _ e @2 \\e \\u \\b
jR items.size 0 lo @3
G9 X CL b es U tl δ1 @7
cL X CL b e2 δ1 d U2 @7
s.heap.IsList l items @2
mem.getD m.toNat 0 @2
.str _ _ Wf @3 \\n
B1 Hp VK Prop ^ ^ ^
I.ck.fresh mi _ @ @
World Heap Prop ^ ^
ks.map kV @
ox mx _ @ wu _ _ @2 @2
decide i j `= @
ForInStep.yield r @
X.mg 'enumerate @ none `=
.Name 'sorted pp @2
.sh .lst QcY @ @
d.params.defaults [0 `=
nC X CL b e0 δ1 i p @7
FG N P G X.env.scope @4
bh.getD m.toNat 0 @2
au cZ Qac ao Wk @3 @
tupleKind Qc8 @
V Hp VK Prop ^ ^ ^
codeIn K d7 qual @3 true `=
isAll s @ \\s
sY X.prog X.w H' h' @4
Rq s.heap x dx C mA @5
us.length tl.length `=
k NameKind.free `==
putK gs k v @3
List Key L3.D `× @
upd H p .dK gs @ @3
y t `= y bM es t @2 `∈ `∨
o.ws.length 1 `-
Df bs hs bg pr R @5
ys.length sizeLine `≤
tl.length sizeLine `≤
.sh r.mono ww @ @
T.k6 p t0 @2 some QeD @ `=
.sh .int s.sp @ @
h1.trans z @
aN K CL H Z t v fp @7
PyData.strOk x @ true `=
d.trans s' @
wH p >1 p >2 nb ns @4
au jT QU ao @2 @
Bi Heap Prop ^ ^
res a @ >clean true `=
tl.length 1000000 `≤
execs st X.env @2
U.set i QaM @2
upd Z p Qmd @3
upd H p Qmd @3
upd H p Qe7 @3
upd H a Qbs @3
Loc X.env.scope y @2
upd H' a Qam @3
Passes Qgc X W @3
dQ 4 =j rfl @2
Int Int Int ^ ^
L3.D Option BB @ ^
Gl X 'enumerate @2
some .ref y @ @
PySem.W.OpenLaw
o.data .dict es ep @2 `=
x >1 ~! \\x
AP X pins Y Q @4
rF X.env.scope x @2
.type 'dict @
.jN X.w ds es @3
q a b c d e f @6
h w false ,2 [1 `++
vL E.ll 1 @ >1 @
vM E.ll 5 @ >1 @
vL E.ll 2 @ >1 @
vL E.ll 7 @ >1 @
o3 c p Qbp @3
α β Prop ^ ^
a.zh.trans s @
.sh .int m @ @
instObj C dx @2
eval o X.env @2
decide i j `< @
decide j i `< @
av K CL Z ds us @5
.cons r .nil @2
J3 We cA cA hs @4
h w true ,2 [1 `++
us.length 20 `+
l.take j @
l.map oe @
fs.lookup f @
X.mg 'len @ none `=
l.map V.str @
l.map D.int @
ns.map .int @
0 \\_
X.hu Qpa @
q >2 >map T.sh @
.ref QeF @
.int Lc c @ @
is.map .tup @
os.map .tup @
b8 cA J6 hs @3
i l `∈
lA X pins H kS @4
.jN c ds es @3
jA K x st f fd @5
es.getD k 0 @2
o4 s gQ c @ @2
h.objs.size a `≤
some Qag @
hU.mpr rfl @
T.k6 p t0 @2 some u @ `=
f1 q e3 `++ `++
.sh La s @ @
start N vs @2
H b @ some Qf6 @ `=
H a @ some Qbt @ `=
av K CL Z d v @5
notStar e @ true `=
Vz U is ps @3
l.getD i z @2
gs k v ,2 [1 `++
rb c p x a @4
i2 Qpp @
la i2 a @ @
d.trans a @
f1 g b `++ `++
d.trans c @
ks.map AU @
x bM es m @2 `∈
some 1 ~- @
gK QbZ @
.inl E.jD @
a >1 >map zM @
.str w @ y z `:: `::
upd H x o @3
l.most some n @ `=
.ref D @ vs `::
us.length 64 `<
si p c nb @3
.sh .non @
ds.map g @
List QgL @
X.hand e @
.sh .any @
l.map Ba @
q tu ws w @2 `++
List Qie @
trivial
.own rfl @
.str x t @2
ne b o e @3
qw h d b @3
qw h g f @3
nY k0 k1 @2
V2 0 rfl @2
q >1 zQ n x @2 `=
e x `= H e @ some QgZ @ `= `∨
ah Q2 Qje @2
.tup QmB @
yS X Qqu r @3
Ap es jP ks es a @3 jP ks es c @3 @3 \\c \\a
jP ks es f9 ws k @2 @3 \\k
e Int : u `= iE es u t e @4 e Int : t `≠ `∧ `∨ st e @ A5 es u e @3 jO ss mem fl e @ e @4 ch.getD e 0 @2 ? ?
b NameKind.free `== env.scope.kind .function `== `&& env.kindOf n @ some _ @ `== `&& true `= n NameKind.cell ,2 n b ,2 ?
Ev List k8 @ `×
KH X CL b Z δ1 ts vs CL c @ @8
cu aH cF mT s w @2 E.jE QaJ aj cF s w ,2 E.uQ E.gg 6 @ aj Qax aj Qbc aL @2 @2 m @5 aL @2 trivial @5 bG @2 aC @2
kla_obj '<lambda> q params body scope Qb7 X.mg '__name__ @ >getD .none @ g i @9
newFunctionEnv scope X.env.globals Qb7 [0 X.env.qual none .none some X.env @ @8
r .ok .ret .bool true @ @ @ `= OldK f.heap s'.heap @2 s'.os f.os `= AllBare s'.gens @ `∧ `∧ `∧ \\s' \\r
aQ c_ c s ,2 E.CQ QaJ ah QU ah Q3 aF @2 @2 j hs <2 aR _ @ @6 rfl @2
f rfl H1 Z1 Y ts vs _ c k H2 Z2 a.trans d @ Qaf g @5 \\g \\k2 \\d \\Z2 \\H2 @9
Option V @
dB X.prog X.w X.K X.mg X.base oS k f fd ps qr X.K CL c n arg Pre res @7 @11
y c.d mo w x >1 s.rs s.sp <3 GS : toN c p Qbp @3 ,6 \\y
far decide e j3 aE isAll es ss mem far es.length near t @9 `∈ @ `&&
KO g f I h e pins s2 Y H2 x y v u Q i d c q @13 \\q \\c \\d \\i \\H2 \\y \\x \\s2 \\u \\v @5
swapsWith value some .Subscript o i pos' @3 @ pos.line X.env @4 pure false @ `=
.jN k _ gF @2 >trans h @ av.conv e f @2 av.conv e g @2 @3 \\k \\g \\f \\h
fnOf x x gH st @ bJ st @ Qa7 .ref tp @ kV doc pm an d7 ct @12
lh h9 e @ I.ok.above @2
ah QU ah Q3 aF @2 @2
fL E.aS E.iR Qb8 rfl rfl gy @6
xs.isEmpty ~! Builtin.List.listTooLong xs.size ys.size `+ @ `&& true `= ~¬
swapsWith e some .Subscript e0 e2 ps @3 @ pos.line X.env @4 pure false @ `=
.Subscript e0 e2 ps @3
kvs.map b >1 k `= b >1 t' ,2 b ? \\b @
fnOf name qual params body scope dV kV doc pm an d7 ct @12
kvs.map a >1 k `= a >1 y ,2 a ? \\a @
c c `= b.B c @ >isSome true `= `∧ some _ @ b.B c @ ?
c c `= b.Z c @ >isSome true `= `∧ some _ @ b.Z c @ ?
.ListComp elt .Name y px @2 iter ifs 0 <4 [1 scope pos @4
.ins 'Growth Np cd mo w Ho s.fl p @2 s.rs s.sp <3 @4 @2
au aK E.Jt QP @2 @
au aK E.t9 QaC @2 @
Kp 'spot [1 =xs .cons E.ll 2 @ >1 .inl E.DN @ .nil @3 Wf @3
n 'int 'str 'list 'tuple 'bool 'dict [6 `∈
kla_fn '<lambda> q params body scope cl pm cd ct @9
G.all sc.names.lookup x @ some .globalImplicit @ `== \\x @
Se tg =tg sX X e @2 =te cA pins s Y H _ I tH h S @2 @10
jP ks es Qci @3 1 ~- `= jP ks es Qci @3 bM es f9 ws i @2 >ij >toNat @2 `∈ `∨
HT.jR xs.length xs.length hi @3 HT.jR xs.length 0 lo @3 `-
a >1 k `= a >1 v ,2 a ? \\a
a >1 k `= a >1 d ,2 a ? \\a
O2 QeN gQ c @ >map .str @ Nr c @ QeO QbZ @5
.iC k _ gF @2 >trans h @ bP.conv e f @2 @2 \\k \\f \\h
H a @ >isSome true `= Z a @ W' a @ ?
wpAny_updateSeq hl rfl b =hz hz =_hz' @4
.Call .Attribute QaO 'extend pa @3 e [1 [0 pb @4
.builtin 'dict.values @
R.map T.lst l.map D.int @ >map T.sh @ @ \\l @
ns.getD c ns.length Int : `% >toNat Str.empty @2
dB X.prog X.w X.K X.mg X.base oS k f fd ps QhI @11
X.env.kindOf y >1 @ some .cell @ `= X.env.kindOf y >1 @ some .free @ `= `∨
a.contains y >1 @ scope.names.lookup y >1 @ some .free @ `== `&&
x4 h'.objs.size q params body scope Qb7 g @7
decide x oZ ks es ops QaS @4 `∈ @ ~! \\x
aH bW Qlf ao vY @3 aH bW Qlf ao EC @3 bG @2 @2
qi yX f hm PySem.boot_len QaY hs =he @6
.Call .Attribute e0 'append pa @3 e [1 [0 pb @4
Eu E.g E.dg E.xS QcZ bI _ @ Q1 QaC @7
its.toArray.size 1 `-
N.all sc.names.lookup x @ some .local @ `== \\x @
attributeBase e 'values X.env QdH @4 eval e X.env @2 `=
.Call .Attribute e 'values pa @3 [0 [0 pc @4
spliced backTo pos starEach es X.env @2 @2 @
typeOf QeH @ pure .type 'method_descriptor @ @ `=
scope.names.lookup y @ some .free @ `== \\y
Qk8 true `= _ _ ?
entryOfKey tupleKind ez X.prog X.w @2 @ q @2
SP X pins KN X E @2 .next s' @5 \\s' \\_
Lj bs hs bg pr .dct gK kvs.take j @ @ @ @5
.int j i `< j i ? @
some .builtin 'object.__setattr__ @ @
.Call .Attribute e m apos @3 args [0 pos @4
i j rfl rfl q <5 \\q \\_ \\_
p2 f _ z @2 >2 >2 >elim .inl .inr @2 @ \\z
c6 X scope Nc s.heap.objs.size s H fp @7
.Call .Name 'enumerate pr @2 e [1 [0 pc @4
List.range keys.zip us.toArray @ >size @
.lst iF es cs j @3 >map .int @ >map T.sh @ @
.lst cN es u tg @3 >map .int @ >map T.sh @ @
Value Addr Result Shared Prop ^ ^ ^ ^
G9 X CL b Qav QdL dl.map T.sh @ δ1 @7
d.N6.toS 'open 'shut [2 At : `∈
cM aX QdI QbA Fp vh f @2 @3 SG m @ @2
.lst Nn FT s @ >is @ Nn FT s @ >os @ mO FT s @ >ws @ [3 @
compareOp op @
K.lookup f @ some oc od .func QfN @ IB <4 @ `=
.Assign .Subscript o i pos' @3 [1 value pos @3
back p q ?
p >1 8 `% 3 `< 1 0 ?
bQ cD E.dg Qey m9 _ @ Q1 aW @5 @
bQ cD E.dg Qey bI _ @ Q1 aW @5 @
.Call .Name 'tuple pp @2 e [1 [0 pos @4
Dh cS 'tuple 'len 'TooWide [3 X CL @4
bW Qax au aK E.vI E.gg 8 @ @2 @ EC @3
bW Qax au aK E.qA E.gg 9 @ @2 @ Om @3
aZ Q3 au aK E.SN QP @2 @ Qd0 @3
aZ Q3 au aK E.ua Q1 @2 @ Qd0 @3
fX Nq c mo gQ c @ @3 >getD Qfa @ >rs @
k1.trans k2.trans k3.trans c @ @ @
SP X pins E .next s' @5 \\s' \\_
Block X CL scope Nc ifs elt δc ds p g @10
.ins 'Table O2 bs hs bg pr kvs @5 @2
.call .ref R @ .ref a @ [1 [0 <2 @2
.cons E.ll 0 @ >1 .inl E.Pk @ .nil @3
its.toArray.size c.toArray.size `+
oT X CL b .Name y px @2 iter U ds δ1 @8
d pm.mem_iff.mp z @ @ \\z
Obj.isFreed_of_fields w4 hd _ @2 @
nN aE isAll es ss mem far near u t x @10
mv ks es ws mem ops rj ws some @2 @6
List.replicate c.es.length 1 ~- @2
tN Qcy bI _ @ lV lW QbA @ @4
0 f9 ws i @2 >ij `≤ f9 ws i @2 >ij es.length `< `∧
Du E.g.nd E.g.calm Qa0 QcA @4
mP yZ i hm hv QaY hs =he @6
.type 'list_reverseiterator @
ks.getD x.toNat Str.empty @2 'leaf `=
.str _ _ vH h.ok _ @2 @3 \\n
fL E.aS E.dS Qh3 rfl rfl eu @6
aQ cF c E.GH QaC Qix j @5 I @2
z >2 b f @2 >trans e @ \\e \\f \\o \\b
v .non `= Q Qdd H2 @2 `∧ \\H2 \\v
aV K CL b H Z U Y tl ts `++ us vs `++ @9
vs.map some @ List.replicate n none @2 `++
RH K CL ps.length arg Pre res @6
cG X CL b dO δ1.set i QfZ @2 DD @6
List.replicate xs.length none @2
Turn X.prog X.w X.K tg J fp it tn @8
aV K CL b H Z U Y .sh d @ ts `:: QaT @9
M >2 b j @2 >trans e @ \\e \\j \\f \\b
zO yP R b @2 @ zO yP R a @2 @ `< \\b \\a
fL E.aS E.fE Qb8 rfl rfl tZ @6
PySem.F.args_tuple_add_2 _ _ @2
sortedAll_old \\_ \\_
List.sublist_append_left _ _ @2
hideAll s.heap Qbz @2 >StaysIn h @
.Try body h0 hs `:: [0 [0 pos @5 dO `::
seqObj 'tuple us.toArray 0 @3
R.map D.lst Qcx @ \\l @
.lst l.map .int @ >map T.sh @ @
aX QU aZ Q3 QpD qW @3 G @3
aj Qbw aj Qbc aj m7 aL @2 @2 @2
fW ks x @2 decide x bM es c @2 `∈ @ `&&
letOwnedTupleGo tg Qbq u @3
aV K CL b H Z U Y Ql7 QdG @9
bR X CL b e U .sh .bl p @ @ δ1 @7
bR X CL b e1 U .sh QgH @ δ1 @7
vt X.K CL n arg Pre res out @7
aj QdR aj QdR Qk7 @2 @2
h pins s Y H Q I.hu _ @ hw @7
instObj C s.heap.objs.size @2
.sh .lst row.map .int @ @ @
rC c mo gQ c @ s.fl.length 0 s @6
x '__classdict__ Str : `==
Value B2 `× Shared Prop ^ ^
d pos pins s1 Y H1 _ i q1 @8
lQ X.K H p ys @4 qh X.K H p ys @4 `∨
.lst xs zs `++ @
Obj.mapSeq x ys `++ \\x @
aV X.K CL b H1 Z1 δ1 Y ts vs @9
cs.getD j Int : >toNat 0 @2 2 `/
bD aj dH aj Qbc aL @2 @2 aC @2
iQ Qpr rfl gW gy @ rfl @4
au Vv E.e7 Qbk Q1 @3 @
Nat.mul_le_mul_right _ h1 @2
.BoolOp .Or b rest `:: pos @3
.BoolOp .Or a b rest `:: `:: pos @3
Rw P w K mg base A outer s H @9
cL X CL b e2 δ1 .str j @ U2 @7
.Compare e1 .Lt [1 e2 [1 pos @4
.Compare e1 .Gt [1 e2 [1 pos @4
bootBuiltins 'list @ some Qgp @ `=
c6 X scope Nc C s0 H0 f0 @7
apos.endLine pos.line `== true `=
F.args_list_extend_2 _ _ @2
PySem.Fin Shared Prop ^ ^
.str _ _ vH Wf _ @2 @3 \\n
au v_ YU 0 =i rfl Wf @3 @ @
I.base.keep b o e n D g @6
D b o f e @4 \\e \\f \\o \\b
.Pass 0 0 0 0 <4 @
b k a hV _ c @2 @2 \\c \\a @
.sh .bl decide i j `= @ ~! @ @
cL X CL b e1 U .str i @ δ1 @7
.BoolOp .Or e2 es `:: pos @3
.BoolOp .Or e e2 es `:: `:: pos @3
c6 X scope Nc C s0 b f0 @7
.lst ds Ao `++ >map T.sh @ @
.inr Qck @ \\z
some .iC wB kvs k d @3 @ @
defaultsOf params X.env @2 [0 [0 ,2 `=
sk X.K CL n arg Pre exc @6
.type 'StopIteration @
S b f j e @4 \\e \\j \\f \\b
nsIn K mainGlobals x @3 some Qc2 @ `=
f.Oj s' a _ l @3 t1 t2 t3 @4
no _ _ d b x0 e he.symm @7
QvG os.getD m.toNat [0 @2 `++
ml i j a b h' <5 @
c 48271 `* 2147483647 `%
List.range s.fl.length @
Value Value Sem Value @ ^ ^
h pos pins s Y H _ I c @8
f pos pins s Y H _ I h @8
upd H p .tup xs ys `++ @ @3
.Attribute o name apos @3
.BinOp e1 .Mult e2 pos @4
upd H a .lst us v [1 `++ @ @3
cL X CL b e U .int k @ δ1 @7
f.trans s3.trans s' @ @
ys.map some @
some QgQ @
cL X CL b e2 δ1 Qc7 U2 @7
.ok .ret Value.none @ @
bR X CL b e2 δ1 zo k @ U2 @7
cL X CL b e2 δ1 nT k @ U2 @7
decide x m `= @ ~! \\x
.lst gQ c @ >map .str @ @
aH Qbw aH Qh8 bG @2 @2
isTrue e X.env QdH @3
.Constant .none j pos @3
Result Shared Prop ^ ^
.inr o e _ _ h @3 <2 @
bR X CL b e1 U QdN δ1 @7
.sh .int ds.length @ @
PySem.revObj l Qp4 @2
.Call Qlp x [1 [0 pq @4
cL X CL b e1 U AU k @ δ1 @7
seqObj 'list keys e @3
cL X CL b e1 U QgH δ1 @7
body pins s1 I.hu _ @ @3
s.TypeIs .ref d @ 'dict @2
p2 Qck @ \\z
qx Ki s FQ s @ d.qI @3 @
jv E.fD E.fj Qax j6 @4
isTrue e X.env whole @3
.ins C dx oR f y fs @3 @3
HT.jR xs.length 0 lo @3
Meets K CL b Z ts vs D E @8
j.trans a.trans i @ @
cL X CL b e U QiW δ1 @7
List.cons_ne_nil _ _ @2
pm.nodup_iff.mpr nd @
.lst tl ds.map T.sh @ `++ @
cL X CL b e U .int w @ U @7
x t `= t Int : bM es x @2 `∈ `∨
aH vM E.ll 6 @ >1 @ bG @2
au bW Qlf ao qW @3 @
n \\n \\_ \\_ \\_ \\_
storeName X.env x u @3
h pins s Y H Q I hw @7
hl pins s Y H _ I h @7
ia _ q @2 \\q \\u \\b
starEach args X.env @2
ia _ q @2 \\q \\i \\b
.int b @ \\_ \\b
.str b @ \\_ \\b
.val b @ \\_ \\b
.cons g.mono k2 @ f @2
D.nx δ1.set i QaM @2 @
ForInStep.yield ok @
.bl t n `== Qlg `|| @
s1.heap.objs.size 1 `+
scope.isCoroutine false `=
scope.isGenerator false `=
xG bs nm t is os ws @6
.int _ _ @2 \\n
f l.getD QeE z @2 @
au jT Q2 Qbk @2 @
cu aH QdR bG @2 aC @2
.lst ws.map WY.d @ @
40 nB s @ >length `-
au aK E.LC QbD @2 @
c pins s Y H _ I h @7
b pins s Y H Q I h @7
hV _ hV _ jQ k e @2 @2 @2
k pins s Y H _ I h @7
intBits_le_64 h1 a @2
x.above y c ph h @ @3
call QeH v us `:: @2
.bl b @ \\_ \\b
behindInMarks op e2 @2 false `=
mM X CL b es δ1 ds U2 @7
Rk d hi c cA hs hf @6
hV _ hV _ jQ a e @2 @2 @2
q \\_ \\q \\_ \\_
a.ck.fresh mi _ @ @
Nj n r >2 @2 \\r
no _ _ x0 e d b he @7
.int sM s.fl p @2 Nat : @
au aK E.t9 QP @2 @
au aK E.t9 Q1 @2 @
bW Qax QpD qW @3
bW Qax QpC vY @3
au aK E.ua QaC @2 @
e \\e \\_ \\_
starEach e [1 X.env @2
getMethod ov m pl @3
ns.map WData.int @
List Key Value `× @
.Name 'range pr @2
q \\q \\_ \\_
xl X CL b lo δ1 l U2 @7
xl X CL b hi U2 h δ3 @7
.ins CL c @ dx [0 @3
.pin y .ins c [0 @2 @2
starEach [0 X.env @2
.lst tl.set j t @2 @
pm.mem_iff.mpr d @
FB Shared Prop ^ ^
qh X.K H b k.map kV @ @4
nZ K C x qual st f fd @7
call QpS .ref a @ [1 @2
kz.getD i 0 @2 kz.getD j 0 @2 `<
yP R Wv mT _ w @2 @ @2
l.getD QeE [0 @2 d [1 `++
Ts n _ @2 \\n
aZ Q3 QpC vY @3
.tup p >1 >map kV @ @
I.base.CZ b xs e @3
eval QaF X.env @2
zp X pins Y tg R @5
.Name 'range p @2
yS X binaryOp op @ r @3
.builtin 'min @
h1.symm.trans e @
.Expr QkG pos @2 dO `::
l.getD k.toNat z @2
L2.St Hp Prop ^ ^
.lst xs.reverse @
b8 cA J6 bz hs @ @3
.builtin 'any @
xs.size ys.size `+ sizeLine 1 `+ `≤
U.set i some n @ @2
Nat.succ.inj hl @
eval QaO X.env @2
pm.mem_iff.mp d @
d sysModules `== false `=
L3.D.tup ks @ ds `∈
List Str L3.D `× @
es.getD QR 0 @2
bW Qgj ao rfl @3
cK E.ll 6 @ >1 rfl @2
aZ jl 0 @ ao rfl @3
Eh Qh8 ao rfl @3
.sh .str mode @ @
aX QkI QU Ni @3
VX E.ll 6 @ >1 rfl @2
kvs.take QR @
.tup .int a @ .int c @ [2 @
.lst q >2 >map WH @ @
w o4 s gQ c @ @2 `∈
.tbl ps more `++ @
op CmpOp.NotIn `==
eval iter X.env @2
Int Int Prop ^ ^
binaryOp .Mult @
plainGet K C name @3 true `=
A.under QkJ @
.type 'tuple @
A.deeper QfO @
kvs.length sizeLine `<
p4 X CL b e U p δ1 @7
NR aaL cA cA hs @4
f.trans QiI @
l.deeper QfO @
zi X CL tg is parts @5
List.range' 0 n @2
A.frames some X.stack @ `=
HI X CL b e U c δ1 @7
kk c WA @2 \\A \\c
h.Ns mainGlobals mg @2
C.trans QiI @
Nat Nat Bool ^ ^
kz.length xs.length `=
rB c.ks c.es c.ws a @4
jP ks es Qci @3
aj QaE Qix @2
.str 'way @ .int i @ z `:: `::
h z QjV @2 \\hz \\z
h e QjW @2 \\he \\e
.inr Qg3 @ \\z
aX QU Qbk QjH @3
e Qm6 @ \\z
upd H a .dK QmV @ @3
.Return Qj4 pos @2
.sh .lst QnU @ @
aX QU Q3 QjH @3
.int Qd4 s.toks @2
.sh .bl QmD @ @
O5 c mo p QnT y @5 some x @ `=
f.trans Qm9 @
decide Qn8 @
XW Y ix Qsw @3
Y.set i Qsx @2
upd H l QrF @3
X.calm true `=
AC X e [0 @3
lC X scope xs Nc ix @5
List κ V `× @
Program
cL X CL b e2 δ1 .int k @ U2 @7
Vo K x qual st f fd @6
cL X CL b e U d δ1 @7
R0 X CL b e U t δ1 @7
arg a @ >length n `=
C8 m @ true `= D.tup .str 'keep @ .int m @ .int mem.getD m.toNat 0 @2 @ .int bh.getD m.toNat 0 @2 @ [4 @ [1 [0 ?
Loc X.env.scope x @2
FuncData
List lE BB `× @
List κ Value `× @
i δ1.length `<
Vn X i x @3
cy K CL H Z kvs gs fp @7
t es.length `<
X.N.Nodup
A BB ^
sY P w H h @4
Around
cL X CL b e U QbX δ1 @7
QvA
QvQ
QvS
bC K CL Z d v @5
Ln X i x @3
A.handled none `=
cO N ps Qa7 @3
Binds X.K fd ps ds @4
bw K CL H Z t v fp @7
Qvx
g7 X scope y Nc ix @5
Gl X x @2
PE X e te @3
X.mg 'list @ none `=
m es.length `<
Array DictEntry @
D.aY ds @ true `=
QvI
av K CL Z ds vs @5
Conv Z Z' @2
Qvw
QvM
Vals xs us @2
RelV y u @2
PE X a ta @3
AN X iter @2
QvU
QvV
QvW
Qv5
Qv3
Qwb
Qwe
Qwf
QvY
Passes CX X E @3
yU X.K CL c @ @2
String
C6 H v0 p w @4
x es.length `<
QvP
PA X Qav t @3
ay Z Z' @2
KV kvs vs @2
PE X o td @3
PE X i ty @3
A Bn ^
Option Expr @
Gl X 'list @2
RelV v u @2
k es.length `<
QvR
Qvz
A T ^
Qwk
Qwl
Qwm
Qwn
Qwo
Qwp
Qwq
QwL
Qwr
Qws
Qwv
Qwy
QwE
QwJ
QwK
QwM
QwN
QwO
QwP
QwQ
QwR
QwS
QwT
QwU
QwV
QwW
QwX
QwY
QwZ
Qw0
Qw1
Qw2
Qw3
Qw4
Qw5
Qw6
Qw7
Qw8
Qw9
Qxa
Qxb
Qxc
Qxd
Qxe
Qxf
Qxg
Qxh
Qxi
Qxj
Qxk
Qxl
Qxm
Qxn
Qxo
Qxp
Qxq
Qxr
Qxs
Qxt
Qxu
List AW @
Db AT `×
Qwh
Qv6
QwA
QvO
Vals JQ ds @2
A Str ^
H p @ none `=
QvL
Qwd
ay H H' @2
Qwi
PE X b tb @3
Qwj
eL k X.A @2
Qvy
Operator
Qwg
QwH
QvX
QvF
Qv8
QvJ
Qo9
List Bool @
Array Nat @
List WY @
QvH
PT X a tA @3
QwB
QvZ
QvC
Qv0
QwC
QwD
QvD
QvT
Qwa
AB X pb e @3
P 0 δ1 @2
A BS ^
QvE
D Bool ^
l.Nodup
AT AT `×
AM X x @2
QvK
Sem Bool @
Qph
Qww
Qwx
List _ @
Qv1
Qwt
Qwz
QwF
Qv9
Qv2
Qwc
QvB
Qv7
QwG
Qwu
Qv4
QvN
QwI
w l `::
Qxv
Qxw
Qxx
Qxy
Qxz
QxA
QxB
QxC
QxD
QxE
QxF
QxG
QxH
QxI
QxJ
QxM
QxN
QxO
QxP
Qx6
Qx7
Qx8
QxT
QxU
Qyc
Qyu
Qye
Qyf
Qyg
Qyh
Qyi
Qyj
Qyk
Qyl
Qym
Qyp
Qyq
QxW
QxY
Qx0
QxK
Qx2
Qx3
Qyv
QyA
QxV
Qyx
Qx4
Qx5
Qyo
QxR
Qyy
Qyz
Qyb
QxS
QxL
QyB
QyC
QyD
QyE
QyF
QyG
QyH
QyI
QyJ
QyK
QyL
QyM
QyN
QyO
Qys
QxZ
Qyd
Qyw
Qyn
Qyr
Qx9
Qya
Qyt
QxX
Qx1
QxQ
QyQ
QyR
QyS
QyT
QyU
QyV
QyW
QyX
QyY
QyZ
Qy0
Qy1
Qy2
Qy3
Qy4
Qy5
Qy6
Qy7
Qy8
Qzc
Qzd
Qzr
Qzs
Qzt
Qzu
Qzv
Qzw
Qzz
QzB
QzC
QzE
Qy9
Qza
Qzb
Qze
Qzf
Qzg
Qzh
Qzi
Qzj
Qzk
Qzl
QzI
Qzm
Qzn
Qzo
Qzp
Qzq
QzJ
Qzx
QzZ
Qzy
QzA
QzD
QzF
QzG
QzH
Qz7
Qz8
QzK
Qz9
QzL
QzM
QzN
QzO
QzP
QzQ
QzR
QzS
QzT
QzU
QzV
QzW
QzX
QzY
Qz0
Qz1
Qz2
Qz3
Qz4
Qz5
Qz6
QAa
QAb
QAc
QAd
QAe
QAf
QAg
QAh
QAi
QAj
QAk
QAl
QAm
QAn
QAo
QAp
QAq
QAr
QAs
QAt
QAu
QAv
QAw
QAx
QAy
QAz
QAA
QAB
QAC
QAD
QAE
QAF
QAG
QAH
QAI
QAJ
QAK
QAL
QAM
QAN
QAO
QAP
QAQ
QAR
QAS
QAT
QAU
QAV
QAW
QAX
QAY
QAZ
QA0
QA1
QA2
QA3
QA4
QA5
QA6
QA7
QA8
QA9
QBa
QBb
QBc
QBd
QBe
QBf
QBg
QBh
QBi
QBj
QBk
QBl
QBm
QBn
QBo
QBp
QBq
QBr
QBs
QBt
QBu
QBv
QBw
QBx
QBy
QBz
QBA
QBB
QBC
QBD
QBE
QBF
QBG
QBH
QBI
QBJ
QBK
QBL
QBM
QBN
QBO
QBP
QBQ
QBR
QBS
QBT
QBU
QBV
QBW
QBX
QBY
QBZ
QB0
QB1
QB2
QB3
QB4
QB5
QB6
QB7
QB8
QB9
QCa
QCb
QCc
QCd
QCe
QCf
QCg
QCh
QCi
QCj
QCk
QCl
QCm
QCn
QCo
QCp
QCq
QCr
QCs
QCt
QCu
QCv
QCw
QCx
QCy
QCz
QCA
QCB
QCC
QCD
QCE
QCF
QCG
QCH
QCI
QCJ
QCK
QCL
QCM
QCN".splitOn "\n").toArray
def qqI (c:Char):Nat:=if 'a'<=c then c.toNat-97 else if 'A'<=c then c.toNat-39 else c.toNat+4
local macro_rules | `($x:ident)=>let u:=Lean.Macro.throwUnsupported;match x.getId with
 | .str .anonymous s=>let f:=fun n=>match qqT[n]? with
   | some t=>if t.isEmpty then u else pure ((t.splitOn " ").foldl qqS []).head!
   | _=>u
  match s.toList with
  | ['Q',a]=>f (qqI a)
  | ['Q',a,c]=>f (62+62*qqI a+qqI c)
  | _=>u
 | _=>u
noncomputable section
namespace L2
open PySem PySem.Spec PyProof.Rows
abbrev cq:=@List.length_map
abbrev gF:=@List.mem_cons_self
abbrev cz:=@wpAny_bind
abbrev fF:=@List.mem_cons
abbrev hJ:=@List.mem_cons_of_mem
abbrev hT:=@Nat.le_of_ble_eq_true
abbrev hV:=@List.mem_append_right
abbrev hG:=@List.mem_append
abbrev hU:=@List.mem_singleton
abbrev bS:=@if_neg
abbrev hZ:=@List.mem_append_left
abbrev ia:=@Heap.get?_push_of_some
abbrev h5:=@List.append_assoc
abbrev iB:=@List.getElem?_eq_getElem
abbrev i4:=@List.getD_eq_getElem?_getD
abbrev hP:=@List.mem_map
abbrev hI:=@Nat.le_refl
abbrev hX:=@List.append_nil
abbrev hL:=@wpAny_pure
abbrev ec:=@if_pos
abbrev h7:=@List.map_append
abbrev ib:=@List.getElem?_map
abbrev hW:=@List.map_map
abbrev i0:=@List.mem_of_getElem?
abbrev iq:=@List.length_append
abbrev iw:=@of_decide_eq_true
abbrev iu:=@List.not_mem_nil
abbrev ko:=@List.getElem?_eq_some_iff
abbrev hY:=@Nat.zero_le
abbrev h9:=@Heap.lt_size
abbrev ik:=@List.map_cons
abbrev jj:=@Heap.get?_push_size
abbrev i5:=@List.mem_flatMap
abbrev i3:=@decide_eq_false
abbrev ji:=@Int.toNat_natCast
abbrev kc:=@List.nodup_append
abbrev kv:=@List.length_singleton
abbrev km:=@Bool.false_ne_true
abbrev ka:=@List.take_length
abbrev js:=@List.mem_filter
abbrev j2:=@Option.some.inj
abbrev i2:=@Nat.ne_of_lt
abbrev ky:=@of_decide_eq_false
abbrev kr:=@List.length_range
abbrev kq:=@List.length_cons
abbrev kn:=@List.nodup_cons
abbrev j0:=@PySem.W.mg_of
abbrev kf:=@decide_eq_true
abbrev lh:=@Nat.lt_of_lt_of_le
abbrev jq:=@Nat.le_trans
abbrev kx:=@Bool.and_eq_true
abbrev k4:=@List.lookup_cons
abbrev ke:=@Nat.le_of_lt
abbrev l8:=@List.perm_append_comm
abbrev i8:=@wpAny_mono
abbrev lL:=@Int.emod_lt_of_pos
abbrev mf:=@Option.map_eq_some_iff
abbrev l5:=@List.pairwise_cons
abbrev lj:=@Int.emod_nonneg
abbrev me:=@List.filterMap_cons
abbrev ma:=@PySem.W.mg_none_of
abbrev nr:=@List.length_filter_le
abbrev oC:=@List.pairwise_singleton
abbrev lx:=@List.mem_range
abbrev l9:=@List.length_take
abbrev lr:=@List.nodup_nil
abbrev l7:=@List.cons_append
abbrev kA:=@sizeLine_eq
abbrev nq:=@List.size_toArray
abbrev mx:=@List.Sublist.refl
abbrev nk:=@Nat.lt_of_le_of_lt
abbrev nh:=@Bool.false_eq_true
abbrev oy:=@beq_eq_false_iff_ne
abbrev ox:=@List.Sublist.append
abbrev ow:=@List.map_congr_left
abbrev tJ:=@PyProof.Rows.callWith_type1
abbrev o9:=@List.Perm.append_left
abbrev nz:=@Nat.le_succ_of_le
abbrev oI:=@List.filter_append
abbrev mB:=@List.filter_map
abbrev nv:=@List.any_eq_true
abbrev ph:=@PySem.mem_of_lookup
abbrev nt:=@List.find?_cons
abbrev pf:=@wpAny_Call_Name_kw
abbrev oD:=@List.all_eq_true
abbrev my:=@List.any_cons
abbrev pd:=@List.reverse_cons
abbrev pE:=@decide_eq_true_eq
abbrev pz:=@List.flatMap_cons
abbrev rp:=@List.length_reverse
abbrev ro:=@List.flatMap_append
abbrev wu:=@List.sublist_append_right
abbrev wt:=@List.drop_eq_getElem_cons
abbrev uj:=@Heap.get?_update_self
abbrev ui:=@List.length_replicate
abbrev y3:=@List.eq_nil_of_length_eq_zero
abbrev pw:=@List.perm_middle
abbrev pv:=@List.getElem_mem
abbrev mi:=@Nat.le_succ
abbrev la:=@Ne.symm
abbrev rk:=@List.take_add_one
abbrev pj:=@List.foldl_cons
abbrev ue:=@List.getElem?_range
abbrev ub:=@Heap.SameBut.update
abbrev t5:=@List.perm_iff_count
abbrev wq:=@Heap.get?_update_other
abbrev wj:=@Array.getElem?_eq_none
abbrev t4:=@List.find?_eq_none
abbrev wi:=@List.take_append_drop
abbrev l6:=@if_false
abbrev wg:=@List.mem_of_mem_take
abbrev rh:=@List.length_set
abbrev y2:=@wpAny_comprehension_free
abbrev rr:=@List.nil_append
abbrev oP:=@Int.zero_add
abbrev xc:=@wpAny_newObj_type
abbrev u6:=@Bool.not_eq_true'
abbrev rq:=@wpAny_holding
abbrev y8:=@PySem.F.plainAttrs_list
abbrev y6:=@List.filter_cons_of_neg
abbrev y5:=@List.filter_cons_of_pos
abbrev xb:=@PySem.W.hideAll_get
abbrev xa:=@List.mem_map_of_mem
abbrev u5:=@Nat.lt_succ_self
abbrev w8:=@List.length_drop
abbrev w7:=@wpAny_call_entry
abbrev w4:=@Obj.data_mapFields
abbrev u4:=@wpAny_passesOwn
abbrev u3:=@wpAny_specialOf
abbrev uu:=@List.filter_nil
abbrev w1:=@wpAny_truthy_bool
abbrev wz:=@List.count_append
abbrev HE:=@List.mem_of_find?_eq_some
abbrev y4:=@List.getElem?_of_mem
abbrev uk:=@List.take_zero
abbrev aAW:=@PySem.F.args_tuple_add_2
abbrev wy:=@beq_self_eq_true
abbrev wx:=@List.mem_reverse
abbrev HA:=@Array.length_toList
abbrev zd:=@List.length_pos_iff
abbrev aA1:=@PyProof.Rows.slot_tuple_getitem
abbrev aA2:=@PySem.F.entry_tuple_add
abbrev u7:=@Nat.lt_irrefl
abbrev xk:=@Bool.eq_iff_iff
abbrev p3:=@beq_iff_eq
abbrev za:=@tupleKind_room_in1
abbrev xi:=@PySem.W.kia_one
abbrev xf:=@List.range_succ
abbrev HH:=@List.getElem?_set_self
abbrev aBa:=@PySem.F.slot_tuple_add
abbrev Hd:=@List.takeWhile_sublist
abbrev MU:=@wpAny_typeNameOfWhole_keyiter
abbrev MO:=@wpAny_typeNameOfWhole_valiter
abbrev yA:=@F.slot_tuple_hash
abbrev tL:=@List.map_nil
abbrev Hc:=@List.getElem?_eq_none
abbrev we:=@Bool.and_false
abbrev MM:=@List.takeWhile_append_of_pos
abbrev rg:=@call_meets
abbrev Ha:=@List.pairwise_append
abbrev G4:=@List.Pairwise.filter
abbrev wd:=@Paired.length
abbrev MI:=@List.getElem?_append_right
abbrev wb:=@Bool.or_false
abbrev G3:=@wpAny_field
abbrev ME:=@PySem.F.slot_dict_getitem
abbrev Mo:=@List.getElem?_append_left
abbrev G2:=@PySem.W.of_hideAll
abbrev G1:=@PySem.W.callWith_K
abbrev Mn:=@PySem.F.slot_list_append
abbrev Me:=@PySem.F.type_list_append
abbrev Md:=@List.Pairwise.imp_of_mem
abbrev v3:=@List.map_set
abbrev GY:=@Bool.not_eq_false'
abbrev y1:=@Heap.size_push
abbrev y0:=@wpAny_setField
abbrev M1:=@List.getElem?_replicate
abbrev aBD:=@wpAny_callSpecial?_slot
abbrev MW:=@List.getElem?_cons_succ
abbrev Hn:=@List.ext_getElem?
abbrev Hm:=@eqIsQuiet_byValue
abbrev Hk:=@List.getElem?_inj
abbrev He:=@List.foldl_append
abbrev yY:=@wpAny_standAt
abbrev yB:=@Bool.and_true
abbrev Key:=Sum Int Str
noncomputable def Iu:Key->Value->Bool
 | .inl k,v=>Value.isInt k v
 | .inr x,v=>Value.isStrOf x v
noncomputable def arG(w:World):Key->Int
 | .inl k=>hashInt k
 | .inr x=>hashStr w x
theorem eK:∀{k:Key} {v:Value},Iu k v=true->(∃i t,k=Sum.inl i/\v=Value.int i t)\/(∃x t,k=Sum.inr x/\v=Value.str x t)
 | .inl i,v,h=>by
  obtain⟨t,e⟩:=Value.isInt_shape h;exact .inl ⟨i,t,rfl,e⟩
 | .inr x,v,h=>by
  obtain⟨t,e⟩:=Value.isStrOf_shape h;exact .inr ⟨x,t,rfl,e⟩
def Xi(i:Int)(t:Tok):Iu Qku QgI=true:=by simp[Iu,Value.isInt]
def Xj(x:Str)(t:Tok):Iu (.inr x) QoU=true:=by simp[Iu,Value.isStrOf]
theorem ajW(a b:Int):decide ((Sum.inl a:Key)=Sum.inl b)=(a==b):=by
 by_cases e:a=b
 .subst e;simp
 simp_all
def ajX(a b:Str):decide ((Sum.inr a:Key)=Sum.inr b)=decide (a=b):=by simp
def ajY(a:Int)(b:Str):decide ((Sum.inl a:Key)=Sum.inr b)=false:=i3 (λq=>nomatch q)
def ajZ(a:Str)(b:Int):decide ((Sum.inr a:Key)=Sum.inl b)=false:=i3 (λq=>nomatch q)
def ez(prog:Qah)(w:World):PySem.KeyKind prog w Key where
 is:=Iu
 hash:=arG w
 inj:=λv a b f c=>by
  obtain⟨i,t,rfl,rfl⟩|⟨x,t,rfl,rfl⟩:=eK f
  .obtain⟨j,u,rfl,e⟩|⟨y,u,rfl,e⟩:=eK c
   .injection e with e1 _;rw[e1]
   .exact nomatch e
  .obtain⟨j,u,rfl,e⟩|⟨y,u,rfl,e⟩:=eK c
   .exact nomatch e
   .injection e with e1 _;rw[e1]
 byValue:=λk v h=>by
  obtain⟨i,t,rfl,rfl⟩|⟨x,t,rfl,rfl⟩:=eK h<;>rfl
 pyHash:=λhv h=>by
  obtain⟨i,t,rfl,rfl⟩|⟨x,t,rfl,rfl⟩:=eK hv
  .exact wpAny_pyHash_int h
  .exact wpAny_pyHash_str h
 eqBool:=λd hv h=>by
  obtain⟨i,t,rfl,rfl⟩|⟨x,t,rfl,rfl⟩:=eK d
  .obtain⟨j,u,rfl,rfl⟩|⟨y,u,rfl,rfl⟩:=eK hv
   .rw[ajW]at h;exact wpAny_eqBool_int h
   .rw[ajY]at h;exact SeqAt.EqAt.int_str i t y u _ _ _ _ h
  .obtain⟨j,u,rfl,rfl⟩|⟨y,u,rfl,rfl⟩:=eK hv
   .rw[ajZ]at h;exact SeqAt.EqAt.str_int x t j u _ _ _ _ h
   .rw[ajX]at h;exact wpAny_eqBool_str h
 «strs»:=λk x t v h=>by
  obtain⟨i,u,rfl,e⟩|⟨y,u,rfl,e⟩:=eK h
  .exact nomatch e
  .injection e with e1 _;subst e1;cases v<;>rfl
def Nt(prog:Qah)(w:World)(i:Int)(t:Tok):(ez prog w).is Qku QgI=true:=Xi i t
def Nu(prog:Qah)(w:World)(x:Str)(t:Tok):(ez prog w).is (.inr x) QoU=true:=Xj x t
inductive V where
 | non|bl (b:Bool)|int (i:Int)|str (x:Str)|Rg (b:Array UInt8)|flt (b:UInt64)|ref (a:Addr)|ty (n:Qbg)
 deriving DecidableEq
def RelV:V->Value->Prop
 | .non,u=>u=Value.none
 | .bl b,u=>u=Value.bool b
 | .int i,u=>∃t,u=Value.int i t
 | .str x, u => ∃ t, u = Value.str x t
 | .Rg b,u=>∃t,u=Value.bytes b t
 | .flt b,u=>∃t,u=Value.float b t
 | .ref a,u=>u=Value.ref a
 | .ty n,u=>u=Value.type n
abbrev _root_.B1:=List V
abbrev _root_.B2:=List Value
abbrev Vals:B1->B2->Prop:=Paired RelV
variable{xs:B1}{us:B2}
theorem Vals.length(r:QcK):xs.length=us.length:=wd r
theorem Vals.get:∀{xs:B1} {us:B2} {i:Nat} {x:V},Vals xs us->xs[i]? = some x->∃u,us[i]? = some u/\RelV x u
 | _,_,_,_,.nil,e=>by simp at e
 | _,_,0,_,.cons r _,e=>by simp_all
 | _,_,i+1,x,.cons _ t,e=>by
  obtain⟨u,h1,a⟩:=Vals.get t (‹_›);exact⟨u,‹_›,a⟩
theorem Vals.set{x:V}{u:Value}(r:RelV x u):∀{xs:B1} {us:B2} (i:Nat),Vals xs us->Vals (xs.set i x) (us.set i u)
 | _,_,_,.nil=>.nil
 | _,_,0,.cons _ t=>.cons r t
 | _,_,i+1,.cons q t=>.cons q (Vals.set r i t)
theorem Vals.append:∀{xs ys:B1} {us ws:B2},Vals xs us->Vals ys ws->Vals (xs++ys) Qky
 | _,_,_,_,.nil,s=>s
 | _,_,_,_,.cons r t,s=>.cons r (Vals.append t s)
theorem Vals.take:∀{xs:B1} {us:B2} (n:Nat),Vals xs us->Vals (xs.take n) (us.take n)
 | _,_,0,_=>.nil
 | _,_,_+1,.nil=>.nil
 | _,_,n+1,.cons r t=>.cons r (Vals.take n t)
theorem Vals.drop:∀{xs:B1} {us:B2} (n:Nat),Vals xs us->Vals (xs.drop n) (us.drop n)
 | _,_,0,r=>r
 | _,_,_+1,.nil=>.nil
 | _,_,n+1,.cons _ t=>Vals.drop n t
abbrev _root_.FB:=Option Value
def sU:Option V->FB->Prop
 | some v,some u=>RelV v u
 | none,none=>True
 | _,_=>False
def KV{κ:Type}:List (κ×V)->List (κ×Value)->Prop:=Paired λ(p:κ×V) (q:κ×Value)=>p.1=q.1/\RelV p.2 q.2
noncomputable def kV:Key->V
 | .inl i=>.int i
 | .inr x=>.str x
abbrev _root_.CI:=List Key
abbrev _root_.B0:=List (CI×V)
abbrev _root_.Bz:=List (Str×V)
abbrev _root_.CO:=List (Key×V)
abbrev _root_.Cf:=Int->Bool
abbrev _root_.Ch:=Array Value
inductive HO where
 | lst (xs:B1)
 | tup (xs:B1)
 | dK (kvs:CO)|dT (kvs:B0)
 | set (S:Cf) (n:Nat)
 | ins (C dx:Addr) (fs:Bz)
 | own (x:Addr)
 | xd (fs:Bz)
 | met (f x:Addr)
 | rng (lo hi:Int)
 | bU (o:Obj) (u:HO)
 | tbl (ps:Ch)
 | tabs (q:Str)
 | Vc (q:Str)
 | ext (φ:Heap->Prop)
abbrev Hp:=Addr->Option HO
noncomputable def upd(H:Hp)(a:Addr)(o:HO):Hp:=λb=>if b=a then some o else H b
variable{H:Hp}{a:Addr}{o:HO}
theorem aA:upd H a o a=some o:=by unfold upd;simp_all
variable{b:Addr}
def aq(h:b≠a):upd H a o b=H b:=by unfold upd;rw[bS h]
def aok{u:HO}(h:H a=some o)(h':H b=some u)(d:o≠u):a≠b:=by
 intro e;subst e;rw[h]at h';exact d (j2 h')
theorem aJ(h:H a=some o)(h':H b=none):a≠b:=by
 intro e;simp_all
section
variable(P:Qah)(w:World)
def dD(H:Hp)(h:Heap)(a:Addr):HO->Prop
 | .lst xs=>xs.length<=sizeLine/\∃(its:B2) (n:Nat),Vals xs its/\h.get? a=some {cls:=.type "list",data:=.seq its.toArray n}
 | .tup xs=>xs.length<=sizeLine/\∃its:B2,Vals xs its/\IsTup h a its.toArray
 | .dK kvs=>kvs.length<=sizeLine/\Qcb=false/\∃vs,KV kvs vs/\h.DictOf Qc8 a vs
 | .dT kvs=>kvs.length<=sizeLine/\Qcb=false/\∃xs:List Qgd,
   Paired (λ(p:CI×V) (q:Qgd)=>p.1=q.1/\H q.2.1=some Qug/\RelV p.2 q.2.2) kvs xs ∧
   ∃o es ep,h.get? a=some o/\o.ExactDict/\o.data=.dict es ep/\es.toList=xs.map (entryOfKey QmN)/\(xs.map (·.1)).Nodup
 | .set S n=>h.SetOf (intKind P w) a S n
 | .ins C dx fs=>H dx=some Qha/\fs.length<=1000/\dx≠a/\h.get? a=some QnK ∧
   ∃mA,h.Ns1 dx mA/\(∀f,sU QnV (mA f))/\PySem.Within mA (fs.map (·.1))
 | .own _=>∃o,h.get? a=some o
 | .xd fs=>∃mA,h.Ns1 a mA/\∀f,sU QnV (mA f)
 | .rng lo hi=>∃t u v,h.get? a=some {cls:=.type "range",data:=.fields #[.int lo t,.int hi u,.int 1 v]}
 | .bU o u=>h.get? a=some o/\dD H h a u
 | .tbl ps=>h.get? a=some {cls:=.none,data:=.fields ps}
 | .tabs q=>∃ps:Ch,h.get? a=some {cls:=.none,data:=.fields ps}/\TriplesOk ps.toList/\∀pos d,codeAmong pos ps.toList=some d->∃c,d=.ref c/\H c=some Qcm
 | .Vc q=>∃o vs t,h.get? a=some o/\o.data=.fields vs/\vs[1]? = some (.str q t)
 | .met f x=>h.get? a=some (PySem.W.methodObj Qaj Qdd)
 | .ext φ=>φ h/\(∃o,h.get? a=some o)/\∀h1 b:Heap,φ h1->(∀o,h1.get? a=some o->b.get? a=some o)->φ b
def sY(H:Hp)(h:Heap):Prop:=∀a o,H a=some o->dD P w H h a o
end
variable{P:Qah}{w:World}{H':Hp}{h h':Heap}
theorem dD.lt(x:dD P w H h a o):a<h.objs.size:=by
 cases o with
 | lst xs=>obtain⟨_,_,_,_,e⟩:=x;exact h9 e
 | tup xs=>obtain⟨_,_,_,p⟩:=x;exact p.lt
 | dK kvs=>obtain⟨_,_,_,_,o,_,_,e,_⟩:=x;exact h9 e
 | dT kvs=>obtain⟨_,_,_,_,o,_,_,e,_⟩:=x;exact h9 e
 | set S n=>obtain⟨o,_,_,_,e,_⟩:=x;exact h9 e
 | ins C dx fs=>obtain⟨_,_,_,e,_⟩:=x;exact h9 e
 | own y=>obtain⟨_,e⟩:=x;exact h9 e
 | xd fs=>obtain⟨_,⟨_,_,_,e,_⟩,_⟩:=x;exact h9 e
 | rng lo hi=>obtain⟨_,_,_,e⟩:=x;exact h9 e
 | bU b u=>obtain⟨e,_⟩:=x;exact h9 e
 | tbl ps=>exact h9 (x)
 | tabs q=>obtain⟨_,e,_⟩:=x;exact h9 e
 | Vc q=>obtain⟨_,_,_,e,_⟩:=x;exact h9 e
 | met f y=>exact h9 (x)
 | ext φ=>obtain⟨_,⟨_,e⟩,_⟩:=x;exact h9 e
theorem Paired.LF{α β:Type}{F G:QnH}:∀{l₁:Q8} {l₂:List β},Paired F l₁ l₂->(∀a b,F a b->G a b)->Paired G l₁ l₂
 | _,_,.nil,_=>.nil
 | _,_,.cons r t,f=>.cons (f _ _ r) (Paired.LF t f)
theorem dD.yQ(x:dD P w H h a o)(k:∀b u,(b=a\/H b=some Qha)->h.get? b=some u->h'.get? b=some u)
  (l:∀b,H b=some Qha->H' b=some Qha) (j:∀b xs,H b=some Qbf->H' b=some Qbf) (iO:∀b q,H b=some Qcm->H' b=some Qcm:=by intro _ _ q;exact q):dD P w H' h' a o:=by
 induction o with
 | lst xs=>obtain⟨z,its,n,r,e⟩:=x;exact⟨z,its,n,r,k _ _ Qal e⟩
 | tup xs=>obtain⟨z,its,r,g,e,c⟩:=x;exact⟨z,its,r,g,k _ _ Qal e,c⟩
 | dK kvs=>obtain⟨z,y,vs,r,g,es,ep,e,c⟩:=x;exact⟨z,y,vs,r,g,es,ep,k _ _ Qal e,c⟩
 | dT kvs=>
  obtain⟨z,y,xs,r,g,es,ep,e,c⟩:=x;exact⟨z,y,xs,Paired.LF r λp q z=>⟨z.1,j _ _ z.2.1,z.2.2⟩,g,es,ep,k _ _ Qal e,c⟩
 | set S n=>obtain⟨g,es,ep,t,e,c⟩:=x;exact⟨g,es,ep,t,k _ _ Qal e,c⟩
 | ins C dx fs=>
  obtain⟨d,z,ne,e,mA,⟨od,es,ep,e2,c⟩,r⟩:=x;exact⟨l _ d,z,ne,k _ _ Qal e,mA,⟨od,es,ep,k _ _ (.inr d) e2,c⟩,r⟩
 | own y=>obtain⟨g,e⟩:=x;exact⟨g,k _ _ Qal e⟩
 | xd fs=>obtain⟨mA,⟨od,es,ep,e,c⟩,r⟩:=x;exact⟨mA,⟨od,es,ep,k _ _ Qal e,c⟩,r⟩
 | rng lo hi=>obtain⟨t,u,v,e⟩:=x;exact⟨t,u,v,k _ _ Qal e⟩
 | bU g u i=>obtain⟨e,q⟩:=x;exact⟨k _ _ Qal e,i q⟩
 | tbl ps=>
  have e:=x;exact k a _ Qal e
 | met f y=>
  have e:=x;exact k a _ Qal e
 | tabs q=>obtain⟨ps,e,tr,cs⟩:=x;exact⟨ps,k _ _ Qal e,tr,λpos m z=>let ⟨c,e1,e2⟩:=cs pos m z;⟨c,e1,iO _ _ e2⟩⟩
 | Vc q=>obtain⟨g,vs,t,e,r⟩:=x;exact⟨g,vs,t,k _ _ Qal e,r⟩
 | ext φ=>obtain⟨p,⟨o,e⟩,st⟩:=x;exact⟨st _ _ p λo q=>k _ _ Qal q,⟨o,k _ _ Qal e⟩,st⟩
theorem sY.lt(x:QbF)(e:H a=some o):a<h.objs.size:=(x a o e).lt
theorem sY.fresh(x:QbF)(e:Qoe):H a=none:=by
 cases q:H a with
 | none=>rfl
 | some u=>exact absurd (lh (x.lt q) e) (u7 _)
theorem sY.kept(x:QbF)(k:∀b u,h.get? b=some u->h'.get? b=some u):sY P w H h':=λa o e=>
 (x a o e).yQ (λb u _ q=>k b u q) QcC λ_ _ q=>q
theorem sY.laid(x:QbF)(k:∀b u,h.get? b=some u->h'.get? b=some u)(f:Qoe)(new:dD P w QbB h' a o):sY P w QbB h':=λb u e=>by
 have hn:=x.fresh f;by_cases d:b=a
 .subst d;rw[aA]at e;grind
 .rw[aq d]at e;exact(x b u e).yQ (λc v _ q=>k c v q) (λc q=>aq QcG▸q) (λc xs q=>aq QcG▸q) λc z q=>aq QcG▸q
def Rd(H:Hp)(a:Addr)(u:HO):Prop:=H a=some u\/∃o,H a=some Qg8
theorem Rd.ok{u:HO}(r:Rd H a u)(x:QbF):dD P w H h a u:=by
 obtain r|⟨o,r⟩:=r
 .exact x a u r
 .obtain⟨_,q⟩:=x a _ r;exact q
def zr:Option HO->Prop
 | some (.lst _)=>True
 | some (.dK _)=>True
 | some (.dT _)=>True
 | some (.set _ _)=>True
 | some (.ins _ _ _)=>True
 | some (.ext _)=>True
 | some (.tabs _)=>True
 | _=>False
variable{x e:Addr}{o':HO}
theorem sY.write(ok:QbF)(d:zr (H x))(he:Qo1)(k:∀b u,b≠e->h.get? b=some u->h'.get? b=some u)(f:∃u,h'.get? e=some u)
  (new:dD P w (upd H x o') h' x o'):sY P w (upd H x o') h':=λb u q=>by
 have l:∀c y,H c=some (.own y)->c≠x:=λc y r z=>by subst z;rw[r]at d;exact d
 have j:∀c xs,H c=some Qbf->c≠x:=λc xs r z=>by subst z;rw[r]at d;exact d
 have i:∀c q,H c=some Qcm->c≠x:=λc q r z=>by subst z;rw[r]at d;exact d
 by_cases g:b=x
 .subst g;rw[aA]at q;grind
 .rw[aq g]at q;by_cases a:b=e
  .have m:H b=some QgZ:=by
    obtain z|z:=he
    .exact absurd (a.trans z) g
    .rw[a];exact z
   rw[q]at m;cases m;obtain⟨v,hv⟩:=f;exact⟨v,a▸hv ⟩
  .refine(ok b u q).yQ (λc v n r=>k c v ?_ r) (λc r=>aq (l c b r)▸r) (λc xs r=>aq (j c xs r)▸r) λc z r=>aq (i c z r)▸r;grind
abbrev _root_.BY:=List Addr
structure Un(fs ex:BY)(H H':Hp)(h h':Heap):Prop where
 keep:∀b o,h.get? b=some o->H b=none->b∉fs->b∉ex->h'.get? b=some o
 slot:∀b o,h.get? b=some o->H b=none->b∈fs->b∉ex->∃sl,h'.get? b=some {o with slots:=sl}
 free:∀b o,h.get? b=some o->H b=none->b∉ex->H' b=none
 there:∀b o,h.get? b=some o->b∉ex->∃o',h'.get? b=some o'
 CZ:∀b xs,H b=some Qbf->H' b=some Qbf
 dz:∀b o u,H b=some Qg8->H' b=some Qg8
 C1:∀b ps,H b=some (.tbl ps)->∃more,H' b=some QuO
section
variable{fs fs' ex ex':BY}{H1:Hp}{h1:Heap}
theorem Un.any(u:Un fs ex H H1 h h1){a:Obj}(q:h.get? b=some a)(n:H b=none)(c:b∉ex):∃sl,h1.get? b=some {a with slots:=sl}:=by
 by_cases d:b∈fs
 .exact u.slot b a q n d c
 .exact⟨ _,u.keep b a q n d c⟩
theorem Un.kept(k:∀b u,h.get? b=some u->h'.get? b=some u):Un fs ex H H h h':=
 ⟨λb a q _ _ _=>k b a q,λb a q _ _ _=>⟨ _,k b a q⟩,λ_ _ _ n _=>n,λb a q _=>⟨a,k b a q⟩,λ_ _ q=>q,λ_ _ _ q=>q,λ_ ps q=>⟨#[],‹_› ⟩⟩
theorem Un.refl:Un fs ex H H h h:=Un.kept λ_ _ q=>q
theorem Un.laid(k:∀b u,h.get? b=some u->h'.get? b=some u)(c:Qoe)(hn:H a=none):Un fs ex H QbB h h' where
 keep:=λb u q _ _ _=>k b u q
 slot:=λb u q _ _ _=>⟨ _,k b u q⟩
 free:=λb u q n _=>aq (i2 (lh (h9 q) c))▸n
 there:=λb u q _=>⟨u,k b u q⟩
 CZ:=λb xs q=>aq QcG▸q
 dz:=λb u xs q=>aq QcG▸q
 C1:=λb ps q=>⟨#[],by rw[aq QcG,q];simp⟩
theorem Un.write(d:zr (H x))(he:Qo1)(k:∀b u,b≠e->h.get? b=some u->h'.get? b=some u)(c:∃u,h'.get? e=some u):Un fs ex H QoF h h':=by
 have g:∀b,H b=none->b≠x:=λb n z=>by subst z;rw[n]at d;exact d
 have f:∀b,H b=none->b≠e:=λb n z=>by simp_all
 have hm:∀b u,H b=some u->¬ zr (some u)->b≠x:=λb u q nm z=>by simp_all
 refine⟨λb u q n _ _=>k b u (f b n) q,λb u q n _ _=>⟨ _,k b u (f b n) q⟩,λb u q n _=>aq (g b n)▸n,λb u q _=>?_,
  λb xs q=>aq Qmi▸q,λb u xs q=>aq Qmi▸q,λb ps q=>⟨#[],by rw[aq Qmi,q];simp⟩⟩
 by_cases a:b=e
 .subst a;exact c
 .exact⟨u,k b u a q⟩
theorem Un.mono(u:Un fs ex H H1 h h1)(hs:∀b∈fs,b∈fs')(c:∀b∈ex,b∈ex'):Un fs' ex' H H1 h h1:=
 ⟨λb a q n d he=>u.keep b a q n (λz=>d (hs b z)) λz=>he (c b z),λ_ _ q n _ he=>u.any q n λz=>he (c _ z),λb a q n he=>u.free b a q n λz=>he (c b z),λb a q he=>u.there b a q λz=>he (c b z),u.CZ,u.dz,u.C1⟩
end
noncomputable def NG(h:Heap)(H:Hp):BY:=(List.range h.objs.size).filter λa=>(H a).isSome
def G5(h:Heap)(H:Hp):Heap:=hideAll h (NG h H)
def Xk(h:Heap)(H:Hp):(G5 h H).objs.size=h.objs.size:=PySem.W.hideAll_size _ _
theorem aas{o:Obj}(e:h.get? b=some o)(n:H b=none):(G5 h H).get? b=some o:=
 xb _ e λhm=>by
  have q:=(js.1 hm).2;simp_all
theorem afc{o:Obj}(e:(G5 h H).get? b=some o):h.get? b=some o/\H b=none:=by
 have a:=G2 _ e;refine⟨a,?_⟩;cases q:H b with
 | none=>rfl
 | some x=>
  have hm:b∈NG h H:=js.2 ⟨lx.2 (h9 a),by simp[q]⟩;have z:(G5 h H).get? b=none:=PySem.W.hideAll_none _ hm;simp_all
abbrev _root_.BC:=List (Addr×Obj)
noncomputable def afd(g h:Heap)(L:Addr):BC:=(List.range h.objs.size).filterMap λa=>if a=L\/(g.get? a).isSome=true then none else(h.get? a).map λo=>(a,o)
def rest(g h:Heap)(L d:Addr):BC:=(afd g h L).filter λp=>decide (p.1≠d)
abbrev _root_.Bi:=Str->FB
structure Mod(K:Frag)(mg:Bi)(base:Heap):Prop where
 o6:K.In base
 glob:base.Ns mainGlobals mg
 blt:∃mb,base.Ns builtinsNs mb/\∀x:Str,x≠"__name__"->mb x=bootBuiltins x
 nolimit:base.NoLimit
abbrev _root_.At:=List Str
abbrev _root_.BN:=Value->Shared->Prop
abbrev _root_.D2:=List Env
structure Cx where
 prog:Program
 w:World
 K:Frag
 mg:Str->FB
 base:Heap
 A:Around
 N:At
 hO:Shared
 ip:Hp
 env:Env
 outer:D2
 stack:D2
 ex:BY
 fn:Str->Bool
 calm:Bool
 pn:BC
 xe:Value->Shared->Prop
noncomputable def sV(l:D2):BY:=l.filterMap (·.frame)
abbrev Cx.fs(X:Cx):BY:=sV X.outer
def rF(sc:Scope)(x:Str):Prop:=sc.names.lookup x=some .local\/sc.names.lookup x=some .cell\/sc.names.lookup x=some .free
def Loc(sc:Scope)(x:Str):Prop:=sc.names.lookup x=some .local\/sc.names.lookup x=some .cell
def Look(env:Env)(h:Heap)(m:Bi)(x:Str)(u:Value):Prop:=
 (env.kindOf x=some .local/\m x=some u)\/((env.kindOf x=some .cell\/env.kindOf x=some .free)/\∃c,env.cells.lookup x=some c/\h.IsCell c (some u))
structure Cx.Ok(X:Cx):Prop where
 mod:Mod X.K X.mg X.base
 kind:X.env.scope.kind=.function
 glob:X.env.globals=mainGlobals
 blt:X.env.builtins=builtinsNs
 above:X.hO.heap.objs.size<=X.env.locals
 inj:∀x y c,X.env.cells.lookup x=some c->X.env.cells.lookup y=some c->x=y
 has:∀x,(X.env.kindOf x=some .cell\/X.env.kindOf x=some .free)->∃c,X.env.cells.lookup x=some c
 tI:∀x c,X.fn x=true->X.env.cells.lookup x=some c->X.hO.heap.objs.size<=c
 hd:X.calm=true->X.A.handled=none
 frames:X.A.frames=some X.stack
 vr:X.stack=X.outer\/(X.stack=X.env::X.outer/\X.env.frame=some X.env.locals)
 Ak:∀b∈X.ex,b≠X.env.locals/\∀x c,X.env.cells.lookup x=some c->c≠b
 bs:∀b o,X.base.get? b=some o->X.hO.heap.get? b=some o/\X.ip b=none
 mu:X.base.objs.size<=X.hO.heap.objs.size
 Rh:∀b o,X.base.get? b=some o->b∉X.ex
 Xl:∀b∈X.ex,b∉X.fs
 xh:X.hO.heap.FunFrames X.base X.outer
 og:∀b∈X.fs,X.ip b=none
structure Inv(X:Cx)(pins:BC)(Y:Qg0)(H:Hp)(s:Qb):Prop where
 ok:X.Ok
 os:s.os=X.hO.os
 bare:AllBare s.gens
 base:Un X.fs X.ex X.ip H X.hO.heap s.heap
 loc:∃m,s.heap.Ns X.env.locals m/\∀(i:Nat) (x:Str) (v:V),X.N[i]? = some x->Y[i]? = some QaL->rF X.env.scope x->∃u,RelV v u/\Look X.env s.heap m x u
 cell:∀x c,X.env.cells.lookup x=some c->∃v,s.heap.IsCell c v
 free:H X.env.locals=none
 kR:∀x c,X.env.cells.lookup x=some c->H c=none
 pin:∀p∈X.pn++pins,s.heap.get? p.1=some p.2/\H p.1=none/\p.1≠X.env.locals/\p.1∉X.fs/\∀v,p.2.data ≠ .cell v
 ck:sY X.prog X.w H s.heap
 len:Y.length=X.N.length
variable{X:Cx}{pins:BC}{Y:Qg0}{s:Qb}
theorem Cx.Ok.arL(ok:X.Ok){o:Obj}(e:X.base.get? b=some o):b∉X.fs:=λa=>by
 have:=(ok.xh.mem a).1;grind
theorem Inv.bs(I:QE):∀b o,X.base.get? b=some o->s.heap.get? b=some o/\H b=none:=λb o e=>
 ⟨I.base.keep b o (I.ok.bs b o e).1 (I.ok.bs b o e).2 (I.ok.arL e) (I.ok.Rh b o e),I.base.free b o (I.ok.bs b o e).1 (I.ok.bs b o e).2 (I.ok.Rh b o e)⟩
theorem Inv.bk(I:QE):∀b o,X.base.get? b=some o->s.heap.get? b=some o:=λb o e=>(I.bs b o e).1
theorem Inv.mod(I:QE):Mod X.K X.mg X.base:=I.ok.mod
theorem Inv.Au(I:QE):X.K.In s.heap:=I.ok.mod.o6.keeps I.bk
theorem Inv.nolimit(I:QE):s.heap.NoLimit:=I.ok.mod.nolimit.keeps I.bk
theorem Inv.lt(I:QE):X.env.locals<s.heap.objs.size:=let ⟨_,hn,_⟩:=I.loc;hn.lt
theorem Inv.sz(I:QE):X.hO.heap.objs.size<=s.heap.objs.size:=jq I.ok.above (ke I.lt)
theorem Inv.arM(I:QE)(h:s.heap.objs.size<=a):a∉X.fs:=λc=>by
 obtain⟨_,o,b,_⟩:=I.ok.xh.mem c;exact absurd (lh (h9 b) (jq I.sz h)) (u7 _)
theorem Inv.tw(I:QE):∀x c,X.env.cells.lookup x=some c->c≠X.env.locals:=λx c e z=>by
 obtain⟨v,o,a,hd⟩:=I.cell x c e;obtain⟨m,⟨o',es,ep,b,d,_⟩,_⟩:=I.loc;grind
theorem Inv.xh(I:QE):s.heap.FunFrames X.base X.outer:=by
 have all:∀(l:D2),(∀b∈sV l,b∈X.fs)->X.hO.heap.FunFrames X.base l->s.heap.FunFrames X.base l:=by
  intro l
  induction l with
  | nil=>intro _ _;trivial
  | cons env r d=>
   intro hs hl;obtain⟨h,⟨L,o,hf,hn,g,hd⟩,f⟩:=hl;have c:=hs L (by unfold sV;rw[me,hf];exact gF);obtain⟨sl,e⟩:=I.base.slot L o g (I.ok.og L c) c λz=>I.ok.Xl L z c;exact⟨h,⟨L,_,hf,hn,e,hd⟩,d (λb a=>hs b (by unfold sV;rw[me,hf];exact hJ _ a)) f⟩
 exact all _ (λ_ a=>a) I.ok.xh
theorem Inv.stack(I:QE):s.heap.FunFrames X.base X.stack:=by
 obtain e|⟨e,hf⟩:=I.ok.vr
 .rw[e];exact I.xh
 .rw[e];obtain⟨m,hn,_⟩:=I.loc;refine .cons (by rw[I.ok.kind];decide) hf hn ?_ I.xh;exact Heap.get?_none_of_le (jq I.ok.mu I.ok.above)
theorem Inv.JM(I:QE):∀b∈sV X.stack,b∈X.env.locals::X.fs:=λb a=>by
 obtain e|⟨e,hf⟩:=I.ok.vr
 .rw[e]at a;exact hJ _ a
 .rw[e]at a;unfold sV at a;rw[me,hf]at a;exact a
theorem Inv.Dj(I:QE):∀b∈sV X.stack,H b=none:=λb a=>by
 obtain e|a:=fF.1 (I.JM b a)
 .rw[e];exact I.free
 .obtain⟨_,o,c,_⟩:=I.ok.xh.mem a;exact I.base.free b o c (I.ok.og b a) λz=>I.ok.Xl b z a
variable{t':Nat}
theorem Inv.step{E:Array GenState}{d':Drawn}{ch:BY}(I:QE)
  (g:∀b∈ch,QhF/\b≠X.env.locals/\(∀x c,X.env.cells.lookup x=some c->c≠b)/\∀p∈X.pn++pins,p.1≠b)
  (keep:∀b o,b≠X.env.locals->b∉X.fs->b∉ch->s.heap.get? b=some o->H b=none->h'.get? b=some o)
  (slot:∀b o,b≠X.env.locals->b∈X.fs->b∉ch->s.heap.get? b=some o->H b=none->∃sl,h'.get? b=some {o with slots:=sl}) (free:∀b o,b∉ch->s.heap.get? b=some o->H b=none->H' b=none)
  (there:∀b o,b∉ch->s.heap.get? b=some o->∃o',h'.get? b=some o')
  (CZ:∀b xs,H b=some Qbf->H' b=some Qbf) (dz:∀b o u,H b=some Qg8->H' b=some Qg8) (C1:∀b ps,H b=some (.tbl ps)->∃more,H' b=some QuO)
  (ns:∀m,s.heap.Ns X.env.locals m->h'.Ns X.env.locals m) (ck:QmR) (F:AllBare E) :
  Inv X pins Y H' {s with heap:=h',gens:=E,drawn:=d',toks:=t'}:=by
 have y:∀b o,X.hO.heap.get? b=some o->b≠X.env.locals:=λb o e=>i2 Qpp;have h:∀b o,X.hO.heap.get? b=some o->b∉X.ex->b∉ch:=λb o e a j=>by
  rcases(g b j).1 with z|z
  .exact a z
  .exact absurd (lh (h9 e) z) (u7 _)
 have cellK:∀x c,X.env.cells.lookup x=some c->∀v,s.heap.IsCell c v->h'.IsCell c v:=λx c e v ⟨o,t,hd⟩=>by
  have f:c∉ch:=λz=>(g c z).2.2.1 x c e rfl;by_cases D:c∈X.fs
  .obtain⟨sl,q⟩:=slot c o (I.tw x c e) D f t QjD;exact⟨_,q,hd⟩
  .exact⟨o,keep c o (I.tw x c e) D f t QjD,hd⟩
 refine⟨I.ok,I.os,F,⟨λb o e n j a=>?_,λb o e n j a=>?_,λb o e n a=>?_,λb o e a=>?_,λb xs e=>CZ b xs Quh,λb o xs e=>dz b o xs (I.base.dz b o xs e),λb ps e=>?_⟩,?_,λx c e=>?_,?_,λx c e=>?_,λp C=>?_,ck,I.len⟩
 .exact keep b o (y b o e) j QjU (I.base.keep b o e n j a) QlY
 .obtain⟨sl,e1⟩:=I.base.slot b o e n j a;obtain⟨A,e2⟩:=slot b _ (y b o e) j QjU e1 QlY;exact⟨A,e2⟩
 .obtain⟨o',e1⟩:=I.base.there b o e a;exact free b o' QjU e1 QlY
 .obtain⟨o',e1⟩:=I.base.there b o e a;exact there b o' QjU e1
 .obtain⟨m1,e1⟩:=I.base.C1 b ps e;obtain⟨m2,e2⟩:=C1 b _ e1;exact⟨m1++m2,by rw[e2,Array.append_assoc]⟩
 .obtain⟨m,hn,hl⟩:=I.loc;refine⟨m,ns m hn,λi x v e1 e2 e3=>?_⟩;obtain⟨u,r,l⟩:=hl i x v e1 e2 e3;refine⟨u,r,?_⟩;obtain l|⟨k,c,e,z⟩:=l
  .exact .inl l
  .exact .inr ⟨k,c,e,cellK x c e _ z⟩
 .obtain⟨v,z⟩:=I.cell x c e;exact⟨v,cellK x c e v z⟩
 .obtain⟨m,⟨o,_,_,t,_⟩,_⟩:=I.loc;exact free _ o (λz=>(g _ z).2.1 rfl) t I.free
 .obtain⟨v,o,t,hd⟩:=I.cell x c e;exact free c o (λz=>(g c z).2.2.1 x c e rfl) t QjD
 .obtain⟨e,n,ne,B,d⟩:=I.pin p C;have f:p.1∉ch:=λz=>(g p.1 z).2.2.2 p C rfl;exact⟨keep p.1 p.2 ne B f e n,free p.1 p.2 f e n,ne,B,d⟩
theorem Inv.un(I:QE)(u:Un X.fs [] H H' s.heap h')(ck:QmR):Inv X pins Y H' {s with heap:=h',toks:=t'}:=by
 obtain⟨m,⟨o,es,ep,f,r⟩,_⟩:=id I.loc;obtain⟨sl,i⟩:=u.any f I.free Wl;exact I.step (ch:=[]) (λ_ z=>nomatch z) (λb o _ a _ e n=>u.keep b o e n a Wl) (λb o _ a _ e n=>u.slot b o e n a Wl) (λb o _ e n=>u.free b o e n Wl) (λb o _ e=>u.there b o e Wl) u.CZ u.dz u.C1 (λj hm=>by
  obtain⟨o',c,d,g,h⟩:=hm;rw[f]at g;cases g;exact⟨_,c,d,i,h⟩) ck I.bare
theorem Inv.call{j:Array GenState}{d':Drawn}{ch:BY}(I:QE)(u:Un Qbz ch H H' s.heap h')(ck:QmR)(q:AllBare j)
  (d:∀b∈ch,QhF/\b≠X.env.locals/\(∀x c,X.env.cells.lookup x=some c->c≠b)/\∀p∈X.pn++pins,p.1≠b) :
  Inv X pins Y H' {s with heap:=h',gens:=j,drawn:=d',toks:=t'}:=by
 obtain⟨m,⟨o,es,ep,i,r⟩,_⟩:=id I.loc;obtain⟨sl,f⟩:=u.any i I.free λz=>(d _ z).2.1 rfl;exact I.step d (λb o f t a e n=>u.keep b o e n (λz=>(fF.1 (I.JM b z)).elim f t) a) (λb o _ _ a e n=>u.any e n a) (λb o a e n=>u.free b o e n a) (λb o a e=>u.there b o e a) u.CZ u.dz u.C1 (λv hm=>by
  obtain⟨o',g,h,k,l⟩:=hm;rw[i]at k;cases k;exact⟨_,g,h,f,l⟩) ck q
theorem Inv.turned{it:Addr}(I:QE)(k:∀b o,b≠it->s.heap.get? b=some o->h'.get? b=some o)(hn:H it=none)(f:it≠X.env.locals)
  (h1:it∈X.ex\/X.hO.heap.objs.size<=it) (j:∀x c,X.env.cells.lookup x=some c->c≠it) (i:∀p∈X.pn++pins,p.1≠it):Inv X pins Y H {s with heap:=h',toks:=t'}:=by
 have d:∀b u,H b=some u->b≠it:=λb u e z=>by grind
 refine I.step (ch:=[it]) (λb h=>?_) (λb o _ _ a e _=>k b o (λz=>a (by simp[z])) e) (λb o _ _ a e _=>⟨ _,k b o (λz=>a (by simp[z])) e⟩) Qs8
  (λb o a e=>⟨o,k b o (λz=>a (by simp[z])) e⟩) QtT Qgr (λb ps e=>⟨#[],‹_› ⟩) (λm hm=>?_) (λb u e=>?_) I.bare
 .have e:=by simpa using h
  subst e;exact⟨h1,f,j,i⟩
 .obtain⟨o,es,ep,g,r⟩:=hm;exact⟨o,es,ep,k _ o (la f) g,r⟩
 .refine(I.ck b u e).yQ (λc v a q=>k c v ?_ q) QcC λ_ _ q=>q;obtain z|z:=a
  .rw[z];exact d b u e
  .exact d c _ z
theorem Inv.tok(I:QE)(t:Nat):Inv X pins Y H {s with toks:=t}:=I.un Un.refl I.ck
theorem Inv.kept(I:QE)(k:∀b u,s.heap.get? b=some u->h'.get? b=some u):Inv X pins Y H {s with heap:=h',toks:=t'}:=I.un (Un.kept k) (I.ck.kept k)
theorem Inv.laid(I:QE)(k:∀b u,s.heap.get? b=some u->h'.get? b=some u)(c:s.heap.objs.size<=a)(new:dD X.prog X.w QbB h' a o) :
  Inv X pins Y QbB {s with heap:=h',toks:=t'}:=I.un (Un.laid k c (I.ck.fresh c)) (I.ck.laid k c new)
theorem Inv.write(I:QE)(c:zr (H x))(he:Qo1)(k:∀b u,b≠e->s.heap.get? b=some u->h'.get? b=some u)(a:∃u,h'.get? e=some u)
  (new:dD X.prog X.w QoF h' x o):Inv X pins Y QoF {s with heap:=h',toks:=t'}:=I.un (Un.write c he k a) (I.ck.write c he k a new)
theorem Inv.Dl{a:BC}(I:QE)(h:∀p∈a,s.heap.get? p.1=some p.2/\H p.1=none/\p.1≠X.env.locals/\p.1∉X.fs/\∀v,p.2.data ≠ .cell v):Inv X a Y H s:=
 ⟨I.ok,I.os,I.bare,I.base,I.loc,I.cell,I.free,I.kR,λp b=>(hG.1 b).elim (λz=>I.pin p (hZ _ z)) (h p),I.ck,I.len⟩
variable{i:Nat}
def Nv{N:At}(c:N.Nodup){j:Nat}{x:Str}(a:N[i]? = some x)(b:N[j]? = some x):i=j:=by
 obtain⟨h1,e1⟩:=ko.1 a;obtain⟨d,e2⟩:=ko.1 b;exact(List.getElem_inj c).1 (e1.trans e2.symm)
variable{M:Model}{A:Qaq}{E:BN}{v:V}{u:Value}{Q:Qmn}
abbrev _root_.AB(X:Cx)(p:Pos)(e:Expr):Prop:=((backTo p QtU).all Qnv&&(backToKw p Ql9).all Qmb&&decide ([e].length+([]:List Keyword).length+QkS<30))=true
abbrev _root_.Cl:=List Expr
abbrev _root_.AC(X:Cx)(e:Expr)(es:Cl):Prop:=starEach Qav X.env=(false,eval e X.env)::starEach es X.env
abbrev _root_.AD(x:Str):Prop:=Qh9=false
abbrev _root_.AE(x:Str):Prop:=QrB=false
abbrev _root_.AL(X:Cx)(p:Pos)(es:Cl):Prop:=(backTo p (starEach es X.env)).any (·.1)=false
abbrev _root_.AM(X:Cx)(y:Str):Prop:=X.fn y=true\/X.env.scope.names.lookup y=some .local
abbrev _root_.AN(X:Cx)(e:Expr):Prop:=∀x,foldedSetIterable e X.env x=pure x
abbrev _root_.AR(X:Cx)(e d:Expr):Prop:=starEach [e,d] X.env=[(false,eval e X.env),(false,eval d X.env)]
abbrev _root_.AS(X:Cx)(e:Expr)(f:Str):Prop:=attributeBase e f X.env QdH=eval e X.env
def Xn{x:Str}(I:QE)(Z:Qbm)(hi:X.N[i]? = some x)(g:Qdi)(r:QcL)
  (h:∀s',Inv X pins QeL H s'->(∃a,Heap.SameBut a s.heap s'.heap/\(a=X.env.locals\/X.env.cells.lookup x=some a))->Q () s') (hf:Qdj:=by first|exact .inl rfl|exact .inr rfl|assumption):wpAny M A Qs9 Q E s:=by
 obtain⟨m,hn,hl⟩:=id I.loc;have W:(X.env.scope.kind == .class || (X.env.scope.kind == .module&&X.env.locals != X.env.globals))=false:=by rw[I.ok.kind];rfl
 have t:i<Y.length:=by rw[I.len];exact(ko.1 hi).1
 have tw:=I.tw;have tracked:∀{a:Addr} {h':Heap},(∃o,s.heap.get? a=some o/\H a=none)->Heap.SameBut a s.heap h'->sY X.prog X.w H h':=λ{a h'} ha hs b ob e=>by
  obtain⟨_,_,Nx⟩:=ha;refine(I.ck b ob e).yQ (λc K f q=>(hs.2 c ?_).trans q) QcC λ_ _ q=>q;rintro rfl;obtain rfl|f:=f
  .rw[Nx]at e;cases e
  .rw[Nx]at f;cases f
 obtain l|l:=g
 .refine wpAny_storeName_local l hn (λh' U hs=>?_) W;obtain⟨oL,_,_,T,_⟩:=id hn;refine h _ ⟨I.ok,I.os,I.bare,⟨λb o e n D g=>?_,λb o e n D g=>?_,I.base.free,λb o e g=>?_,I.base.CZ,I.base.dz,I.base.C1⟩,⟨_,U,λj y v' e1 e2 e3=>?_⟩,λy c e=>?_,I.free,I.kR,λp S=>?_,tracked ⟨oL,T,I.free⟩ hs,by simpa using I.len⟩ ⟨_,hs,.inl rfl⟩
  .exact(hs.2 b Qot).trans Qr0
  .obtain⟨sl,e1⟩:=I.base.slot b o e n D g;exact⟨sl,(hs.2 b Qot).trans e1⟩
  .obtain⟨o',e1⟩:=I.base.there b o e g;exact⟨o',(hs.2 b Qot).trans e1⟩
  .by_cases B:j=i
   .subst B;rw[hi]at e1;cases e1;rw[HH t]at e2;cases e2;exact⟨u,r,.inl ⟨l,Wl⟩⟩
   .rw[List.getElem?_set_ne (la B)]at e2;obtain⟨O,P,q⟩:=hl j y v' e1 e2 e3;refine⟨O,P,?_⟩;obtain⟨k,e⟩|⟨k,c,e,z⟩:=q
    .refine .inl ⟨k,?_⟩;have:y≠x:=λe=>B (Nv Z e1 (e▸hi));simp[this,e]
    .exact .inr ⟨k,c,e,z.sameBut hs (tw y c e)⟩
  .obtain⟨K,z⟩:=I.cell y c e;exact⟨K,z.sameBut hs (tw y c e)⟩
  .obtain⟨e,n,ne,R,d⟩:=I.pin p S;exact⟨(hs.2 p.1 ne).trans e,n,ne,R,d⟩
 .have C:X.fn x=true:=by
   obtain z|z:=hf
   .exact z
   .rw[z]at l;cases l
  obtain⟨c,f⟩:=I.ok.has x (.inl l);obtain⟨K,z⟩:=I.cell x c f;refine wpAny_storeName_cell I.ok.kind l f z (λh' J hs=>?_);obtain⟨oc,F,V⟩:=id z;refine h {s with heap:=h'} ⟨I.ok,I.os,I.bare,⟨λb o e n D g=>?_,λb o e n D g=>?_,I.base.free,λb o e g=>?_,I.base.CZ,I.base.dz,I.base.C1⟩,⟨m,hn.sameBut hs (Ne.symm (tw x c f)),λj y v' e1 e2 e3=>?_⟩,λy L e=>?_,I.free,I.kR,λp S=>?_,tracked ⟨oc,F,I.kR x c f⟩ hs,by simpa using I.len⟩ ⟨c,hs,.inr f⟩
  .exact(hs.2 b Qlc).trans Qr0
  .obtain⟨sl,e1⟩:=I.base.slot b o e n D g;exact⟨sl,(hs.2 b Qlc).trans e1⟩
  .obtain⟨o',e1⟩:=I.base.there b o e g;exact⟨o',(hs.2 b Qlc).trans e1⟩
  .by_cases B:j=i
   .subst B;rw[hi]at e1;cases e1;rw[HH t]at e2;cases e2;exact⟨u,r,.inr ⟨.inl l,c,f,J⟩⟩
   .rw[List.getElem?_set_ne (la B)]at e2;obtain⟨O,P,q⟩:=hl j y v' e1 e2 e3;refine⟨O,P,?_⟩;obtain q|⟨k,L,e,z'⟩:=q
    .exact .inl q
    .refine .inr ⟨k,L,e,z'.sameBut hs ?_⟩;rintro rfl;exact B (Nv Z e1 (I.ok.inj _ _ _ e f▸hi))
  .by_cases G:L=c
   .subst G;exact⟨_,J⟩
   .obtain⟨w2,z2⟩:=I.cell y L e;exact⟨w2,z2.sameBut hs G⟩
  .obtain⟨e,n,ne,R,d⟩:=I.pin p S;refine⟨(hs.2 p.1 ?_).trans e,n,ne,R,d⟩;intro q;rw[q,F]at e;have q':oc=p.2:=j2 e;exact d K (by rw[<- q'];exact V)
def DS{x:Str}(I:QE)(b:Qbm)(hi:X.N[i]? = some x)(a:Qdi)(r:QcL)
  (h:∀s',Inv X pins QeL H s'->Q () s') (hf:Qdj:=by first|exact .inl rfl|exact .inr rfl|assumption):wpAny M A Qs9 Q E s:=
 Xn I b hi a r (λs' c _=>h s' c) hf
theorem Inv.SI{s':Qb}{ch:BY}(I:QE)(d:s'.os=s.os)(u:Un Qbz ch H H' s.heap s'.heap)(ck:sY X.prog X.w H' s'.heap)(f:AllBare s'.gens)
  (a:∀b∈ch,QhF/\b≠X.env.locals/\(∀x c,X.env.cells.lookup x=some c->c≠b)/\∀p∈X.pn++pins,p.1≠b):Inv X pins Y H' s':=by
 obtain⟨h',g,d',t',o'⟩:=s';have e:=d;subst e;exact I.call u ck f a
abbrev _root_.Do:=Option Addr
abbrev XK:=Value->Do->Hp->Prop
abbrev St:=List (Option V)
abbrev VK:=V->Hp->Prop
abbrev TE:=St->Hp->VK->Prop
abbrev _root_.EN:=Bool->Hp->Prop
abbrev TT:=St->Hp->EN->Prop
abbrev _root_.EO:=B1->Hp->Prop
abbrev TA:=St->Hp->EO->Prop
structure Ends where
 nx:St->Hp->Prop
 rt:VK
 bk:St->Hp->Prop:=λ_ _=>False
 ct:St->Hp->Prop:=λ_ _=>False
abbrev TS:=Ends->St->Hp->Prop
def EP(X:Cx)(pins:BC)(Y:St)(Q:VK)(u:Value)(s':Qb):Prop:=∃v H',Inv X pins Y H' s'/\RelV v u/\Q v H'
def TP(X:Cx)(pins:BC)(Y:St)(Q:EN)(b:Bool)(s':Qb):Prop:=∃H',Inv X pins Y H' s'/\Q b H'
def AP(X:Cx)(pins:BC)(Y:St)(Q:EO)(us:B2)(s':Qb):Prop:=∃vs H',Inv X pins Y H' s'/\Vals vs us/\Q vs H'
def SP(X:Cx)(pins:BC)(D:Ends)(f:Flow)(s':Qb):Prop:=
 match f with
 | .next=>∃Y' H',Inv X pins Y' H' s'/\D.nx Y' H'
 | .brk=>∃Y' H',Inv X pins Y' H' s'/\D.bk Y' H'
 | .cont=>∃Y' H',Inv X pins Y' H' s'/\D.ct Y' H'
 | .ret u=>∃v Y' H',Inv X pins Y' H' s'/\RelV v u/\D.rt v H'
def PE(X:Cx)(e:Expr)(t:TE):Prop:=
 ∀(pins:BC) (s:Qb) (Y:St) (H:Hp) (Q:VK),Inv X pins Y H s->t Y H Q->wpAny Qr X.A QdH Qbe X.xe s
def PT(X:Cx)(e:Expr)(t:TT):Prop:=
 ∀(pins:BC) (s:Qb) (Y:St) (H:Hp) (Q:EN),Inv X pins Y H s->t Y H Q->wpAny Qr X.A QsF QeP X.xe s
def PW(X:Cx)(e:Expr)(t:TT):Prop:=
 ∀(whole:Sem Value) (pins:BC) (s:Qb) (Y:St) (H:Hp) (Q:EN),Inv X pins Y H s->t Y H Q->wpAny Qr X.A QsV QeP X.xe s
def PA(X:Cx)(es:Cl)(t:TA):Prop:=
 ∀(pos:Pos) (pins:BC) (s:Qb) (Y:St) (H:Hp) (Q:EO),Inv X pins Y H s->t Y H Q->wpAny Qr X.A Qp8 Qnw X.xe s
def PS(X:Cx)(st:Stmt)(t:TS):Prop:=
 ∀(pins:BC) (s:Qb) (Y:St) (H:Hp) (D:Ends),Inv X pins Y H s->t D Y H->wpAny Qr X.A (exec st X.env) Qjn X.xe s
abbrev _root_.CA:=List Stmt
def Ri(X:Cx)(st:CA)(t:TS):Prop:=
 ∀(pins:BC) (s:Qb) (Y:St) (H:Hp) (D:Ends),Inv X pins Y H s->t D Y H->wpAny Qr X.A Qnf Qjn X.xe s
noncomputable def dF{α:Type}{t:Sem α}{Q b:α->Shared->Prop}(h:wpAny M A t Q E s)(hQ:∀a s,Q a s->b a s):wpAny M A t b E s:=i8 h hQ λ_ _ x=>x
section
noncomputable def arO(i:Nat):TE:=λY H Q=>∃v,Y[i]? = some QaL/\Q v H
noncomputable def tC(v:V):TE:=λ_ H Q=>Q v H
def jr{x:Str}{pos:Pos}(f:X.N[i]? = some x)(hv:Qnx)(hd:AD x:=by decide)(iO:AE x:=by decide):PE X QaF (arO i):=by
 intro pins s Y H Q I h;obtain⟨v,e,h⟩:=h;obtain⟨m,hn,hl⟩:=I.loc;obtain⟨u,r,l⟩:=hl i x v f e hv;have fin:EP X pins Y Q u s:=⟨v,H,I,r,h⟩;obtain⟨a,hm⟩|⟨a,c,d,b⟩:=l
 .exact wpAny_Name (wpAny_loadName_local I.ok.kind a hn hm fin) hd
 .obtain a|a:=a
  .exact wpAny_Name (wpAny_loadName_cell I.ok.kind a d b fin) hd
  .exact wpAny_Name (wpAny_loadName_free I.ok.kind a d b fin iO) hd
noncomputable def aj6{i j pos}:PE X QlQ (tC Qbr):=λ_ _ _ H _ I h=>wpAny_Constant_int ⟨.int i,H,I.tok _,⟨_,rfl⟩,h⟩
noncomputable def SH{b j pos}:PE X (.Constant (.bool b) j pos) (tC Qd5):=λ_ _ _ H _ I h=>Constant_bool ⟨.bl b,H,I,rfl,h⟩
noncomputable def aj7{j pos}:PE X QsG (tC .non):=λ_ _ _ H _ I h=>Constant_none ⟨.non,H,I,rfl,h⟩
noncomputable def aj8{x j pos}:PE X QlR (tC Qa4):=λ_ _ _ H _ I h=>Calls.Constant_str ⟨.str x,H,I.tok _,⟨_,rfl⟩,h⟩
def Gl(X:Cx)(x:Str):Prop:=X.env.kindOf x=some .globalImplicit
def qJ{Y:St}{x:Str}{pos:Pos}{Q:BN}(I:QE)(a:Qaz)(hm:X.mg x=some u)(h:Q u s)
  (hd:AD x:=by decide):wpAny Qr X.A Qui Q E s:=
 Calls.Name_function_global I.ok.kind a (Calls.loadGlobal_global (I.ok.glob▸I.mod.glob.keeps I.bk) hm h) hd
def mX{Y:St}{x:Str}{pos:Pos}{Q:BN}(I:QE)(a:Qaz)(hm:Qj9)(hv:bootBuiltins x=some u)(h:Q u s)
  (hn:QiY:=by decide) (hd:AD x:=by decide):wpAny Qr X.A Qui Q E s:=by
 obtain⟨mb,h1,b⟩:=I.mod.blt;exact Calls.Name_function_global I.ok.kind a (Calls.loadGlobal_builtin (I.ok.glob▸I.mod.glob.keeps I.bk) hm (I.ok.blt▸h1.keeps I.bk) ((b x hn).trans hv) h) hd
def afg{x:Str}{pos:Pos}(a:Qaz)(hm:X.mg x=some u)(r:QcL)(hd:AD x:=by decide):PE X QaF (tC v):=
 λ_ _ _ H _ I h=>qJ I a hm ⟨v,H,I,r,h⟩ hd
def afh{x:Str}{pos:Pos}(a:Qaz)(hm:Qj9)(hv:bootBuiltins x=some u)(r:QcL)(hn:QiY:=by decide)(hd:AD x:=by decide):PE X QaF (tC v):=
 λ_ _ _ H _ I h=>mX I a hm hv ⟨v,H,I,r,h⟩ hn hd
variable{a b:Expr}{ta tb:TE}{pos:Pos}
def PC(X:Cx)(op:CmpOp)(a b:Expr)(t:TE):Prop:=
 ∀(pins:BC) (s:Qb) (Y:St) (H:Hp) (Q:VK),Inv X pins Y H s->t Y H Q →
  wpAny Qr X.A (eval a X.env) (λv d=>wpAny Qr X.A (eval b X.env) (λu c=>wpAny Qr X.A (compareOp op v u) Qbe X.xe c) X.xe d) X.xe s
theorem Ny(b:Expr){op:CmpOp}(h:op ≠ .In)(a:op ≠ .NotIn):behindInMarks op b=false:=by
 have e1:(op==CmpOp.In)=false:=by grind
 have e2:QuP=false:=by grind
 cases b<;>simp[behindInMarks,e1,e2]
noncomputable def arP(ta:TE):TE:=λY H Q=>ta Y H λx H1=>Q (.bl (decide (x=.non))) H1
theorem RelV.aau{x:V}{v:Value}(r:RelV x v):(v==Value.none)=decide (x=.non):=by
 cases x with
 | non=>cases r;rfl
 | bl _=>cases r;rfl
 | int _=>obtain⟨t,rfl⟩:=r;rfl
 | str _=>obtain⟨t,rfl⟩:=r;rfl
 | Rg _=>obtain⟨t,rfl⟩:=r;rfl
 | flt _=>obtain⟨t,rfl⟩:=r;rfl
 | ref _=>cases r;rfl
 | ty _=>cases r;rfl
def Rj{j pos'}(c:Qcn):PC X .Is a (.Constant .none j pos') (arP ta):=by
 intro pins s Y H Q I h;refine dF Qtx λv s1 zz=>?_;obtain⟨x,H1,d,b,q1⟩:=zz;exact Constant_none (is_none_gen ⟨.bl _,H1,d,by rw[b.aau];rfl,q1⟩)
noncomputable def tB(t:TE):TT:=λY H Q=>t Y H λx H1=>∃c,x=.bl c/\Q c H1
def aj9{op:CmpOp}{t:TE}(h:PC X op a b t)(h1:Qia:=by first|exact Ny _ Wk Wk|rfl):PE X Qh1 t:=λpins s Y H Q I hw=>wpAny_Compare1 Qta h1
def DT{op:CmpOp}{t:TE}(h:PC X op a b t)(h1:Qia:=by first|exact Ny _ Wk Wk|rfl):PT X Qh1 (tB t):=by
 intro pins s Y H Q I hw;refine wpAny_isTrue_Compare1 (dF Qmj λv s1 h1=>dF h1 λu s2 f=>dF f λc s3 zz=>?_) h1;obtain⟨x,H1,g,e,q1⟩:=zz;obtain⟨d,rfl,q⟩:=q1;cases e;exact w1 ⟨H1,g,q⟩
def aka{e:Expr}{t:TE}(h:PE X e t)(he:∀whole,isTrue e X.env whole=(do let v ← whole;standAt e.pos;holding [v] Qg1):=by intro _;rfl):PT X e (tB t):=by
 intro pins s Y H Q I hw;refine isTrue_plain (dF Qmj λv s1 zz=>?_) (he _);obtain⟨x,H1,b,a,q1⟩:=zz;obtain⟨d,rfl,q⟩:=q1;cases a;exact w1 ⟨H1,b,q⟩
variable{tA tB':TT}{rest:Cl}
noncomputable def arQ(t u:TT):TT:=λY H Q=>t Y H λc H1=>if c=true then u Y H1 Q else Q false H1
noncomputable def tOr(t u:TT):TT:=λY H Q=>t Y H λc H1=>if c=true then Q true H1 else u Y H1 Q
noncomputable def arR(t:TT):TT:=λY H Q=>t Y H λc H1=>Q (!c) H1
theorem afi(b:Qhj):PW X (.BoolOp .And [a] pos) tA:=by
 intro d pins s Y H Q I h;refine isTrue_and (dF Qty λc s1 e=>?_);cases c with
 | true=>exact isTrue_and_nil e
 | false=>exact e
theorem akb(b:Qhj):PW X (.BoolOp .Or [a] pos) tA:=by
 intro d pins s Y H Q I h;refine isTrue_or (dF Qty λc s1 e=>?_);cases c with
 | false=>exact isTrue_or_nil e
 | true=>exact e
theorem akc(g:Qhj)(f:PW X (.BoolOp .And (b::rest) pos) tB'):PW X (.BoolOp .And (a::b::rest) pos) (arQ tA tB'):=by
 intro e pins s Y H Q I h;refine isTrue_and (dF Qir λc s1 zz=>?_);obtain⟨H1,d,q1⟩:=zz;cases c with
 | true=>exact f e pins s1 Y H1 Q d q1
 | false=>exact⟨H1,d,q1⟩
theorem aoo(g:Qhj)(f:PW X QrN tB'):PW X QrO (tOr tA tB'):=by
 intro e pins s Y H Q I h;refine isTrue_or (dF Qir λc s1 zz=>?_);obtain⟨H1,d,q1⟩:=zz;cases c with
 | true=>exact⟨H1,d,q1⟩
 | false=>exact f e pins s1 Y H1 Q d q1
noncomputable def akd(b:Qhj):PT X (.UnaryOp .Not a pos) (arR tA):=λpins s Y H Q I h=>isTrue_not (b pins s Y H _ I h)
noncomputable def arS(ta tb:TE):TE:=λY H Q=>ta Y H λx H1=>∃c,x=.bl c/\if c=true then Q Qcj H1 else tb Y H1 Q
noncomputable def ake{op}{t:TE}(h:PE X a t):PE X (.BoolOp op [a] pos) t:=λpins s Y H Q I hw=>BoolOp_one Qta
theorem aop(g:Qcn)(f:PE X QrN tb):PE X QrO (arS ta tb):=by
 intro pins s Y H Q I h;refine BoolOp_or (dF Qir λv s1 zz=>?_);obtain⟨x,H1,d,e,q1⟩:=zz;obtain⟨c,rfl,q1⟩:=q1;cases e;refine w1 ?_;cases c with
 | false=>exact f pins s1 Y H1 Q d q1
 | true=>exact⟨.bl true,H1,d,rfl,q1⟩
noncomputable def tIf(t:TT)(ta tb:TE):TE:=λY H Q=>t Y H λc H1=>if c=true then ta Y H1 Q else tb Y H1 Q
theorem aav{c:Expr}(f:PT X c tA)(i:Qcn)(g:Qfv):PE X (.IfExp c a b pos) (tIf tA ta tb):=by
 intro pins s Y H Q I h;refine wpAny_IfExp (dF Qis λd s1 zz=>?_);obtain⟨H1,e,q1⟩:=zz;cases d with
 | true=>exact i pins s1 Y H1 Q e q1
 | false=>exact g pins s1 Y H1 Q e q1
end
def lQ(K:Frag)(H:Hp)(a:Addr)(xs:B1):Prop:=
 Rd H a Qbs ∨
  ∃(o:Obj) (its:Ch) (n:Nat),K.lookup a=some o/\o.cls=.type "list" /\ o.dict=none/\o.data=.seq its n/\its.size<=sizeLine/\Vals xs its.toList
def qh(K:Frag)(H:Hp)(a:Addr)(xs:B1):Prop:=
 Rd H a Qbf ∨
  ∃(o:Obj) (its:Ch) (n:Nat),K.lookup a=some o/\o.cls=.type "tuple" /\ o.data=.seq its n/\its.size<=sizeLine/\Vals xs its.toList
noncomputable def arT:Value->Option V
 | .none=>some .non
 | .bool b=>some Qd5
 | .int i _=>some Qbr
 | .str x _ => some Qa4
 | .bytes b _=>some (.Rg b)
 | .float b _=>some (.flt b)
 | .ref a=>some Qag
 | .type n=>some (.ty n)
 | _=>none
theorem RelV.abs{x:V}(r:RelV x u):arT u=some x:=by
 cases x with
 | non=>cases r;rfl
 | bl _=>cases r;rfl
 | int _=>obtain⟨t,rfl⟩:=r;rfl
 | str _=>obtain⟨t,rfl⟩:=r;rfl
 | Rg _=>obtain⟨t,rfl⟩:=r;rfl
 | flt _=>obtain⟨t,rfl⟩:=r;rfl
 | ref _=>cases r;rfl
 | ty _=>cases r;rfl
theorem RelV.inj{x y:V}(r:RelV x u)(q:QbP):x=y:=j2 (r.abs.symm.trans q.abs)
theorem Vals.inj{ys:B1}(h:QcK)(q:Vals ys us):xs=ys:=by
 induction h generalizing ys with
 | nil=>cases q;rfl
 | cons r _ i=>cases q with
  | cons a t'=>rw[r.inj a,i t']
variable{Y:St}{ys:B1}{K:Frag}
theorem lQ.of(h:H a=some Qbs):lQ K H a xs:=.inl Qfg
theorem qh.of(h:H a=some Qbf):qh K H a xs:=.inl Qfg
theorem Inv.list(I:QE)(h:lQ X.K H a xs):∃its:B2,Vals xs its/\PlainL s.heap a its.toArray/\xs.length<=sizeLine:=by
 obtain h|⟨o,its,n,b,c,hd,hs,hz,r⟩:=h
 .obtain⟨z,its,n,r,e⟩:=h.ok I.ck;exact⟨its,r,⟨_,n,e,rfl,rfl,rfl⟩,z⟩
 .refine⟨ _,r,⟨o,n,I.Au a o b,c,hd,‹_› ⟩,?_⟩;have e:=r.length;grind
theorem Inv.tuple(I:QE)(h:qh X.K H a xs):∃its:B2,Vals xs its/\IsTup s.heap a its.toArray/\xs.length<=sizeLine:=by
 obtain h|⟨o,its,n,b,c,hs,hz,r⟩:=h
 .obtain⟨z,its,r,p⟩:=h.ok I.ck;exact⟨its,r,p,z⟩
 .refine⟨ _,r,⟨o,I.Au a o b,c,n,‹_› ⟩,?_⟩;have e:=r.length;grind
theorem Inv.DU(I:QE)(h:lQ X.K H a xs)(h':lQ X.K H a ys):xs=ys:=by
 obtain⟨its,r,⟨o,n,e,_,_,d⟩,_⟩:=I.list h;obtain⟨f,c,⟨o',g,b,_,_,d'⟩,_⟩:=I.list h';rw[e]at b;cases b;rw[d]at d';injection d' with d1 _;have:its=f:=by simp_all
 subst this;exact r.inj c
theorem Inv.Xo(I:QE)(h:qh X.K H a xs)(h':qh X.K H a ys):xs=ys:=by
 obtain⟨its,r,⟨o,e,_,n,d⟩,_⟩:=I.tuple h;obtain⟨f,c,⟨o',b,_,g,d'⟩,_⟩:=I.tuple h';rw[e]at b;cases b;rw[d]at d';injection d' with d1 _;have:its=f:=by simp_all
 subst this;exact r.inj c
noncomputable abbrev Cx.hu(X:Cx)(E:BN):Cx:={X with xe:=E}
abbrev Cx.Q8(X:Cx):Cx:=X.hu λ_ _=>False
theorem Cx.Ok.hu(ok:X.Ok)(E:BN):(X.hu E).Ok:=
 ⟨ok.mod,ok.kind,ok.glob,ok.blt,ok.above,ok.inj,ok.has,ok.tI,ok.hd,ok.frames,ok.vr,ok.Ak,ok.bs,ok.mu,ok.Rh,ok.Xl,ok.xh,ok.og⟩
theorem Cx.Ok.jb(ok:(X.hu E).Ok):X.Ok:=
 ⟨ok.mod,ok.kind,ok.glob,ok.blt,ok.above,ok.inj,ok.has,ok.tI,ok.hd,ok.frames,ok.vr,ok.Ak,ok.bs,ok.mu,ok.Rh,ok.Xl,ok.xh,ok.og⟩
theorem Inv.hu(I:QE)(E:BN):Inv Qkv pins Y H s:=⟨I.ok.hu E,I.os,I.bare,I.base,I.loc,I.cell,I.free,I.kR,I.pin,I.ck,I.len⟩
theorem Inv.jb(I:Inv Qkv pins Y H s):Inv X pins Y H s:=⟨I.ok.jb,I.os,I.bare,I.base,I.loc,I.cell,I.free,I.kR,I.pin,I.ck,I.len⟩
theorem SP.jb{D:Ends}{f:Flow}{s':Qb}(h:SP Qkv pins D f s'):SP X pins D f s':=by
 cases f with
 | next=>obtain⟨Y',H',I,q⟩:=h;exact⟨Y',H',I.jb,q⟩
 | brk=>obtain⟨Y',H',I,q⟩:=h;exact⟨Y',H',I.jb,q⟩
 | cont=>obtain⟨Y',H',I,q⟩:=h;exact⟨Y',H',I.jb,q⟩
 | ret u=>obtain⟨v,Y',H',I,r,q⟩:=h;exact⟨v,Y',H',I.jb,r,q⟩
variable{t:TE}
theorem PE.Q8{e:Expr}(h:PE X.Q8 e t):PE X e t:=λpins s Y H Q I hw=>
 i8 Qrx (λ_ _ ⟨v,H',a,r,q⟩=>⟨v,H',a.jb,r,q⟩) λ_ _ z=>False.elim z
theorem PT.Q8{e:Expr}{t:TT}(h:PT X.Q8 e t):PT X e t:=λpins s Y H Q I hw=>
 i8 Qrx (λ_ _ ⟨H',a,q⟩=>⟨H',a.jb,q⟩) λ_ _ z=>False.elim z
theorem Ri.Q8{st:CA}{t:TS}(h:Ri X.Q8 st t):Ri X st t:=λpins s Y H D I hw=>
 i8 (h pins s Y H D (I.hu _) hw) (λ_ _ q=>q.jb) λ_ _ z=>False.elim z
section
variable{st:Stmt}{rest:CA}{t u:TS}{e:Expr}{te:TE}{pos:Pos}
noncomputable def aoq:TS:=λD Y H=>D.nx Y H
noncomputable def arU(t u:TS):TS:=λD Y H=>t {D with nx:=u D} Y H
noncomputable def afj:Ri X [] aoq:=λ_ _ Y H _ I h=>wpAny_execs_nil ⟨Y,H,I,h⟩
theorem Nz(h1:PS X st t)(a:Ri X rest u):Ri X (st::rest) (arU t u):=by
 intro pins s Y H D I h;refine wpAny_execs_cons (dF (h1 pins s Y H _ I h) λf s1 q=>?_);cases f with
 | next=>
  obtain⟨Y',H',b,q⟩:=q;exact a pins s1 Y' H' D b q
 | ret v=>exact q
 | brk=>exact q
 | cont=>exact q
noncomputable def akf:TS:=λD Y H=>D.bk Y H
noncomputable def aor:TS:=λD Y H=>D.ct Y H
noncomputable def aaw:PS X (.Break pos) akf:=λ_ _ Y H _ I h=>wpAny_Break ⟨Y,H,I,h⟩
noncomputable def NB:PS X (.Continue pos) aor:=λ_ _ Y H _ I h=>wpAny_Continue ⟨Y,H,I,h⟩
theorem Inv.quiet(I:QE):interactive X.env=false:=by simp[interactive,I.ok.kind]
noncomputable def aos(te:TE):TS:=λD Y H=>te Y H λ_ H1=>D.nx Y H1
def yR(he:QbQ)(hs:Qk3:=by rfl):PS X (.Expr e pos) (aos te):=λpins s Y H D I h=>wpAny_Expr_any (dF QbV λv s1 ⟨x,H1,a,b,q1⟩=>⟨Y,H1,a,q1⟩) I.quiet hs
noncomputable def arV(te:TE):TS:=λD Y H=>te Y H D.rt
def akg(he:QbQ):PS X Qvl (arV te):=λpins s Y H D I h=>wpAny_Return_some (dF QbV λv s1 ⟨x,H1,b,a,q1⟩=>⟨x,Y,H1,b,a,q1⟩)
noncomputable def arW(c:TT)(t u:TS):TS:=λD Y H=>c Y H λb H1=>if b=true then t D Y H1 else u D Y H1
theorem aot{c:Expr}{a b:CA}{e:TT}(g:PT X c e)(j:Ri X a t)(i:Ri X b u):PS X (.If c a b pos) (arW e t u):=by
 intro pins s Y H D I h;refine wpAny_If (dF Qir λd s1 zz=>?_);obtain⟨H1,f,q1⟩:=zz;cases d with
 | true=>exact j pins s1 Y H1 D f q1
 | false=>exact i pins s1 Y H1 D f q1
end
abbrev TG:=V->St->Hp->(St->Hp->Prop)->Prop
abbrev va:=B1->St->Hp->(St->Hp->Prop)->Prop
def PG(X:Cx)(target:Expr)(t:TG):Prop:=
 ∀(pins:BC) (s:Qb) (Y:St) (H:Hp) (v:V) (u:Value) (Q:St->Hp->Prop),Inv X pins Y H s->RelV v u->t v Y H Q →
  wpAny Qr X.A (assign target X.env u) (λ_ s'=>∃Y' H',Inv X pins Y' H' s'/\Q Y' H') X.xe s
def ID(X:Cx)(ts:Cl)(t:va):Prop:=
 ∀(pins:BC) (s:Qb) (Y:St) (H:Hp) (vs:B1) (us:B2) (Q:St->Hp->Prop),Inv X pins Y H s->Vals vs us->t vs Y H Q →
  wpAny Qr X.A (assignInOrder ((assignEach ts X.env).map (·.2)) us) (λ_ s'=>∃Y' H',Inv X pins Y' H' s'/\Q Y' H') X.xe s
abbrev KU:=V->V->V->Hp->(Hp->Prop)->Prop
def OP(X:Cx)(t:KU):Prop:=
 ∀(pins:BC) (s:Qb) (Y:St) (H:Hp) (o i v:V) (a b u:Value) (Q:Qj5),Inv X pins Y H s->RelV o a->RelV i b->RelV v u->t o i v H Q →
  wpAny Qr X.A (setItem a b u) (λ_ s'=>∃H',Inv X pins Y H' s'/\Q H') X.xe s
abbrev Iy:=V->V->Hp->VK->Prop
def PIp(X:Cx)(op:Qfw)(t:Iy):Prop:=
 ∀(pins:BC) (s:Qb) (Y:St) (H:Hp) (x y:V) (v u:Value) (Q:VK),Inv X pins Y H s->RelV x v->RelV y u->t x y H Q →
  wpAny Qr X.A (inplaceOp op v u) Qbe X.xe s
variable{pos:Pos}
noncomputable def NC(i:Nat):TG:=λv Y H Q=>Q QeL H
def vn{x:Str}(b:Qbm)(hi:X.N[i]? = some x)(a:Qdi)(hf:Qdj:=by first|exact .inl rfl|exact .inr rfl|assumption):PG X QaF (NC i):=λpins s Y H v u Q I r h=>wpAny_assign_Name (DS I b hi a r (λs' c=>⟨_,H,c,h⟩) hf)
noncomputable def ON:va:=λvs Y H Q=>vs=[]/\Q Y H
noncomputable def L9(t:TG)(u:va):va:=λvs Y H Q=>∃v r,vs=v::r/\t v Y H λY' H'=>u r Y' H' Q
def afk:ID X [] ON:=by
 intro pins s Y H vs us Q I r h;obtain⟨e,h⟩:=h;exact assignInOrder_nil ⟨Y,H,I,h⟩
variable{es:Cl}
def NF{e:Expr}{t:TG}{u:va}(h1:PG X e t)(b:ID X es u)
  (hs:(assignEach Qav X.env).map (·.2)=assign e X.env::(assignEach es X.env).map (·.2):=by rfl):ID X Qav (L9 t u):=by
 intro pins s Y H vs us Q I r h;obtain⟨v,f,e1,h⟩:=h;subst e1;cases r with
 | cons r a=>
  rw[hs];refine assignInOrder_cons (dF (h1 pins s Y H _ _ _ I r h) λ_ s1 zz=>?_);obtain⟨c,H1,d,q1⟩:=zz;exact b pins s1 c H1 _ _ Q d a q1
noncomputable def OM(K:Frag)(n:Nat)(t:va):TG:=λv Y H Q=>∃a xs,v=.ref a/\qh K H a xs/\xs.length=n/\t xs Y H Q
variable{k:Nat}
def akj{t:va}{n:Nat}(j:QaU)(h:ID X es t)
  (hn:(assignEach es X.env).length=n:=by rfl) (d:(assignEach es X.env).findIdx? (·.1)=none:=by rfl):PG X (.Tuple es k pos) (OM X.K n t):=by
 intro pins s Y H v u Q I r hw;obtain⟨a,xs,e1,i,hl,hw⟩:=hw;subst e1;cases r;obtain⟨its,c,g,hz⟩:=I.tuple i;refine assign_Tuple_tuple (I.ok.hd j) g (by simp[hn,<- hl,c.length]) d λh' f=>?_;have l:=I.kept (t':=s.toks) λb o e=>f b o QgT e;exact h pins _ Y H xs _ Q l (‹_›) hw
noncomputable def arX(to a:TE)(t:KU):TG:=λv Y H Q=>to Y H λo H1=>a Y H1 λi H2=>t o i v H2 λb=>Q Y b
def akk{o i:Expr}{to a:TE}{t:KU}(f:PE X o to)(hi:PE X i a)(hs:OP X t)
  (m:∀v,assign Qgf X.env v=(do
   let ov ← holding [v] QnL
   let iv ← holding [v,ov] (eval i X.env)
   standAt pos
   holding [v,ov,iv] (setItem ov iv v)
   release [v,ov,iv] []):=by intro _;rfl):PG X Qgf (arX to a t):=by
 intro pins s Y H v u Q I r h;refine cz (rq (dF Qis λov s1 zz=>?_));obtain⟨x,H1,k,c,q1⟩:=zz;refine cz (rq (dF (hi pins s1 Y H1 _ k q1) λiv s2 zz=>?_));obtain⟨y,H2,j,b,e⟩:=zz;refine cz (yY (cz (rq (dF (hs pins s2 Y H2 x y v ov iv u _ j c b r e) λ_ s3 zz=>?_))));obtain⟨l,g,d⟩:=zz;exact wpAny_release ⟨Y,l,g,d⟩
noncomputable def OK(te:TE)(g:TG):TS:=λD Y H=>te Y H λx H1=>g x Y H1 D.nx
variable{tg:Expr}{te:TE}
def akl{e:Expr}{g:TG}(he:QbQ)(b:PG X tg g)(hs:swapsWithSole [tg] e pos.line X.env=pure false:=by rfl)(hw:swappedStores [tg] e X.env=pure none:=by rfl)
  (h1:(assignEach [tg] X.env).map (·.2)=[assign tg X.env]:=by rfl):PS X (.Assign [tg] e pos) (OK te g):=by
 intro pins s Y H D I h;refine wpAny_Assign_stores (dF QbV λv s1 zz=>?_) hs hw;obtain⟨x,H1,c,a,q1⟩:=zz;rw[h1];exact dF (b pins s1 Y H1 x v _ c a q1) λ_ s2 q=>q
def Rk{x:Str}{e:Expr}{pos':Pos}(c:Qbm)(hi:X.N[i]? = some x)(b:Qdi)(he:QbQ)(hs:Qdx:=by rfl)(hf:Qdj:=by first|exact .inl rfl|exact .inr rfl|assumption) :
  PS X Qlx (OK te (NC i)):=by
 intro pins s Y H D I h;refine wpAny_Assign_Name (dF QbV λv s1 zz=>?_) hs;obtain⟨y,H1,f,a,q1⟩:=zz;exact DS f c hi b a (λs2 d=>⟨_,H1,d,q1⟩) hf
noncomputable def arY(i:Nat)(te:TE)(a:Iy):TS:=λD Y H=>∃x,Y[i]? = some (some x)/\te Y H λy H1=>a x y H1 λz H2=>D.nx (Y.set i (some z)) H2
theorem akm{x:Str}{e:Expr}{op:Qfw}{j:Iy}{pos':Pos}(C:Qbm)(hi:X.N[i]? = some x)(g:Qdi)(he:QbQ)(t:PIp X op j)(hf:Qdj:=by first|exact .inl rfl|exact .inr rfl|assumption) :
  PS X (.AugAssign Qek op e pos) (arY i te j):=by
 intro pins s Y H D I h;obtain⟨v,e1,h⟩:=h;obtain⟨m,hn,hl⟩:=I.loc;have f:rF X.env.scope x:=by obtain k|k:=g;exact .inl k;exact .inr (.inl k)
 obtain⟨u,r,l⟩:=hl i x v hi e1 f;refine wpAny_AugAssign_Name ?_;have go:wpAny Qr X.A QdH (λw d=>wpAny Qr X.A (inplaceOp op u w) (λr b=>wpAny Qr X.A (storeName X.env x r) (λ_=>SP X pins D .next) X.xe b) X.xe d) X.xe s:=by
  refine dF QbV λw s1 zz=>?_;obtain⟨y,H1,G,p,q1⟩:=zz;refine dF (t pins s1 Y H1 v y u w _ G r p q1) λz s2 zz=>?_;obtain⟨J,H2,F,o,q⟩:=zz;exact DS F C hi g o (λs3 E=>⟨_,H2,E,q⟩) hf
 obtain⟨a,hm⟩|⟨a,c,B,n⟩:=l
 .exact wpAny_loadName_local I.ok.kind a hn hm go
 .obtain a|a:=a
  .exact wpAny_loadName_cell I.ok.kind a B n go
  .obtain k|k:=g
   .have:X.env.scope.names.lookup x=some _:=a;simp_all
   .have:X.env.scope.names.lookup x=some _:=a;simp_all
noncomputable def ipI(f:Qnp):Iy:=λx y H Q=>∃i j,x=.int i/\y=.int j/\Q (.int (f i j)) H
def akn:PIp X .Add (ipI λi j=>i+j):=by
 intro pins s Y H x y v u Q I b a h;obtain⟨i,j,e1,e2,q⟩:=h;subst e1;subst e2;obtain⟨t,rfl⟩:=b;obtain⟨t',rfl⟩:=a;exact iadd_int ⟨.int _,H,I.tok _,⟨_,rfl⟩,q⟩
noncomputable def ako(c:TT)(tb:TS):TS:=λD Y H=>∃W:Nat->St->Hp->Prop,(∃m,W m Y H)/\∀m Y H,W m Y H →
 c Y H λb H1=>if b=true then ∃N:St->Hp->Prop,(∀Y' H',N Y' H'->∃a,a<m/\W a Y' H')/\tb {D with nx:=N,ct:=N,bk:=D.nx} Y H1 else D.nx Y H1
variable{c:Expr}
theorem aay{body:CA}{o:TT}{tb:TS}(p:QhT)(u:PT X c o)(x:Ri X body tb):PS X (.While c body [] pos) (ako o tb):=by
 intro pins s Y H D I h;obtain⟨W,⟨m0,w0⟩,turn⟩:=h;refine wpAny_While (codeAny_whileLoop (λn s'=>∃Y' H',Inv X pins Y' H' s'/\W n Y' H') ?_ m0 ⟨Y,H,I,w0⟩);rintro n s1 ⟨i,H1,y,t⟩;refine u4 p (dF (u pins s1 i H1 _ y (turn n i H1 t)) λb s2 zz=>?_);obtain⟨H2,r,g⟩:=zz;cases b with
 | true=>
  obtain⟨N,q,g⟩:=g;refine u4 p (dF (x pins s2 i H2 _ r g) λf s3 e=>?_);cases f with
  | next=>
   obtain⟨a,d,m,k⟩:=e;obtain⟨l,hm,j⟩:=q a d k;exact⟨l,hm,a,d,m,j⟩
  | cont=>
   obtain⟨a,d,m,k⟩:=e;obtain⟨l,hm,j⟩:=q a d k;exact⟨l,hm,a,d,m,j⟩
  | brk=>exact e
  | ret v=>exact e
 | false=>
  exact wpAny_execs_nil ⟨i,H2,r,g⟩
structure It where
 go:Nat->Hp->Prop
 n3:Nat->Hp->V->Hp->Prop
 stop:Nat->Hp->Prop
def lA(X:Cx)(pins:BC)(H:Hp)(b:Addr):Prop:=
 H b=none/\b≠X.env.locals/\b∉X.fs/\QhF/\(∀x c,X.env.cells.lookup x=some c->c≠b)/\∀p∈X.pn++pins,p.1≠b
theorem Inv.Av(I:QE)(a:s.heap.objs.size<=b)(hn:H' b=none):lA X pins H' b:=by
 refine⟨hn,Nat.ne_of_gt (lh I.lt a),I.arM a,.inr (jq I.sz a),λx c e z=>?_,λp d z=>?_⟩
 .obtain⟨v,q⟩:=I.cell x c e;exact absurd (lh q.lt (z▸a)) (u7 _)
 .exact absurd (lh (h9 (I.pin p d).1) (z▸a)) (u7 _)
structure Turn(P:Qah)(w:World)(K:Frag)(tg:Expr)(J:It)(fp:BY)(it:Addr)(tn:QiO):Prop where
 mem:it∈fp
 obj:∀i h,tn i h->∀b∈fp,∃o,h.get? b=some o/\∀v,o.data ≠ .cell v
 keep:∀i h h',tn i h->(∀b∈fp,∀o,h.get? b=some o->h'.get? b=some o)->tn i h'
 item:∀(X:Cx),X.prog=P->X.w=w->X.K=K->X.calm=true->∀(i:Nat) (pins:BC) (s:Qb) (Y:St) (H:Hp) (E:BN),Inv X pins Y H s->(∀b∈fp,lA X pins H b)->tn i s.heap->J.go i H →
  wpAny Qch X.A Qi7 (λr s1=>∃u,r=some u ∧
   wpAny Qch X.A Qrr (λ_ s2=>∃x H',Inv X pins Y H' s2/\RelV x u/\J.n3 i H x H'/\tn Qa5 s2.heap/\∀b∈fp,H' b=none) E s1) E s
 done:∀(X:Cx),X.prog=P->X.w=w->X.K=K->X.calm=true->∀(i:Nat) (pins:BC) (s:Qb) (Y:St) (H:Hp) (E:BN),Inv X pins Y H s->(∀b∈fp,lA X pins H b)->tn i s.heap->J.stop i H →
  wpAny Qch X.A Qi7 (λr s1=>r=none/\Inv X pins Y H s1) E s
 self:∀(A:Qaq) (i:Nat) (s:Qb) (Q:BN) (E:BN),tn i s.heap->Q Qbq s->wpAny Qch A (pyIter Qbq) Q E s
abbrev TI:=St->Hp->(It->Hp->Prop)->Prop
def zp(X:Cx)(pins:BC)(Y:St)(tg:Expr)(R:QgE)(a:Value)(s2:Qb):Prop:=
 ∃(it:Addr) (fp:BY) (tn:QiO) (J:It) (H':Hp),a=.ref it/\Inv X pins Y H' s2/\Turn X.prog X.w X.K tg J fp it tn/\tn 0 s2.heap/\(∀b∈fp,lA X pins H' b)/\R J H'
def PI(X:Cx)(tg iter:Expr)(a:TI):Prop:=
 ∀(pins:BC) (s:Qb) (Y:St) (H:Hp) (R:QgE),Inv X pins Y H s->a Y H R →
  wpAny Qr X.A QuQ QkL X.xe s
def DV{it:Addr}{o:Obj}{n:Qbg}{vs:Ch}(a:s.heap.get? it=some o)(b:o.cls=.type n)(hd:o.data=.fields vs)
  (hn:["enumerate","zip","dict_itemiterator","dict_reverseitemiterator","odict_iterator","itertools.zip_longest","itertools.pairwise"].contains n=false) (hQ:Q () s):wpAny M A Qrr Q E s:=by
 cases tg<;>first
  | exact hL hQ
  | (cases u<;>first
    | exact hL hQ
    | (refine cz (wpAny_load a ?_)
       rw[b,hd];show wpAny M A (if (["enumerate","zip","dict_itemiterator","dict_reverseitemiterator","odict_iterator","itertools.zip_longest","itertools.pairwise"].contains n&&vs[0]? == some _)=true then _ else _) Q E s;rw[bS (by intro h;rw[hn]at h;cases h)];exact hL hQ))
noncomputable def Itl(K:Frag)(a:Addr):It:=
 ⟨λi H=>∃xs x,lQ K H a xs/\xs[i]? = some x,λi H x H'=>H'=H/\∀xs,lQ K H a xs->xs[i]? = some x,λi H=>∃xs,lQ K H a xs/\xs.length<=i⟩
noncomputable def Itt(K:Frag)(a:Addr):It:=
 ⟨λi H=>∃xs x,qh K H a xs/\xs[i]? = some x,λi H x H'=>H'=H/\∀xs,qh K H a xs->xs[i]? = some x,λi H=>∃xs,qh K H a xs/\xs.length<=i⟩
noncomputable def Nl(lo:Int)(n:Nat):It:=⟨λi _=>i<n,λi H x H'=>H'=H/\x=.int (lo+i),λi _=>n<=i⟩
theorem Xp(a it:Addr):Turn P w K tg (Itl K a) [it] it (λi h=>h.IsListIter it a i) where
 mem:=by simp
 obj:=λi h st b f=>by
  have e:b=it:=by simpa using f
  subst e;obtain⟨o,e,c,d⟩:=st;simp_all
 keep:=λi h h' st k=>st.at λo e=>k it Wl o e
 item:=by
  intro X n hw q v i pins s Y H E I hf st m;subst n hw q;obtain⟨xs,x,g,l⟩:=m;obtain⟨its,j,p,hz⟩:=I.list g;obtain⟨u,C,A⟩:=j.get l;obtain⟨f0,f1,f2,t,f4,r⟩:=hf it Wl;refine wpAny_pyNext_list_item st p.isList (x:=u) (by simpa using C) λh' y z=>?_;have F:=I.turned (t':=s.toks) Qq4 f0 f1 t f4 r;obtain⟨o,e,c,d⟩:=id y;exact⟨u,rfl,DV (s:={s with heap:=h'}) e c d Wk ⟨x,H,F,A,⟨rfl,λys B=>by rw[I.DU B g];exact l⟩,y,λb f=>(hf b f).1⟩⟩
 done:=by
  intro X n hw q v i pins s Y H E I hf st m;subst n hw q;obtain⟨xs,g,l⟩:=m;obtain⟨its,j,p,hz⟩:=I.list g;obtain⟨f0,f1,f2,t,f4,r⟩:=hf it Wl;have hl:=j.length;exact wpAny_pyNext_list_end (I.ok.hd v) st p.isList WE λh' D=>⟨rfl,I.turned (t':=s.toks) Qr1 f0 f1 t f4 r⟩
 self:=λ_ _ _ _ _ st h=>wpAny_pyIter_listiter st h
theorem Rl(a it:Addr):Turn P w K tg (Itt K a) [it] it (λi h=>h.IsTupleIter it a i) where
 mem:=by simp
 obj:=λi h st b f=>by
  have e:b=it:=by simpa using f
  subst e;obtain⟨o,e,c,d⟩:=st;simp_all
 keep:=λi h h' st k=>st.at λo e=>k it Wl o e
 item:=by
  intro X n hw q v i pins s Y H E I hf st m;subst n hw q;obtain⟨xs,x,g,l⟩:=m;obtain⟨its,j,p,hz⟩:=I.tuple g;obtain⟨u,C,A⟩:=j.get l;obtain⟨f0,f1,f2,t,f4,r⟩:=hf it Wl;refine wpAny_pyNext_tuple_item st (p) (x:=u) (by simpa using C) λh' y z=>?_;have F:=I.turned (t':=s.toks) Qq4 f0 f1 t f4 r;obtain⟨o,e,c,d⟩:=id y;exact⟨u,rfl,DV (s:={s with heap:=h'}) e c d Wk ⟨x,H,F,A,⟨rfl,λys B=>by rw[I.Xo B g];exact l⟩,y,λb f=>(hf b f).1⟩⟩
 done:=by
  intro X n hw q v i pins s Y H E I hf st m;subst n hw q;obtain⟨xs,g,l⟩:=m;obtain⟨its,j,p,hz⟩:=I.tuple g;obtain⟨f0,f1,f2,t,f4,r⟩:=hf it Wl;have hl:=j.length;exact wpAny_pyNext_tuple_end (I.ok.hd v) st (p) WE λh' D=>⟨rfl,I.turned (t':=s.toks) Qr1 f0 f1 t f4 r⟩
 self:=λ_ _ _ _ _ st h=>wpAny_pyIter_tupleiter st h
theorem Rm(it:Addr)(lo:Int)(n:Nat):Turn P w K tg (Nl lo n) [it] it (λi h=>IsRangeIter h it (lo+(i:Nat)*1) ((n:Int)-(i:Nat)) 1) where
 mem:=by simp
 obj:=λi h st b a=>by simp_all
 keep:=λi h h' st k=>k it Wl _ st
 item:=by
  intro X j hw l d i pins s Y H E I hf st c;subst j hw l;obtain⟨f0,f1,f2,g,f4,f⟩:=hf it Wl;have W:=Walks.range (prog:=X.prog) (w:=X.w) (I.ok.hd d) it lo 1 n;refine W.item i s _ _ c st λv h' tk hv m kk=>?_;obtain⟨t,rfl⟩:=hv;have q:Inv X pins Y H {s with heap:=h',toks:=tk}:=I.turned (λb o a e=>kk b o (by simpa using a) e) f0 f1 g f4 f;refine⟨_,rfl,DV m rfl rfl Wk ⟨.int (lo+i),H,q,⟨t,?_⟩,⟨rfl,rfl⟩,m,λb a=>(hf b a).1⟩⟩;rw[Int.mul_one]
 done:=by
  intro X j hw l d i pins s Y H E I hf st c;obtain⟨f0,f1,f2,g,f4,f⟩:=hf it Wl;exact wpAny_pyNext_range_end (I.ok.hd d) st (by have:n<=i:=c;lia) λh' p=>⟨rfl,I.turned (p) f0 f1 g f4 f⟩
 self:=λ_ _ _ _ _ st h=>wpAny_pyIter_rangeiter st h
def aoz(K:Frag)(tl:TE):TI:=λY H R=>tl Y H λx H1=>∃a,x=.ref a/\(∃xs,lQ K H1 a xs)/\R (Itl K a) H1
def ar0(K:Frag)(tl:TE):TI:=λY H R=>tl Y H λx H1=>∃a,x=.ref a/\(∃xs,qh K H1 a xs)/\R (Itt K a) H1
def Vd{l:Expr}{tl:TE}(hl:PE X l tl):PI X tg l (aoz X.K tl):=by
 intro pins s Y H R I h;refine dF Qtb λv s1 zz=>?_;obtain⟨x,H1,c,d,q1⟩:=zz;obtain⟨a,e,⟨xs,f⟩,q⟩:=q1;subst e;cases d;obtain⟨its,i,p,hz⟩:=c.list f;refine wpAny_pyIter_list p.isList ?_;refine⟨ _,_,_,_,H1,rfl,c.kept λb o e=>ia _ e,Xp a _,⟨_,jj _ rfl,rfl,rfl⟩,λb g=>?_,q⟩;have e:=by simpa using g
 subst e;exact c.Av (hI _) Qiz
def akq{l:Expr}{tl:TE}(hl:PE X l tl):PI X tg l (ar0 X.K tl):=by
 intro pins s Y H R I h;refine dF Qtb λv s1 zz=>?_;obtain⟨x,H1,c,d,q1⟩:=zz;obtain⟨a,e,⟨xs,f⟩,q⟩:=q1;subst e;cases d;obtain⟨its,i,p,hz⟩:=c.tuple f;refine wpAny_pyIter_tuple (p) ?_;refine⟨ _,_,_,_,H1,rfl,c.kept λb o e=>ia _ e,Rl a _,⟨_,jj _ rfl,rfl,rfl⟩,λb g=>?_,q⟩;have e:=by simpa using g
 subst e;exact c.Av (hI _) Qiz
theorem aaz{R:QgE}{lo hi:Int}{t u v:Tok}{tk:Nat}(I:QE)(h1:-(2 ^ 62)<=lo)(f:lo<2 ^ 62)(d:-(2 ^ 62)<=hi)(c:hi<2 ^ 62)
  (q:R (Nl lo (hi-lo).toNat) H):wpAny Qr X.A (pyIter QbT) Quj E {s with heap:=s.heap.push {cls:=.type "range",data:=.fields #[.int lo t,.int hi u,.int 1 v]},toks:=tk}:=by
 refine wpAny_pyIter_range (IsRange.new ..) (small_one h1 f d c) ?_;have a:Inv X pins Y H {s with heap:=s.heap.push {cls:=.type "range",data:=.fields #[.int lo t,.int hi u,.int 1 v]},toks:=tk}:=I.kept λb o e=>ia _ e;refine⟨ _,_,_,_,H,rfl,
  a.kept λb o e=>ia _ e,Rm _ lo _,?_,λb g=>?_,q⟩
 .have e1:lo+((0:Nat))*1=lo:=by simp
  have e2:(((hi-lo).toNat))-((0:Nat))=Builtin.Range.rangeSize lo hi 1:=by rw[rangeSize_one];grind
  rw[e1,e2];exact jj _ rfl
 .have e:b=(s.heap.push {cls:=.type "range",data:=.fields #[.int lo t,.int hi u,.int 1 v]}).objs.size:=by simp_all
  subst e;exact a.Av (hI _) (a.ck.fresh (hI _))
def aoA(ta:TA):TI:=λY H R=>ta Y H λvs H1=>∃j:Int,vs=[.int j] /\ -(2 ^ 62)<=j/\j<2 ^ 62/\R (Nl 0 j.toNat) H1
theorem Xq{a:Expr}{ta:TA}{p:Pos}(f:QjI)(hm:Qi1)(g:PA X [a] ta)(hs:starEach [a] X.env=[(false,eval a X.env)]:=by rfl):PI X tg (.Call Quk [a] [] pos) (aoA ta):=by
 intro pins s Y H R I h;refine Call_ (mX I f hm boot_range (tJ (dF (g pos pins s Y H _ I h) λus s1 zz=>?_) hs rfl));obtain⟨vs,H1,i,c,q1⟩:=zz;obtain⟨j,e,q1,d,q⟩:=q1;subst e;cases c with
 | cons r b=>
  cases b;obtain⟨t,rfl⟩:=r;exact call_range_1 (aaz i We We q1 d Wp)
noncomputable def ar3(b:TI)(g:TG)(tb:TS):TS:=λD Y H=>b Y H λJ H1=>∃W:Nat->Nat->St->Hp->Prop,(∃m,W 0 m Y H1)/\∀i m Y H,W i m Y H →
 (J.stop i H/\D.nx Y H)\/(J.go i H/\∃N:St->Hp->Prop,(∀Y' H',N Y' H'->∃a,a<m/\W Qa5 a Y' H')/\∀x H',J.n3 i H x H'->g x Y H' λc H2=>tb {D with nx:=N,ct:=N,bk:=D.nx} c H2)
noncomputable def DW(fp:BY)(h:Heap):BC:=fp.filterMap λb=>(h.get? b).map λo=>(b,o)
def jQ{fp:BY}{o:Obj}(a:b∈fp)(e:h.get? b=some o):(b,o)∈DW fp h:=List.mem_filterMap.2 ⟨b,a,by rw[e];rfl⟩
theorem Xr{fp:BY}{p:Addr×Obj}(a:p∈DW fp h):p.1∈fp/\h.get? p.1=some p.2:=by
 obtain⟨b,c,e⟩:=List.mem_filterMap.1 a;cases q:h.get? b with
 | none=>rw[q]at e;cases e
 | some o=>
  rw[q]at e;have d:=j2 e;subst d;exact⟨c,q⟩
theorem Inv.pinned{fp:BY}(I:QE)(hf:∀b∈fp,lA X pins H b)(g:∀b∈fp,∃o,s.heap.get? b=some o/\∀v,o.data ≠ .cell v):Inv X (pins++DW fp s.heap) Y H s:=
 I.Dl λp f=>(hG.1 f).elim (λz=>I.pin p (hV _ z)) λz=>by
  obtain⟨a,e⟩:=Xr z;obtain⟨f0,f1,f2,_⟩:=hf p.1 a;obtain⟨o,c,d⟩:=g p.1 a;rw[e]at c;cases c;exact⟨e,f0,f1,f2,d⟩
theorem Inv.tD{pl:BC}(I:Inv X (pins++pl) Y H s):Inv X pins Y H s:=I.Dl λp a=>I.pin p (hV _ Qkz)
def Rn{iter:Expr}{body:CA}{O:TI}{g:TG}{tb:TS}(B:QhT)(P:QaU)(hi:PI X tg iter O)(hg:PG X tg g)(k:Ri X body tb)
  (hs:Qco:=by intro _;rfl):PS X (.For tg iter body [] pos) (ar3 O g tb):=by
 intro pins s Y H D I h;refine wpAny_For (dF Qii λv s1 h1=>dF h1 λaa s2 h2=>?_) hs;obtain⟨it,fp,tn,J,H2,e,I2,T,F,f2,W,⟨m0,w0⟩,turn⟩:=h2;subst e;have j:∀{H':Hp},(∀b∈fp,H' b=none)->∀b∈fp,lA X pins H' b:=λhn b k=>⟨hn b k,(f2 b k).2⟩;refine codeAny_forLoop_any (λn s'=>∃i Y' H',Inv X pins Y' H' s'/\tn i s'.heap/\(∀b∈fp,H' b=none)/\W i n Y' H') ?_ m0 ⟨0,Y,H2,I2,F,λb k=>(f2 b k).1,w0⟩;rintro n s3 ⟨i,c,C,R,y,fr3,w3⟩;obtain⟨stop,qn⟩|⟨go,N,hN,step⟩:=turn i n c C w3
 .refine u4 B (dF (T.done X rfl rfl rfl P i pins s3 c C X.xe R (j fr3) y stop) λr s4 zz=>?_);obtain⟨K,I4⟩:=zz;subst K;exact wpAny_execs_nil ⟨c,C,I4,qn⟩
 .refine u4 B (dF (T.item X rfl rfl rfl P i pins s3 c C X.xe R (j fr3) y go) λr s4 zz=>?_);obtain⟨u,K,h4⟩:=zz;subst K;refine u4 B (dF h4 λ_ s5 zz=>?_);obtain⟨x,S,I5,r5,U,t,L⟩:=zz;have M:=I5.pinned (j L) (T.obj _ _ t);refine u4 B (dF (hg _ s5 c S x u _ M r5 (step x S U)) λ_ s6 zz=>?_);obtain⟨E,H6,I6,q6⟩:=zz;refine u4 B (dF (k _ s6 E H6 _ I6 q6) λf G q=>?_);have again:∀{a:St} {p:Hp},Inv X (pins++DW fp s5.heap) a p G->N a p->∃m,m<n/\∃i Y' H',Inv X pins Y' H' G/\tn i G.heap/\(∀b∈fp,H' b=none)/\W i m Y' H':=λ{a p} l z=>by
   obtain⟨m',hm,Z⟩:=hN a p z;refine⟨m',hm,i+1,a,p,l.tD,T.keep _ _ _ t λb k o e=>(l.pin (b,o) Qtz).1,λb k=>?_,Z⟩;obtain⟨o,e,d⟩:=T.obj _ _ t b k;exact(l.pin (b,o) Qtz).2.1
  cases f with
  | next=>obtain⟨a,p,l,z⟩:=q;exact again l z
  | cont=>obtain⟨a,p,l,z⟩:=q;exact again l z
  | brk=>obtain⟨a,p,l,q⟩:=q;exact⟨a,p,l.tD,q⟩
  | ret v=>obtain⟨V,a,p,l,r7,q⟩:=q;exact⟨V,a,p,l.tD,r7,q⟩
abbrev R2:=V->V->Hp->VK->Prop
def yS(X:Cx)(f:Qsn)(r:R2):Prop:=
 ∀(pins:BC) (s:Qb) (Y:St) (H:Hp) (x y:V) (v u:Value) (Q:VK),Inv X pins Y H s->RelV x v->RelV y u->r x y H Q →
  wpAny Qr X.A (f v u) Qbe X.xe s
def Na(X:Cx)(f:Value->Sem Value)(r:QmO):Prop:=
 ∀(pins:BC) (s:Qb) (Y:St) (H:Hp) (x:V) (v:Value) (Q:VK),Inv X pins Y H s->RelV x v->r x H Q →
  wpAny Qr X.A (f v) Qbe X.xe s
def tE(X:Cx)(f:Value)(r:Qmy):Prop:=
 ∀(pins:BC) (s:Qb) (Y:St) (H:Hp) (xs:B1) (us:B2) (Q:VK),Inv X pins Y H s->Vals xs us->r xs H Q →
  wpAny Qr X.A (call f us) Qbe X.xe s
def ar6(X:Cx)(r:V->Hp->EN->Prop):Prop:=
 ∀(pins:BC) (s:Qb) (Y:St) (H:Hp) (x:V) (v:Value) (Q:EN),Inv X pins Y H s->RelV x v->r x H Q →
  wpAny Qr X.A Qg1 QeP X.xe s
noncomputable def vl(r:R2)(ta tb:TE):TE:=λY H Q=>ta Y H λx H1=>tb Y H1 λy H2=>r x y H2 Q
noncomputable def tUn(r:QmO)(ta:TE):TE:=λY H Q=>ta Y H λx H1=>r x H1 Q
noncomputable def rI(C:QuR)(g:Int->Int->V):R2:=λx y H Q=>∃i j,x=.int i/\y=.int j/\C i j/\Q Qd4 H
noncomputable def vu(g:Int->Int->V):R2:=λx y H Q=>∃i j,x=.int i/\y=.int j/\Q Qd4 H
def rU(g:Int->V):V->Hp->VK->Prop:=λx H Q=>∃i,x=.int i/\Q (g i) H
variable{a b:Expr}{ta tb:TE}{f:Qsn}
def KO(k:Qcn)(j:Qfv){R:V->V->Hp->Prop}(I:QE)
  (h:ta Y H λx H1=>tb Y H1 λy H2=>R x y H2) {Q:BN}
  (hf:∀v u s2 x y H2,Inv X pins Y H2 s2->RelV x v->RelV y u->R x y H2->wpAny Qr X.A (f v u) Q X.xe s2) :
  wpAny Qr X.A (eval a X.env) (λv d=>wpAny Qr X.A (eval b X.env) (λu c=>wpAny Qr X.A (f v u) Q X.xe c) X.xe d) X.xe s:=by
 refine dF QtA λv s1 zz=>?_;obtain⟨x,H1,m,g,q1⟩:=zz;refine dF QlZ λu s2 zz=>?_;obtain⟨y,H2,l,e,i⟩:=zz;exact hf v u s2 x y H2 l g e i
noncomputable def DX{op:Qfw}{r:R2}(e:Qul)(g:Qcn)(f:Qfv):PE X (.BinOp a op b pos) QjE:=λpins s Y H Q I h=>wpAny_BinOp Qpl
def aoC{op:UnaryOp}{r:QmO}(c:Na X (unaryOp op) r)(d:Qcn):PE X (.UnaryOp op a pos) (tUn r ta):=λpins s Y H Q I h=>UnaryOp_ (dF (d pins s Y H _ I h) λv s1 ⟨x,H1,e,b,q1⟩=>c pins s1 Y H1 x v Q e b q1)
def z6{C:QuR}{g:Qnp}
  (rule:∀(i j:Int) (t u:Tok) (s:Qb) (Q:BN) (E:BN),C i j->Q Qvo {s with toks:=s.toks+1}->wpAny Qr X.A Qmo Q E s) :
  yS X f (rI C λi j=>.int Qd4):=by
 intro pins s Y H x y v u Q I b a h;obtain⟨i,j,rfl,rfl,c,q⟩:=h;obtain⟨t,rfl⟩:=b;obtain⟨t',rfl⟩:=a;exact rule i j t t' s _ _ c ⟨.int _,H,I.tok _,⟨_,rfl⟩,q⟩
def Pe{g:Qnp}
  (rule:∀(i j:Int) (t u:Tok) (s:Qb) (Q:BN) (E:BN),Q Qvo {s with toks:=s.toks+1}->wpAny Qr X.A Qmo Q E s) :
  yS X f (vu λi j=>.int Qd4):=by
 intro pins s Y H x y v u Q I b a h;obtain⟨i,j,rfl,rfl,q⟩:=h;obtain⟨t,rfl⟩:=b;obtain⟨t',rfl⟩:=a;exact rule i j t t' s _ _ ⟨.int _,H,I.tok _,⟨_,rfl⟩,q⟩
def Pd{g:Qgt}
  (rule:∀(i j:Int) (t u:Tok) (s:Qb) (Q:BN) (E:BN),Q (.bool Qd4) s->wpAny Qr X.A Qmo Q E s) :
  yS X f (vu λi j=>.bl Qd4):=by
 intro pins s Y H x y v u Q I b a h;obtain⟨i,j,rfl,rfl,q⟩:=h;obtain⟨t,rfl⟩:=b;obtain⟨t',rfl⟩:=a;exact rule i j t t' s _ _ ⟨.bl _,H,I,rfl,q⟩
def Pc(i j:Int):Prop:=0<j/\j<1073741824
def O3(i j:Int):Prop:=0<=j/\j<=1000000/\i.natAbs<2 ^ 64
def F1(i j:Int):Prop:=(-(2 ^ 64)<i/\i<2 ^ 64)\/(-(2 ^ 64)<j/\j<2 ^ 64)
theorem F1.ok{i j:Int}(h:F1 i j):IntMulOk i j:=by
 obtain⟨h1,a⟩|⟨h1,a⟩:=h
 .exact .of_left QtB
 .exact .of_right QtB
def aks:yS X QeM (vu λi j=>.int (i+j)):=Pe λ_ _ _ _ _ _ _ q=>add_int q
def akt:yS X (binaryOp .Sub) (vu λi j=>.int (i-j)):=Pe λ_ _ _ _ _ _ _ q=>sub_int q
def aku:yS X QuS (rI F1 λi j=>.int (i*j)):=z6 λ_ _ _ _ _ _ _ a q=>mul_int q a.ok
theorem afm:yS X (binaryOp .FloorDiv) (rI Pc λi j=>.int (i / j)):=z6 λi j _ _ _ _ _ a q=>by
 have h1:=a.1;have b:=a.2;exact floordiv_int We (by rw[Int.fdiv_eq_ediv_of_nonneg i We];exact q) (.inl (PyProof.noPylong_small We))
theorem akv:yS X (binaryOp .Mod) (rI (λ_ j=>0<j) λi j=>.int (i % j)):=z6 λi j _ _ _ _ _ a q=>mod_int' We (by rw[Int.fmod_eq_emod_of_nonneg i We];exact q)
def akw:yS X (binaryOp .Pow) (rI O3 λi j=>.int (i ^ j.toNat)):=z6 λ_ _ _ _ _ _ _ a q=>pow_int_small a.1 a.2.1 a.2.2 q
def unI{f:Value->Sem Value}{g:Qg4}
  (rule:∀(i:Int) (t:Tok) (s:Qb) (Q:BN) (E:BN),Q (.int (g i) s.toks) {s with toks:=s.toks+1}->wpAny Qr X.A (f QgI) Q E s) :
  Na X f (rU λi=>.int (g i)):=by
 intro pins s Y H x v Q I a h;obtain⟨i,rfl,q⟩:=h;obtain⟨t,rfl⟩:=a;exact rule i t s _ _ ⟨.int _,H,I.tok _,⟨_,rfl⟩,q⟩
def akx:Na X (unaryOp .USub) (rU λi=>.int (-i)):=unI λ_ _ _ _ _ q=>neg_int q
noncomputable def O0:V->V->Bool
 | .non,.non=>true | .non,.int _=>true | .int _,.non=>true | .non,.bl _=>true | .bl _,.non=>true | .non,.str _=>true | .str _,.non=>true
 | .int _,.int _=>true | .bl _,.bl _=>true | .str _,.str _=>true | .Rg _,.Rg _=>true
 | .int _,.str _=>true | .str _,.int _=>true | .bl _,.str _=>true | .str _,.bl _=>true
 | _,_=>false
def rEq:R2:=λx y H Q=>O0 x y=true/\Q (.bl (decide (x=y))) H
def rNe:R2:=λx y H Q=>O0 x y=true/\Q (.bl (!decide (x=y))) H
def Ve{i j:Int}:decide (V.int i=V.int j)=(i==j):=by
 rw[xk];simp
def aaA{i j:Bool}:decide (V.bl i=V.bl j)=(i==j):=by
 rw[xk];simp
def Vf{i j:Str}:decide (V.str i=V.str j)=(i==j):=by
 rw[xk];simp
theorem Vg{i j:Array UInt8}:decide (V.Rg i=V.Rg j)=(i.toList==j.toList):=by
 rw[xk];simp_all
def cW{Q:VK}{k a:Bool}(I:QE)(q:Q (.bl k) H)(e:k=a):EP X pins Y Q (.bool a) s:=by
 subst e;exact⟨.bl k,H,I,rfl,q⟩
theorem SF:yS X (compareOp .Eq) rEq:=by
 intro pins s Y H x y v u Q I b a h;obtain⟨hs,q⟩:=h;cases x with
 | non=>
  cases b;cases y with
  | non=>cases a;exact PySem.EqNone.eq_none_none QaH
  | bl j=>cases a;exact PySem.EqNone.eq_none_bool QaH
  | int j=>obtain⟨t',rfl⟩:=a;exact PySem.EqNone.eq_none_int QaH
  | str j=>obtain⟨t',rfl⟩:=a;exact PySem.EqNone.eq_none_str QaH
  | _=>exact absurd (show false=true from hs) km
 | bl i=>
  cases b;cases y with
  | non=>cases a;exact PySem.EqNone.eq_bool_none QaH
  | bl j=>cases a;exact eq_bool (cW I q aaA)
  | str j=>obtain⟨t',rfl⟩:=a;exact PySem.EqMixed.eq_bool_str QaH
  | _=>exact absurd (show false=true from hs) km
 | int i=>
  obtain⟨t,rfl⟩:=b;cases y with
  | non=>cases a;exact PySem.EqNone.eq_int_none QaH
  | int j=>obtain⟨t',rfl⟩:=a;exact eq_int (cW I q Ve)
  | str j=>obtain⟨t',rfl⟩:=a;exact PySem.EqMixed.eq_int_str QaH
  | _=>exact absurd (show false=true from hs) km
 | str i=>
  obtain⟨t,rfl⟩:=b;cases y with
  | non=>cases a;exact PySem.EqNone.eq_str_none QaH
  | bl j=>cases a;exact PySem.EqMixed.eq_str_bool QaH
  | int j=>obtain⟨t',rfl⟩:=a;exact PySem.EqMixed.eq_str_int QaH
  | str j=>obtain⟨t',rfl⟩:=a;exact eq_str (cW I q Vf)
  | _=>exact absurd (show false=true from hs) km
 | Rg i=>
  obtain⟨t,rfl⟩:=b;cases y with
  | Rg j=>obtain⟨t',rfl⟩:=a;exact PySem.W.eq_bytes (cW I q Vg)
  | _=>exact absurd (show false=true from hs) km
 | _=>cases y<;>exact absurd (show false=true from hs) km
theorem SE:yS X (compareOp .NotEq) rNe:=by
 intro pins s Y H x y v u Q I b a h;obtain⟨hs,q⟩:=h;cases x with
 | non=>
  cases b;cases y with
  | non=>cases a;exact PySem.EqNone.ne_none_none QaH
  | bl j=>cases a;exact PySem.EqNone.ne_none_bool QaH
  | int j=>obtain⟨t',rfl⟩:=a;exact PySem.EqNone.ne_none_int QaH
  | str j=>obtain⟨t',rfl⟩:=a;exact PySem.EqNone.ne_none_str QaH
  | _=>exact absurd (show false=true from hs) km
 | bl i=>
  cases b;cases y with
  | non=>cases a;exact PySem.EqNone.ne_bool_none QaH
  | bl j=>cases a;exact ne_bool (cW I q (congrArg not aaA))
  | str j=>obtain⟨t',rfl⟩:=a;exact PySem.EqMixed.ne_bool_str QaH
  | _=>exact absurd (show false=true from hs) km
 | int i=>
  obtain⟨t,rfl⟩:=b;cases y with
  | non=>cases a;exact PySem.EqNone.ne_int_none QaH
  | int j=>obtain⟨t',rfl⟩:=a;exact ne_int (cW I q (congrArg not Ve))
  | str j=>obtain⟨t',rfl⟩:=a;exact PySem.EqMixed.ne_int_str QaH
  | _=>exact absurd (show false=true from hs) km
 | str i=>
  obtain⟨t,rfl⟩:=b;cases y with
  | non=>cases a;exact PySem.EqNone.ne_str_none QaH
  | bl j=>cases a;exact PySem.EqMixed.ne_str_bool QaH
  | int j=>obtain⟨t',rfl⟩:=a;exact PySem.EqMixed.ne_str_int QaH
  | str j=>obtain⟨t',rfl⟩:=a;exact ne_str (cW I q (congrArg not Vf))
  | _=>exact absurd (show false=true from hs) km
 | Rg i=>
  obtain⟨t,rfl⟩:=b;cases y with
  | Rg j=>obtain⟨t',rfl⟩:=a;exact PySem.W.ne_bytes (cW I q (congrArg not Vg))
  | _=>exact absurd (show false=true from hs) km
 | _=>cases y<;>exact absurd (show false=true from hs) km
def aoI:yS X (compareOp .Lt) (vu λi j=>.bl QnM):=Pd λ_ _ _ _ _ _ _ q=>lt_int q
def aoJ:yS X (compareOp .Gt) (vu λi j=>.bl QnN):=Pd λ_ _ _ _ _ _ _ q=>gt_int q
variable{op:CmpOp}
theorem xj(b:Expr)(h:op ≠ .In:=by decide)(a:op ≠ .NotIn:=by decide):behindInMarks op b=false:=by
 have e1:(op==CmpOp.In)=false:=by grind
 have e2:QuP=false:=by grind
 cases b<;>simp[behindInMarks,e1,e2]
noncomputable def yT{r:R2}(e:Qo4)(g:Qcn)(f:Qfv)(hm:Qia):PE X Qh1 QjE:=λpins s Y H Q I h=>wpAny_Compare1 Qpl hm
noncomputable def aoK(t:TE):TT:=λY H Q=>t Y H λx H'=>∃k,x=.bl k/\Q k H'
def vo{r:R2}(l:Qo4)(n:Qcn)(m:Qfv)(hm:Qia):PT X Qh1 (aoK QjE):=by
 intro pins s Y H Q I h;refine wpAny_isTrue_Compare1 (dF Qmq λv s1 ⟨x,H1,q,g,q1⟩=>dF (m pins s1 Y H1 _ q q1) λu s2 ⟨y,H2,p,f,j⟩=>
  dF (l pins s2 Y H2 x y v u _ p g f j) λc s3 ⟨z,t,o,d,k,e,i⟩=>?_) hm
 subst e;cases d;exact w1 ⟨t,o,i⟩
def OT(K:Frag)(x:V)(H:Hp)(k:Bool):Prop:=
 match x with
 | .non=>k=false
 | .bl b=>k=b
 | .int i=>k=(i != 0)
 | .str y => y.length <= sizeLine /\ k = ((y.length : Int) != 0)
 | .Rg y=>y.size<=sizeLine/\k=((y.size:Int) != 0)
 | .ref p=>(∃xs,lQ K H p xs/\k=!xs.isEmpty)\/(∃xs,qh K H p xs/\k=!xs.isEmpty)\/∃kvs,H p=some Qbt/\k=!kvs.isEmpty
 | _=>False
def Ro{κ:Type}{kvs:QbG}{vs:Qd8}(r:Qdk):(!vs.isEmpty)=!kvs.isEmpty:=by
 cases r<;>rfl
def DY{its:B2}(r:Vals xs its):(!its.toArray.isEmpty)=!xs.isEmpty:=by
 cases r<;>simp
def Aw:(sizeLine:Nat)<2 ^ 63:=by decide
theorem aky:ar6 X (λx H Q=>∃k,OT X.K x H k/\Q k H):=by
 intro pins s Y H x v Q I c h;obtain⟨k,e,q⟩:=h;have hl:=Aw;have hs:sizeLine=16777216:=kA;cases x with
 | non=>
  cases c;have a:k=false:=e;subst a;exact truthy_none ⟨H,I,q⟩
 | bl b=>
  cases c;have a:k=b:=e;subst a;exact w1 ⟨H,I,q⟩
 | int i=>
  obtain⟨t,rfl⟩:=c;have a:k=(i != 0):=e;subst a;exact PySem.P.truthy_int ⟨H,I,q⟩
 | str y=>
  obtain⟨t,rfl⟩:=c;obtain⟨f,a⟩:y.length<=sizeLine/\k=((y.length:Int) != 0):=e;subst a;exact PySem.P.truthy_str We ⟨H,I.tok _,q⟩
 | Rg y=>
  obtain⟨t,rfl⟩:=c;obtain⟨f,a⟩:y.size<=sizeLine/\k=((y.size:Int) != 0):=e;subst a;exact PySem.W.truthy_bytes We ⟨H,I.tok _,q⟩
 | ref p=>
  cases c;have a:(∃xs,lQ X.K H p xs/\k=!xs.isEmpty)\/(∃xs,qh X.K H p xs/\k=!xs.isEmpty)\/∃kvs,H p=some Qbt/\k=!kvs.isEmpty:=e;obtain⟨xs,d,a⟩|⟨xs,d,a⟩|⟨kvs,d,a⟩:=a
  .subst a;obtain⟨its,r,pl,hz⟩:=I.list d;have hlen:=r.length;exact wpAny_truthy_list pl.isList (by simp only[nq];lia) ⟨H,I.tok _,by rw[DY r];exact q⟩
  .subst a;obtain⟨its,r,pl,hz⟩:=I.tuple d;have hlen:=r.length;exact truthy_tuple pl (by simp only[nq];lia) ⟨H,I.tok _,by rw[DY r];exact q⟩
  .subst a;obtain⟨hz,g,vs,r,m⟩:kvs.length<=sizeLine/\(p==sysModules)=false/\∃vs,KV kvs vs/\s.heap.DictOf (ez X.prog X.w) p vs:=I.ck p _ d;have hlen:kvs.length=vs.length:=wd r;exact wpAny_truthy_dict g m We ⟨H,I.tok _,by rw[Ro r];exact q⟩
 | _=>exact(show False from e).elim
def aaB(c:Qcn)(he:∀whole,isTrue a X.env whole=(do let v ← whole;standAt a.pos;holding [v] Qg1)) :
  PT X a (λY H Q=>ta Y H λx H'=>∃k,OT X.K x H' k/\Q k H'):=λpins s Y H Q I h=>isTrue_plain (dF Qtx λv s1 ⟨x,H1,d,b,q1⟩=>aky pins s1 Y H1 x v Q d b q1) (he _)
def Rp:yS X QeM (λx y H Q=>∃i j,x=.str i/\y=.str j/\i.length+j.length<=sizeLine/\Q (.str (i++j)) H):=by
 intro pins s Y H x y v u Q I b a h;obtain⟨i,j,rfl,rfl,hz,q⟩:=h;obtain⟨t,rfl⟩:=b;obtain⟨t',rfl⟩:=a;exact add_str (λt' tk=>⟨.str _,H,I.tok _,⟨_,rfl⟩,q⟩) hz
theorem vals1{x:V}(r:Vals [x] us):∃u,us=[u]/\RelV x u:=by
 cases r with
 | cons b a=>cases a;exact⟨_,rfl,b⟩
theorem vals2{x y:V}(r:Vals [x,y] us):∃u a,us=[u,a]/\RelV x u/\RelV y a:=by
 cases r with
 | cons e d=>
  cases d with
  | cons c b=>cases b;exact⟨_,_,rfl,e,c⟩
def Xs(b:QaU):tE X Qum (λxs H Q=>∃i j,xs=[.int i,.int j]/\Q Qqf H):=by
 intro pins s Y H xs us Q I r h;obtain⟨i,j,rfl,q⟩:=h;obtain⟨u,c,rfl,⟨t,rfl⟩,⟨t',rfl⟩⟩:=vals2 r;refine min_two_ints (I.ok.hd b) λh' tk k=>⟨_,H,I.kept k,?_,q⟩;by_cases a:j<i
 .rw[ec a,ec a];exact⟨_,rfl⟩
 .rw[bS a,bS a];exact⟨_,rfl⟩
structure Rq(h:Heap)(x dx C:Addr)(mA:Bi):Prop where
 obj:h.get? x=some QnK
 ns:h.Ns1 dx mA
 ne:dx≠x
variable{dx:Addr}
theorem Xu{mA:Bi}(n:h.Ns1 dx mA):∃od,h.get? dx=some od/\∀name,lookIn name od=some (mA name):=by
 obtain⟨o,es,ep,d,hd,f,_,hm⟩:=n;refine⟨o,d,λname=>?_⟩;have e:=hm name;unfold nsFind findBy at e;rw[<- Array.find?_toList]at e;unfold lookIn;rw[hd];dsimp;split
 .simp_all
 .have a:es.toList.any (·.refKey)=false:=by
   rw[List.any_eq_false];intro y c;obtain⟨z,t,b⟩:=f y (Array.mem_toList_iff.1 c);simp[DictEntry.refKey,b]
  have g:¬ es.toList.any (·.refKey)=true:=by rw[a];simp_all
  rw[bS g];simp_all
variable{C:Addr}
theorem Rq.look{mA:Bi}(I:Rq h x dx C mA):∃od,PySem.W.InstAt h x QnK C (some od)/\∀name,lookIn name od=some (mA name):=
 let ⟨od,a,hl⟩:=Xu I.ns
 ⟨od,⟨I.obj,rfl,rfl,a⟩,hl⟩
variable{prog:Qah}{f:Addr}{mA:Bi}{name:Str}{v:Value}
def get_map{expr:Bool}{Q:BN}(X:QjZ)(I:QmS)(c:QuT)(b:hasDictIn K C=true)
  (d:findIn K Qan name=some none) (hv:mA name=some v) (a:handedIn v=true) (h:Q v {s with toks:=s.toks+1}) :
  wpAny Qad A (getAttr Qdd name expr) Q E s:=by
 obtain⟨od,J,hl⟩:=I.look;exact PySem.W.get_value X J (plainGet_of c).1 (PySem.W.findObj_own b d rfl (by rw[hl,hv])) a h
variable{pl:Qhk}
theorem aaC{Q:QrC}(X:QjZ)(I:QmS)(a:QuT)
  (hf:findIn K Qan name=some Qc2) (b:isFn K Qaj=true) (hv:mA name=none) (h:Q (.ref f,[.ref x]) s) :
  wpAny Qad A (getMethod Qdd name pl) Q E s:=by
 obtain⟨od,J,hl⟩:=I.look;exact PySem.W.method_fn X J (plainGet_of a).1 (plainGet_of a).2 hf (p3.1 b) (by show(lookIn name od).map _=some _;simp_all) h
theorem afn{ns:At}(X:QjZ)(I:QmS)
  (hs:findIn K Qan "__setattr__" = some Qqg) (j:plainOver K C=true) (i:takerIn K C name=some none) (k:hasDictIn K C=true)
  (hw:PySem.Within mA ns) (hsz:ns.length<=sizeLine)
  (h:∀h',Rq h' x dx C (λy=>if y=name then some v else mA y)->Heap.SameBut dx s.heap h'->Q () {s with heap:=h',toks:=s.toks+2}) :
  wpAny Qad A (setAttr Qdd name v) Q E s:=by
 obtain⟨od,J,hl⟩:=I.look;refine PySem.W.set_plain X J hs (PySem.W.osa_open X J j i λb=>?_);obtain⟨cd,l,o⟩:=any_some k;have g:=I.obj;refine cz (hL (cz (cz (wpAny_loadPart g (cz (PySem.W.Looks.here (PySem.W.looks_clsIn X l) ?_))))));rw[o];refine hL (cz (hL (cz ?_)));refine wpAny_nsSet1 I.ns λh' a f=>?_;obtain⟨p,m,n,c,d,e⟩:=a.count (PySem.Within.cons name v hw);refine cz (wpAny_lookBehind c (d▸pastItsLine_dict (jq e WA)) ?_);exact hL (h _ ⟨(f.2 _ (la I.ne)).trans I.obj,a,I.ne⟩ f)
abbrev _root_.D1:=List (Str×Value)
noncomputable def aaD{R:QsH}{vs:B2}{kw:D1}(X:QjZ)(hm:makesIn K C=true)
  (hi:findIn K Qan "__init__" = some Qc2) (hf:PySem.W.typeIn K Qaj=some (.type "function"))
  (h:codeAny Qad (A.under (.builtin "type.__call__" ⟨.ref C::vs,kw⟩)) (.call Qaj ⟨.ref Qbn::vs,kw⟩) (PySem.W.InitBack Qbn R)
   {s with heap:=(s.heap.push emptyDict).push Qry}) :
  codeAny Qad A (.call Qan ⟨vs,kw⟩) R s:=PySem.W.make_core (PySem.W.makes_of X hm) (PySem.W.looks_findIn X hi) (λself=>PySem.W.bind_fn X self hf) Qal h
noncomputable def oR(f:Str)(v:V):Bz->Bz
 | []=>[(f,v)]
 | (g,x)::r=>if g=f then(g,v)::r else(g,x)::oR f v r
theorem B8(f g:Str)(v:V):∀fs:Bz,(oR f v fs).lookup g=if g=f then some v else fs.lookup g
 | []=>by
  show List.lookup g [(f,v)]=_;by_cases h:g=f
  .have a:=p3.2 h;simp[List.lookup,a,ec h]
  .have a:=oy.2 h;simp[List.lookup,a,bS h]
 | (k,x)::r=>by
  have c:=B8 f g v r;rw[show oR f v _=(if k=f then(k,v)::r else(k,x)::oR f v r) from rfl];by_cases b:k=f
  .rw[ec b];by_cases h:g=k
   .have a:=p3.2 h;simp[List.lookup,a,ec (h.trans b)]
   .have a:=oy.2 h;simp[List.lookup,a,bS (λe:g=f=>h (e.trans b.symm))]
  .rw[bS b];by_cases h:g=k
   .simp_all
   .have a:=oy.2 h;simp[List.lookup,a];exact c
theorem Ax(f:Str)(v:V):∀fs:Bz,f∈(oR f v fs).map (·.1)/\∀g,g∈fs.map (·.1)->g∈(oR f v fs).map (·.1)
 | []=>⟨by simp[oR],λg h=>by simp at h⟩
 | (k,x)::r=>by
  obtain⟨i1,a⟩:=Ax f v r;rw[show oR f v _=(if k=f then(k,v)::r else(k,x)::oR f v r) from rfl];grind
theorem B9(f:Str)(v:V):∀fs:Bz,(oR f v fs).length<=fs.length+1
 | []=>by simp[oR]
 | (k,x)::r=>by
  have a:=B9 f v r;rw[show oR f v _=(if k=f then(k,v)::r else(k,x)::oR f v r) from rfl];grind
theorem sU.some_of{v:V}{o:FB}(r:sU QaL o):∃u,o=some u/\RelV v u:=by
 cases o with
 | none=>exact(r).elim
 | some u=>exact⟨u,rfl,r⟩
theorem sU.none_of{o:FB}(r:sU none o):o=none:=by
 cases o with
 | none=>rfl
 | some u=>exact(r).elim
theorem Xv{v:V}(r:QcL):handedIn u=true:=by
 cases v with
 | non=>cases (r);rfl
 | bl b=>cases (r);rfl
 | int i=>obtain⟨t,e⟩:=(r);cases e;rfl
 | str x=>obtain⟨t,e⟩:=(r);cases e;rfl
 | Rg b=>obtain⟨t,e⟩:=(r);cases e;rfl
 | flt b=>obtain⟨t,e⟩:=(r);cases e;rfl
 | ref a=>cases (r);rfl
 | ty n=>cases (r);rfl
variable{a:Addr}{fs:Bz}
def JN(ck:QbF)(e:Qjo):∃mA,Rq h a dx C mA/\(∀f,sU QnV (mA f))/\PySem.Within mA (fs.map (·.1))/\fs.length<=1000/\H dx=some Qha:=by
 obtain⟨d,z,ne,b,mA,n,r,q⟩:=(ck a _ e);exact⟨mA,⟨b,n,ne⟩,r,q,z,d⟩
structure yU(K:Frag)(C:Addr):Prop where
 pg:plainGet K C Str.empty=true
 hd:hasDictIn K C=true
 po:plainOver K C=true
 sa:findIn K Qan "__setattr__" = some Qqg
theorem yU.get(c:yU K C)(f:Str):plainGet K C f=true:=c.pg
def bu(K:Frag)(C:Addr)(f:Str):Prop:=findIn K Qan f=some none
theorem bu.aoM{f:Str}(n:bu K C f):takerIn K C f=some none:=by
 unfold takerIn;rw[n];rfl
structure Meth(K:Frag)(C:Addr)(m:Str)(f:Addr):Prop where
 at_:findIn K Qan m=some Qc2
 fn:isFn K Qaj=true
 kp:keepIn K Qaj=true
variable{f:Str}{v:V}
def DZ{b:Bool}{Q:BN}(I:QE)(e:Qjo)(c:yU X.K C)(n:bu X.K C f)(l:fs.lookup f=some v)
  (h:∀u s',Inv X pins Y H s'->RelV v u->Q u s'):wpAny Qr A (getAttr Qag f b) Q E s:=by
 obtain⟨mA,O,r,_,_,_⟩:=JN I.ck e;obtain⟨u,g,d⟩:=sU.some_of (l▸r f);exact get_map I.Au O (c.get f) c.hd n g (Xv d) (h u _ Qc9 d)
def D0{m:Str}{g:Addr}{Q:QrC}(I:QE)(e:Qjo)(c:yU X.K C)(k:Meth X.K C m g)(l:Qgz)
  (h:Q (.ref g,[.ref a]) s):wpAny Qr A (getMethod Qag m pl) Q E s:=by
 obtain⟨mA,O,r,_,_,_⟩:=JN I.ck e;have hn:=sU.none_of (l▸r m);exact aaC I.Au O (c.get m) k.at_ k.fn hn h
theorem D3{y:V}(I:QE)(e:Qjo)(c:yU X.K C)(n:bu X.K C f)(hl:fs.length<1000)(l:QbP)
  (h:∀s',Inv X pins Y (upd H a QsW) s'->Q () s'):wpAny Qr A (setAttr Qag f u) Q E s:=by
 obtain⟨mA,O,r,i,_,j⟩:=JN I.ck e;have hz:(fs.map (·.1)).length<=sizeLine:=by rw[cq,kA];lia
 refine afn I.Au O c.sa c.po n.aoM c.hd i hz λh' d k=>h _ ?_;have hd:∃o,h'.get? dx=some o:=let ⟨o,_,_,t,_⟩:=d.ns;⟨o,t⟩;refine I.write (e▸True.intro) (.inr j) (λb q p z=>(k.2 b p).trans z) hd ?_;refine⟨ aq O.ne▸j,?_,O.ne,d.obj,_,d.ns,λg=>?_,λg m=>?_⟩
 .have:=B9 f y fs;lia
 .rw[B8];by_cases q:g=f
  .rw[ec q,ec q];exact l
  simp_all
 .by_cases q:g=f
  .rw[q];exact(Ax f y fs).1
  .refine(Ax f y fs).2 g (i g λz=>m ?_);grind
theorem Inv.made(I:QE):Inv X pins Y (upd (upd H s.heap.objs.size (.own Qbn)) Qbn (.ins C s.heap.objs.size []))
  {s with heap:=(s.heap.push emptyDict).push Qry}:=by
 have e1:(s.heap.push _).get? _=some emptyDict:=jj _ rfl;have e2:=by
  have:=jj (s.heap.push emptyDict) (o:=instObj C s.heap.objs.size) rfl
  rwa [y1]at this
 have e3:(s.heap.push _).Ns _ _:=⟨ _,#[],_,e1,rfl,(λe he=>absurd he Wl),λ_=>rfl⟩;have c:=I.laid (o:=.own Qbn) (t':=s.toks) Qtc (hI _) ⟨_,e1⟩;refine c.laid Qtc (Nat.le_of_eq (y1 _ _)) ?_;have ne:s.heap.objs.size≠s.heap.objs.size+1:=i2 (u5 _);refine⟨by rw[aq ne,aA],hY _,ne,e2,_,(Heap.Ns1.of_empty e3).at λo q=>ia _ q,λ_=>True.intro,λy a=>absurd rfl a⟩
noncomputable def afo{env:Env}{e:Expr}{Q:BN}(b:attributeBase e f env (eval e env)=eval e env)
  (h:wpAny Qad A (eval e env) (λo a=>wpAny Qad A (getAttr o f true) Q E a) E s):wpAny Qad A (eval Qgg env) Q E s:=
 Attribute_any_ h (by rw[arm_eval_Attribute,b])
def ar8(K:Frag)(ta:TE)(f:Str):TE:=λY H Q=>ta Y H λx H1=>∃a C dx fs v,x=.ref a/\H1 a=some QeB/\yU K C/\bu K C f/\fs.lookup f=some v/\Q v H1
def ar9(K:Frag)(ta tv:TE)(f:Str):TS:=λD Y H=>tv Y H λy H1=>ta Y H1 λx H2=>∃a C dx fs,x=.ref a/\H2 a=some QeB/\yU K C/\bu K C f/\fs.length<1000 ∧
 D.nx Y (upd H2 a QsW)
def OR(X:Cx)(op:Qfw)(rd:Ql6):Prop:=
 ∀(pins:BC) (s:Qb) (Y:St) (H:Hp) (x y:V) (u v:Value) (Q:VK),Inv X pins Y H s->RelV x u->RelV y v->rd x y H Q->wpAny Qr X.A (inplaceOp op u v) Qbe X.xe s
def afp(K:Frag)(ta tv:TE)(rd:Ql6)(f:Str):TS:=λD Y H=>ta Y H λx H1=>∃a C dx fs v,x=.ref a/\H1 a=some QeB/\yU K C/\bu K C f/\fs.lookup f=some v ∧
 tv Y H1 λy H2=>rd v y H2 λz c=>∃b fs',c a=some (.ins C b fs')/\fs'.length<1000/\D.nx Y (upd c a (.ins C b (oR f z fs')))
variable{o e value:Expr}{pos' asa:Pos}{tv:TE}
def Rr(he:PE X e ta)(g:AS X e f):PE X Qgg (ar8 X.K ta f):=by
 intro pins s Y H Q I h;refine afo g (dF QbV λu s1 zz=>?_);obtain⟨x,H1,k,b,a,C,dx,fs,v,ex,i,c,n,l,q⟩:=zz;subst ex;obtain rfl:u=Value.ref a:=b;exact DZ k i c n l λm s2 j d=>⟨v,H1,j,d,q⟩
def akz(i:PE X o ta)(hv:Qjx)(hs:swapsWith value (some (.Attribute o f pos')) pos.line X.env=pure false):PS X (.Assign [.Attribute o f pos'] value pos) (ar9 X.K ta tv f):=by
 intro pins s Y H D I h;refine plainObj_wpAny_Assign_Attribute (dF Qmk λu s1 ⟨y,H1,p,b,q⟩=>dF (i pins s1 Y H1 _ p q) λg s2 zz=>?_) hs;obtain⟨x,H2,m,d,a,C,dx,fs,ex,j,c,n,l,e⟩:=zz;subst ex;obtain rfl:g=Value.ref a:=d;exact D3 m j c n l b λs3 k=>⟨Y,_,k,e⟩
def Xw{op:Qfw}{rd:Ql6}(w:PE X o ta)(hv:Qjx)(b:OR X op rd):PS X (.AugAssign (.Attribute o f asa) op value pos) (afp X.K ta tv rd f):=by
 intro pins s Y H D I h;refine wpAny_AugAssign_AttributeAny (dF (w pins s Y H _ I h) λr s1 zz=>?_);obtain⟨x,H1,L,j,a,C,dx,fs,v,ex,A,c,n,l,q⟩:=zz;subst ex;obtain rfl:r=Value.ref a:=j;refine DZ L A c n l λu s2 J k=>dF (hv pins s2 Y H1 _ J q) λe s3 ⟨y,H2,G,i,p⟩=>dF (b pins s3 Y H2 v y u e _ G k i p) λM s4 zz=>?_;obtain⟨z,N,F,g,B,fs',d,t,m⟩:=zz;exact D3 F d c n t g λs5 E=>⟨Y,_,E,m⟩
def asb:V->V->Hp->VK->Prop:=λx y H Q=>∃i j,x=.int i/\y=.int j/\Q (.int (i-j)) H
def akA:OR X .Sub asb:=by
 rintro pins s Y H x y u v Q I b a ⟨i,j,rfl,rfl,q⟩;obtain⟨t,rfl⟩:=(b);obtain⟨t',rfl⟩:=(a);exact PyProof.Rows.isub_int ⟨.int _,H,I.tok _,⟨_,rfl⟩,q⟩
def ai7{m:Str}{apos:Pos}{args:Cl}{Q:BN}(he:QbQ)(I:QE)
  (h:te Y H λx H1=>∃a C dx fs g,x=.ref a/\H1 a=some QeB/\yU X.K C/\Meth X.K C m g/\fs.lookup m=none ∧
   ∀s1,Inv X pins Y H1 s1->wpAny Qr X.A (callWith pos (.ref g) [.ref a] (backTo pos Qtd) Qdz) Q X.xe s1)
  (i:eval Qqh X.env=(do
   let ov ← eval e X.env
   standAt apos.atName
   let (f,first) ← holding [ov] QtV
   callWith pos f first (backTo pos Qtd) Qdz)) :
  wpAny Qr X.A (eval Qqh X.env) Q X.xe s:=by
 refine methodCall_KW (dF QbV λu s1 zz=>?_) i;obtain⟨x,H1,b,d,a,C,dx,fs,g,ex,j,c,k,l,q⟩:=zz;subst ex;obtain rfl:u=Value.ref a:=d;exact D0 b j c k l (q s1 b)
structure eL(k:Nat)(A:Qaq):Prop where
 hd:A.handled=none
 dp:A.depth+3*k+5<recursionLimit
 un:A.units+16*k+200<cLine
theorem eL.mono{j:Nat}(r:eL k A)(h:j<=k):eL j A:=⟨r.hd,by have:=r.dp;lia,by have:=r.un;lia⟩
theorem eL.deeper(r:eL Qao A)(env:Env):eL k (A.deeper env):=
 ⟨r.hd,by have:=r.dp;show A.depth+1+3*k+5<_;lia,by have:=r.un;show A.units+3+16*k+200<_;lia⟩
def Rt{kw:D1}:(A.under QkJ).depth=A.depth+1:=rfl
def Ru{kw:D1}:(A.under QkJ).units=A.units+1:=rfl
theorem eL.make(r:eL Qao A)(C:Addr)(us:B2)(kw:D1):eL k QuU:=
 ⟨r.hd,by have:=r.dp;rw[Rt];lia,by have:=r.un;rw[Ru];lia⟩
theorem eL.depth(r:eL k A):A.depth<recursionLimit:=by have:=r.dp;lia
theorem eL.units(r:eL k A):A.units+64<cLine:=by have:=r.un;lia
noncomputable def yn:TA:=λ_ H Q=>Q [] H
noncomputable def Vh(ta:TE)(tr:TA):TA:=λY H Q=>ta Y H λx H1=>tr Y H1 λxs H2=>Q (x::xs) H2
variable{t:TA}
noncomputable def dZ:PA X [] yn:=λ_ _ _ _ H Q I h=>Calls.spliced_nil ⟨[],H,I,.nil,h⟩
def b8(f:QbQ)(d:PA X es t)(hs:Qaw:=by rfl):PA X Qav (Vh te t):=by
 intro pos pins s Y H Q I h;rw[hs];show wpAny _ _ (spliced ((false,eval e _)::backTo pos _)) _ _ s;refine Calls.spliced_cons (dF Qis λu s1 zz=>?_);obtain⟨x,H1,i,b,q1⟩:=zz;exact dF QrD λus s2 ⟨xs,H2,g,a,c⟩=>⟨ _,H2,g,.cons b a,c⟩
def asd(t:TA):TE:=λY H Q=>t Y H λxs H1=>xs.length<=sizeLine/\∀p,H1 p=none->Q Qbl (upd H1 p Qbf)
def ase(t:TA):TE:=λY H Q=>t Y H λxs H1=>xs.length<=sizeLine/\∀p,H1 p=none->Q Qbl (upd H1 p Qbs)
def aaF{x1}(h:PA X es t):PE X (.Tuple es x1 pos) (asd t):=by
 intro pins s Y H Q I c;refine wpAny_Tuple_spliced (dF Qso λus s1 ⟨xs,H1,a,r,z,q⟩=>⟨ r.length▸z,?_⟩);have hf:=a.ck.fresh (hI _);refine⟨.ref _,_,a.laid Qmr (hI _) ?_,rfl,q _ hf⟩;exact⟨z,us,r,⟨_,jj _ rfl,rfl,_,rfl⟩⟩
def akB(h:PA X es t):PE X Qjg (ase t):=by
 intro pins s Y H Q I c;refine wpAny_List_spliced (dF Qso λus s1 ⟨xs,H1,a,r,z,q⟩=>⟨ r.length▸z,?_⟩);have hf:=a.ck.fresh (hI _);refine⟨.ref _,_,a.laid Qmr (hI _) ?_,rfl,q _ hf⟩;exact⟨z,us,0,r,jj _ rfl⟩
abbrev Sp:=B1->Hp->VK->XK->Prop
abbrev r4:=D2->Hp->Shared->XK->Value->Shared->Prop
structure Rw(P:Qah)(w:World)(K:Frag)(mg:Bi)(base:Heap)(A:Qaq)(outer:D2)(s:Qb)(H:Hp):Prop where
 frames:A.frames=some outer
 mod:Mod K mg base
 bs:∀b o,base.get? b=some o->s.heap.get? b=some o/\H b=none
 mu:base.objs.size<=s.heap.objs.size
 xh:s.heap.FunFrames base outer
 og:∀b∈sV outer,H b=none
 ck:sY P w H s.heap
 bare:AllBare s.gens
def CE(outer:D2)(P:Qah)(w:World)(H:Hp)(s:Qb)(Q:VK)(u:Value)(s':Qb):Prop:=
 ∃v H',s'.os=s.os/\AllBare s'.gens/\Un (sV outer) [] H H' s.heap s'.heap/\sY P w H' s'.heap/\RelV v u/\Q v H'
def CR(CX:r4)(outer:D2)(P:Qah)(w:World)(H:Hp)(s:Qb)(Q:VK)(E:XK)(r:Result)(s':Qb):Prop:=
 match r with
 | .ok (.ret u)=>CE outer P w H s Q u s'
 | .ok _=>False
 | .error e=>CX outer H s E e s'
structure dB(P:Qah)(w:World)(K:Frag)(mg:Bi)(base:Heap)(CX:r4)(k:Nat)(f:Addr)(fd:QaN)(ps:At)(sp:Sp):Prop where
 len:∀vs H Q E,sp vs H Q E->vs.length=ps.length
 run:∀(A:Qaq) (outer:D2) (s:Qb) (H:Hp) (args:Args) (us:B2) (vs:B1) (Q:VK) (E:XK),eL k A->Rw P w K mg base A outer s H->BindsTo s fd args QcD->Vals vs us->sp vs H Q E →
  codeAny Qch A (.call Qaj args) (CR CX outer P w H s Q E) s
variable{mg:Bi}{base:Heap}{CX:r4}{fd:QaN}{ps:At}{sp:Sp}
theorem dB.mono{j:Nat}{f:Addr}(F:dB P w K mg base CX j f fd ps sp)(h:j<=k) :
  dB P w K mg base CX k f fd ps sp:=⟨F.len,λA outer s H args us vs Q E a=>F.run A _ s H args us vs Q E (a.mono h)⟩
theorem dB.imp{f:Addr}{a:Sp}(F:dB P w K mg base CX k f fd ps sp)
  (h:∀vs H Q E,a vs H Q E->sp vs H Q E):dB P w K mg base CX k f fd ps a:=
 ⟨λvs H Q E q=>F.len vs H Q E (h _ _ _ _ q),λA outer s H args us vs Q E b he c hv hs=>F.run A _ s H args us vs Q E b he c hv (h _ _ _ _ hs)⟩
theorem Rw.make{outer:D2}(e:QrP)(C:Addr)(us:B2)(kw:D1) :
  Rw P w K mg base QuU outer s H:=⟨by first|exact e.frames|(simpa using e.frames),e.mod,e.bs,e.mu,e.xh,e.og,e.ck,e.bare⟩
variable{s':Qb}
theorem Inv.Lo(I:QE):Rw X.prog X.w X.K X.mg X.base X.A X.stack s H:=
 ⟨I.ok.frames,I.ok.mod,I.bs,jq I.ok.mu I.sz,I.stack,I.Dj,I.ck,I.bare⟩
theorem Inv.after{Q:VK}(I:QE)(h:CE X.stack X.prog X.w H s Q u s'):EP X pins Y Q u s':=by
 obtain⟨v,H',os,bare,un,ck,r,q⟩:=h;obtain⟨c,g,d,t,a⟩:=s';obtain rfl:a=s.os:=os;exact⟨v,H',I.call un ck bare (λb z=>absurd z Wl),r,q⟩
noncomputable def SA(sp:Sp)(JQ:B1)(E:XK)(t:TA):TE:=λY H Q=>t Y H λvs H1=>sp Qfo H1 Q E
def aoO(C:Addr)(m:Str)(sp:Sp)(JQ:B1)(E:XK)(ta:TE)(t:TA):TE:=λY H Q=>ta Y H λx H1=>∃a dx fs,x=.ref a/\H1 a=some QeB/\fs.lookup m=none ∧
 t Y H1 λvs H2=>sp (x::Qfo) H2 Q E
def aoP(C:Addr)(sp:Sp)(JQ:B1)(E:XK)(t:TA):TE:=λY H Q=>t Y H λvs H1=>∀x dx,H1 x=none->H1 dx=none->dx≠x →
 sp (.ref x::Qfo) (upd (upd H1 dx QgZ) x (.ins C dx [])) Qq5 E
def Binds(K:Frag)(fd:QaN)(ps:At)(ds:B2):Prop:=
 ∀(s:Qb) (us:B2),K.In s.heap->(us++ds).length=ps.length->BindsTo s fd ⟨us,[]⟩ (ps.zip (us++ds))
theorem Binds.all(h:∀us:B2,us.length=ps.length->bindArgs fd ⟨us,[]⟩=pure QcD):Binds K fd ps []:=λs us _ hl=>by
 rw[hX]at hl ⊢;exact .of_eq (h us hl)
def Passes(CX:r4)(X:Cx)(E:XK):Prop:=∀(pins:BC) (Y:St) (H:Hp) (s:Qb) (e:Value) (s':Qb),Inv X pins Y H s->CX X.stack H s E e s'->X.xe e s'
section
variable{f:Addr}{JQ:B1}{ds:B2}{E:XK}{x m:Str}{p apos:Pos}
def Rx{Q:VK}{vs:B1}(F:Qej)(d:Qd9)(g:Qfx)(hd:Qfy)(c:Qfz)
  (I:QE) (r:Vals vs us) (h:sp Qfo H Q E):wpAny Qr X.A (call Qaj us) Qbe X.xe s:=by
 have b:=r.append hd;have hl:=b.length▸F.len _ _ _ _ h;refine wpAny_call (codeAny_mono (F.run X.A _ s H _ _ _ Q E d I.Lo (g s us I.Au hl) b h) λr s' a=>?_);cases r with
 | error e=>exact c pins Y H s e s' I a
 | ok fl=>
  cases fl with
  | ret u=>exact I.after a
  | next=>exact False.elim a
  | brk=>exact False.elim a
  | cont=>exact False.elim a
def JR(F:Qej)(d:Qd9)(i:Qaz)(hm:Qi8)(g:QiA)(j:Qfx)(hd:Qfy)(c:Qfz)
  (l:QfA) (b:AD x:=by decide) (he:Qaw:=by rfl) (hpl:QaK:=by rfl) :
  PE X QhJ (SA sp JQ E t):=by
 intro pins s Y H Q I h;refine pf (qJ I i hm ?_ b);refine G1 I.ok.mod.o6 g (dF (l pos pins s Y H _ I h) λus s1 ⟨vs,H1,a,r,q⟩=>⟨a.Au,?_⟩) he hpl;exact Rx F d j hd c a r q
def aaG(F:Qej)(c:Qd9)(e:Qaz)(hm:Qi8)(d:QiA)(g:Qfx)(hd:Qfy)(b:Qfz)
  (a:AD x:=by decide):PE X (.Call (.Name x p) [] [] pos) (SA sp JQ E yn):=by
 intro pins s Y H Q I h;refine pf (qJ I e hm ?_ a);exact PySem.W.callWith_K0 I.Au d (Rx F c g hd b I .nil h)
def JS(he:PE X o ta)(c:yU X.K C)(hm:Meth X.K C m f)(F:Qej)(v:Qd9)(y:Qfx)(hd:Qfy)(n:Qfz)(z:QfA)
  (j:Qaw:=by rfl) (hpl:QaK:=by rfl)
  (p:eval Qhz X.env=(do
   let ov ← eval o X.env
   standAt apos.atName
   let (f,first) ← holding [ov] QtV
   callWith pos f first (backTo pos Qex) Qdz):=by rfl) :
  PE X Qhz (aoO C m sp JQ E ta t):=by
 intro pins s Y H Q I h;refine methodCall_KW (dF QbV λu s1 zz=>?_) p;obtain⟨x,H1,d,g,a,dx,fs,ex,B,l,q⟩:=zz;subst ex;obtain rfl:u=Value.ref a:=g;refine D0 d B c hm l ?_;refine G1 I.ok.mod.o6 hm.kp (dF (z pos pins s1 Y H1 _ d q) λus s2 ⟨vs,H2,b,r,i⟩=>⟨b.Au,?_⟩) j hpl;exact Rx (vs:=.ref a::vs) F v y hd n b (.cons rfl r) i
structure Mk(K:Frag)(C f:Addr):Prop where
 makes:makesIn K C=true
 init:findIn K Qan "__init__" = some Qc2
 fn:isFn K Qaj=true
 kp:keepIn K Qan=true
def aaH{Q:VK}{vs:B1}(M:Mk X.K C f)(F:Qej)(l:QgN)(m:Qfx)(hd:Qfy)
  (j:Qfz) (I:QE) (r:Vals vs us)
  (h:∀x dx,H x=none->H dx=none->dx≠x->sp (.ref x::Qfo) (upd (upd H dx QgZ) x (.ins C dx [])) Qq5 E) :
  wpAny Qr X.A (call Qan us) Qbe X.xe s:=by
 have d:=h _ _ Qmz Qcw (i2 (u5 _));have b:=Inv.made (C:=C) I;have c:Vals (V.ref Qbn::Qfo) _:=.cons rfl (r.append hd);have hl:=by
  have e:=c.length;rw[F.len _ _ _ _ d]at e;exact e.symm
 refine wpAny_call (aaD I.Au M.makes M.init (p3.1 M.fn) (codeAny_mono (F.run _ _ _ _ _ _ _ _ E (l.make C us [])
  (b.Lo.make C us []) (m _ _ b.Au hl) c d) λr s' a=>?_))
 cases r with
 | error e=>exact j pins Y _ _ e s' b a
 | ok fl=>
  cases fl with
  | ret u=>
   obtain⟨v,H',n,g,ev,i⟩:=b.after a;subst ev;exact⟨g,⟨V.ref _,H',n,rfl,i⟩⟩
  | next=>exact False.elim a
  | brk=>exact False.elim a
  | cont=>exact False.elim a
def JT(M:Mk X.K C f)(F:Qej)(d:QgN)(g:Qaz)(hm:X.mg x=some Qan)(i:Qfx)(hd:Qfy)(c:Qfz)
  (j:QfA) (b:AD x:=by decide) (he:Qaw:=by rfl) (hpl:QaK:=by rfl) :
  PE X QhJ (aoP C sp JQ E t):=by
 intro pins s Y H Q I h;refine pf (qJ I g hm ?_ b);refine G1 I.ok.mod.o6 M.kp (dF (j pos pins s Y H _ I h) λus s1 ⟨vs,H1,a,r,q⟩=>⟨a.Au,?_⟩) he hpl;exact aaH M F d i hd c a r q
end
def PK(X:Cx)(kws:List Keyword)(t:TA):Prop:=
 ∀(pos:Pos) (pins:BC) (s:Qb) (Y:St) (H:Hp) (Q:EO),Inv X pins Y H s->t Y H Q->wpAny Qr X.A (evalAll ((backToKw pos (keywordEach kws X.env)).map (·.2))) Qnw X.xe s
variable{x:Str}{asf:Pos}{kws:List Keyword}{nm:Option Str}
noncomputable def aaI:PK X [] yn:=λ_ _ _ _ H Q I h=>wpAny_evalAll_nil ⟨[],H,I,.nil,h⟩
def Vi(f:QbQ)(d:PK X kws t):PK X (⟨nm,e,asf⟩::kws) (Vh te t):=by
 intro pos pins s Y H Q I h;refine wpAny_evalAll_cons (cz (dF Qis λu s1 ⟨x,H1,i,b,q1⟩=>cz (yY (hL ?_))));exact dF QrD λus s2 ⟨xs,H2,g,a,c⟩=>⟨ _,H2,g,.cons b a,c⟩
structure cO(N P:At)(sc:Scope):Prop where
 kind:sc.kind=.function
 co:sc.isCoroutine=false
 gen:sc.isGenerator=false
 nd:N.Nodup
 pre:N.take P.length=P
 par:∀x∈P,sc.names.lookup x=some .local\/sc.names.lookup x=some .cell
 akD:∀y∈sc.names,y.2 ≠ .free
theorem Iv{kindOf:Qil}{x:Str}:∀{binds:D1} {m:Bi},(∀v,(x,v)∉binds)->bindL kindOf binds m x=m x
 | [],_,_=>rfl
 | (n,v)::r,m,h=>by
  unfold bindL;rw[Iv λw hw=>h w (hJ _ hw)];split
  .have:x≠n:=by rintro rfl;exact h v gF
   simp[this]
  .rfl
theorem Iw{kindOf:Qil}{x:Str}:∀{binds:D1} {m:Bi},(∀v,(x,v)∉binds)->bindC kindOf binds m x=m x
 | [],_,_=>rfl
 | (n,v)::r,m,h=>by
  unfold bindC;rw[Iw λw hw=>h w (hJ _ hw)];split
  .rfl
  .have:x≠n:=by rintro rfl;exact h v gF
   simp[this]
theorem Iz{kindOf:Qil}{x:Str}{v:Value}:∀{P:At} {vs:B2} {i:Nat} {m:Bi},P.Nodup->P[i]? = some x->vs[i]? = some v->kindOf x=some .local →
  bindL kindOf (P.zip vs) m x=some v
 | [],_,_,_,_,h,_,_=>by simp at h
 | _::_,[],_,_,_,_,h,_=>by simp at h
 | p::P,w::vs,0,m,nd,h1,b,a=>by
  simp at h1 b;subst h1;subst b;show bindL _ ((p,w)::P.zip vs) m p=_;unfold bindL;rw[Iv λv hv=>(kn.1 nd).1 (List.of_mem_zip hv).1,ec a];simp
 | p::P,w::vs,i+1,m,nd,h1,b,a=>by
  unfold bindL;exact Iz (kn.1 nd).2 (‹_›) (‹_›) a
theorem IA{kindOf:Qil}{x:Str}{v:Value}:∀{P:At} {vs:B2} {i:Nat} {m:Bi},P.Nodup->P[i]? = some x->vs[i]? = some v->kindOf x≠some .local →
  bindC kindOf (P.zip vs) m x=some v
 | [],_,_,_,_,h,_,_=>by simp at h
 | _::_,[],_,_,_,_,h,_=>by simp at h
 | p::P,w::vs,0,m,nd,h1,b,a=>by
  simp at h1 b;subst h1;subst b;show bindC _ ((p,w)::P.zip vs) m p=_;unfold bindC;rw[Iw λv hv=>(kn.1 nd).1 (List.of_mem_zip hv).1,bS a];simp
 | p::P,w::vs,i+1,m,nd,h1,b,a=>by
  unfold bindC;exact IA (kn.1 nd).2 (‹_›) (‹_›) a
noncomputable def start(N:At)(vs:B1):St:=vs.map some++List.replicate (N.length-vs.length) none
noncomputable def tF(CX:r4)(P:Qah)(w:World)(K:Frag)(mg:Bi)(base:Heap)(N:At)(qual:Str)(scope:Scope)(f:Addr)(cd:Value)(A:Qaq)(outer:D2)(s:Qb)(H:Hp)(E:XK):Cx where
 prog:=P
 w:=w
 K:=K
 mg:=mg
 base:=base
 A:=A.deeper QkZ
 N:=N
 hO:=s
 ip:=H
 env:=envOfC qual scope s.heap.objs.size f cd
 outer:=outer
 stack:=envOfC qual scope s.heap.objs.size f cd::outer
 ex:=[]
 calm:=true
 fn:=λ_=>true
 pn:=[]
 xe:=λe s'=>wpAny Qch (A.deeper QkZ) (leaving QkZ e) (λ_ a=>CX outer H s E e a) (λb a=>CX outer H s E b a) s'
def NK{sc:Scope}{n:Nat}(h:sc.names.lookup x=some .cell):∃c,(cellsFrom n sc.names []).lookup x=some c:=by
 have q:=cellsFrom_some _ n [] Qfg;exact Option.isSome_iff_exists.1 q
theorem Xx{N:At}{qual:Str}{scope:Scope}{f:Addr}{cd:Value}{outer:D2}{s1:Qb}{E:XK}{vs:B1}
  (S:cO N ps scope) (hd:Qdl) (e0:QrP) (hl:vs.length=ps.length) (r:Vals vs us)
  (x:InCallC s s.heap.objs.size (bindL (envOfC qual scope s.heap.objs.size f cd).kindOf QcD λ_=>none) (cellsFrom Qbn scope.names []) (bindC (envOfC qual scope s.heap.objs.size f cd).kindOf QcD λ_=>none) s1) :
  Inv (tF CX P w K mg base N qual scope f cd A outer s H E) [] Qok H s1:=by
 have hpl:ps.length<=N.length:=by have:=congrArg List.length S.pre;rw[l9]at this;lia
 obtain⟨h1,tk,rfl,o⟩:=x.done;have d:∀b:Addr,b∉(tF CX P w K mg base N qual scope f cd A outer s H E).ex:=λb z=>absurd (show b∈([]:BY) from z) Wl;refine⟨⟨e0.mod,S.kind,rfl,rfl,hI _,λy z c h1 a=>?_,λy j=>?_,λy c _ h=>?_,λ_=>hd,Around.frames_deeper e0.frames,.inr ⟨rfl,rfl⟩,λb z=>absurd z (d b),e0.bs,e0.mu,λb _ _=>d b,λb z=>absurd z (d b),e0.xh,e0.og⟩,
  rfl,e0.bare,Un.kept o,⟨_,x.toInCall.ns,λi y v h1 a C=>?_⟩,λy c h=>⟨_,x.cell y c h⟩,e0.ck.fresh (hI _),λy c h=>?_,λp l=>absurd (show p∈([]:BC) from l) Wl,e0.ck.kept o,?_⟩
 .exact name_of_addr x.apart (ph h1) (ph a)
 .obtain j|j:=j
  .exact NK j
  .exact absurd rfl (S.akD _ (ph j))
 .exact ke QtC
 .have hi:i<vs.length:=by
   unfold start at a;by_cases hi:i<vs.length
   .exact hi
   .rw[List.getElem?_append_right (by simpa using hi)]at a;rw[M1]at a;split at a<;>cases a
  have B:vs[i]? = some v:=by
   unfold start at a;rw[List.getElem?_append_left (by simpa using hi),List.getElem?_map]at a;simp_all
  obtain⟨u,m,t⟩:=r.get B;have l:ps[i]? = some y:=by
   rw[<- S.pre,List.getElem?_take_of_lt We];exact h1
  have g:ps.Nodup:=by rw[<- S.pre];exact S.nd.sublist (List.take_sublist _ _)
  refine⟨u,t,?_⟩;obtain k|k:=S.par y (i0 l)
  .exact .inl ⟨k,Iz g l m k⟩
  .obtain⟨c,e⟩:=NK (n:=s.heap.objs.size+1) k;refine .inr ⟨.inl k,c,e,?_⟩;have q:=x.cell y c e;rw[IA g l m (by show scope.names.lookup y≠_;rw[k];decide)]at q;exact q
 .exact e0.ck.fresh (ke QtC)
 .unfold start;show _=N.length;grind
abbrev _root_.Da:=Array FB
theorem Vj{f:Addr}{qual:Str}{params:Qkc}{body:CA}{scope:Scope}{dV kV doc pm d7 ct oc:Value}{an od:Do}
  {IB:Da} {N:At} (lk:K.lookup f=some ⟨oc,od,.func Qpw,IB⟩) (iO:QmP) (S:cO N ps scope)
  (len:∀vs H Q E,sp vs H Q E->vs.length=ps.length)
  (m:∀(A:Qaq) (outer:D2) (s:Qb) (H:Hp) (vs:B1) (Q:VK) (E:XK),eL k (A.deeper (envOfC qual scope s.heap.objs.size f d7))->sp vs H Q E →
   ∃t,Ri (tF CX P w K mg base N qual scope f d7 A outer s H E) body t/\t {nx:=λ_ H'=>Q .non H',rt:=Q} (start N vs) H) :
  dB P w K mg base CX Qao f Qpw ps sp:=by
 refine⟨len,λA outer s H args us vs Q E c e0 l r g=>?_⟩;have hl:=len _ _ _ _ g;have d:=e0.mod.o6.keeps λb o e=>(e0.bs b o e).1;have lim:=e0.mod.nolimit.keeps λb o e=>(e0.bs b o e).1;have p:∀y∈ps.zip us,scope.names.lookup y.1=some _\/(scope.names.lookup y.1=some _/\((cellsFrom Qbn _ []).lookup y.1).isSome=true):=λ⟨n,v⟩ h=>by
  obtain q|q:=S.par n (List.of_mem_zip h).1
  .exact .inl q
  .exact .inr ⟨q,cellsFrom_some _ _ _ (.inl q)⟩
 refine codeAny_call_function c.depth (d _ _ lk) rfl S.co S.gen rfl (PySem.W.codeRec_of d iO) (l _ _ _ _ ?_);refine wpAny_newFunctionEnv_cells S.kind p λenv he s1 x=>?_;subst he;refine⟨lim.keeps x.toInCall.keep,codeAny_func ?_⟩;obtain⟨t,i,j⟩:=m A _ s H vs Q E (c.deeper _) g;have I:Inv (tF CX P w K mg base N qual _ f d7 A _ s H E) [] _ H s1:=Xx S c.hd e0 hl r x;refine i8 (i [] s1 _ H _ I j) (λfl s' hs=>?_) λe s' hs=>hs;have fin:∀{Y':St} {H':Hp} {v:V} {u:Value},Inv (tF CX P w K mg base N qual scope f d7 A _ s H E) [] Y' H' s'->RelV v u->Q v H'->CE outer P w H s Q u s':=
  λ{Y' H' v u} J a q=>⟨v,H',J.os,J.bare,J.base,J.ck,a,q⟩
 cases fl with
 | ret u=>
  obtain⟨v,Y',H',J,a,q⟩:=hs;exact fin J a q
 | next=>
  obtain⟨Y',H',J,q⟩:=hs;exact fin (v:=V.non) J rfl q
 | brk=>
  obtain⟨_,_,_,q⟩:=hs;simp_all
 | cont=>
  obtain⟨_,_,_,q⟩:=hs;exact False.elim q
section
variable{p:Pos}{id T:Qbg}{r:Qmy}
noncomputable def NI(r:Qmy)(t:TA):TE:=λY H Q=>t Y H λvs H1=>r vs H1 Q
def qi(d:tE X QeH r)(c:Qaz)(hm:Qj9)(hv:bootBuiltins x=some QeH)(f:QfA)(hn:QiY:=by decide)(a:AD x:=by decide)
  (he:Qaw:=by rfl) (hpl:QaK:=by rfl):PE X QhJ (NI r t):=by
 intro pins s Y H Q I h;refine pf (mX I c hm hv ?_ hn a);exact PyProof.Rows.callWith_builtin1 (dF Qsp λus s1 ⟨vs,H1,g,b,q1⟩=>d pins s1 Y H1 vs us Q g b q1) he hpl
def mP(d:tE X Qkd r)(c:Qaz)(hm:Qj9)(hv:bootBuiltins x=some Qkd)(f:QfA)(hn:QiY:=by decide)(a:AD x:=by decide)
  (he:Qaw:=by rfl) (hpl:QaK:=by rfl):PE X QhJ (NI r t):=by
 intro pins s Y H Q I h;refine pf (mX I c hm hv ?_ hn a);exact tJ (dF Qsp λus s1 ⟨vs,H1,g,b,q1⟩=>d pins s1 Y H1 vs us Q g b q1) he hpl
end
end L2
namespace HT
open PySem PyProof.Rows
variable{prog:Qah}{w:World}{A:Qaq}{E:BN}{s:Qb}
theorem afq{t b:Addr}{vs ws:B2}{Q:BN}(g:IsTup s.heap t vs.toArray)(i:IsTup s.heap b ws.toArray)(hv:vs≠[])
  (h1:ws=[]->Q Qkw s) (j:ws≠[]->Q QbT {s with heap:=s.heap.push {cls:=.type "tuple",data:=.seq (vs++ws).toArray}})
  (hsz:vs.length+ws.length<=sizeLine):wpAny Qad A (binaryOp .Add Qkw Qfh) Q E s:=by
 obtain⟨⟨cls,dd,data,sl⟩,d,h,n,hd⟩:=id g;obtain⟨⟨k,c,data2,a⟩,f,l,n2,hd2⟩:=id i;subst h hd l hd2;have e:vs.toArray++ws.toArray=(vs++ws).toArray:=by simp
 by_cases hw:ws=[]
 .exact concat_meets ⟨_,d,rfl⟩ ⟨_,f,rfl⟩ noFill_tuple_add seq_tuple_add PySem.F.slot_tuple_add PySem.F.entry_tuple_add Qrg
   (tuple_addW1 t b _ _ n n2 dd c sl a Wp (by simp[hw])) ⟨d,f,h1 hw⟩
 .refine concat_meets ⟨_,d,rfl⟩ ⟨_,f,rfl⟩ noFill_tuple_add seq_tuple_add PySem.F.slot_tuple_add PySem.F.entry_tuple_add Qrg
   (tuple_addW2 t b _ _ n n2 dd c sl a Wp Wp (‹_›)) ⟨d,f,?_⟩
  rw[e];exact j hw
abbrev _root_.Cc:=Option Int
noncomputable def jR(n d:Nat):Cc->Nat
 | none=>d
 | some v=>if v<0 then(v+(n:Int)).toNat else min v.toNat n
def afr(n d k:Nat):jR n d (some (k:Int))=min k n:=rfl
theorem Vk(v:Int)(n d:Nat):(if v<0 then max (v+(n:Int)) 0 else min v (n:Int))=((jR n d QaL:Nat):Int):=by
 show(if v<0 then max _ 0 else min v _)=(((if v<0 then(v+n).toNat else min _ n)));grind
def Ry(lo hi:Cc)(n:Nat):Builtin.Slice.sliceAdjust lo hi 1 (n:Int)=(((jR n 0 lo:Nat):Int),((jR n n hi:Nat):Int)):=by
 refine Prod.ext ?_ ?_
 .cases lo with
  | none=>rfl
  | some v=>exact Vk v n 0
 .cases hi with
  | none=>rfl
  | some v=>exact Vk v n n
theorem Rz(i j:Nat):Builtin.Slice.slicePlaces (i:Int) (j:Int) 1=j-i:=by
 unfold Builtin.Slice.slicePlaces;grind
theorem D6{v:Value}{o:Cc}{Q:Cc->Shared->Prop}(p:IsPart v o)(h:Q o s):wpAny Qad A (Builtin.Slice.slicePartIndex v) Q E s:=by
 cases p with
 | none=>exact slicePart_none h
 | int i t=>exact slicePart_int h
def Ay{sl:Addr}{c b:Value}{lo hi:Cc}{n:Nat}{Q:Int×Int×Nat->Shared->Prop}(hs:s.heap.IsSliceOf sl c b .none)(pl:IsPart c lo)(pu:IsPart b hi)
  (h:Q (((jR n 0 lo:Nat):Int),1,jR n n hi-jR n 0 lo) s):wpAny Qad A (Builtin.Slice.sliceApplied Qke (pure (n:Int))) Q E s:=by
 obtain⟨os,d,e,a⟩:=id hs;refine wpAny_bind (wpAny_bind (wpAny_field d a (x:=c) rfl (wpAny_bind (wpAny_field d a (x:=b) rfl (wpAny_bind (wpAny_field d a rfl (wpAny_pure ?_)))))));refine wpAny_bind (slicePart_none ?_);refine wpAny_bind (D6 pl (wpAny_bind (D6 pu (wpAny_bind (wpAny_pure ?_)))));show wpAny _ _ (match Builtin.Slice.sliceAdjust lo hi 1 _ with|(lo,hi)=>pure (lo,(1:Int),Builtin.Slice.slicePlaces lo hi 1)) _ _ s;rw[Ry lo hi n];show wpAny _ _ (pure _) _ _ s;rw[Rz];exact wpAny_pure h
theorem aaK(xs:Ch)(i k:Nat):((List.range k).filterMap λ(m:Nat)=>xs[((i:Int)+(m:Int)*1).toNat]?).toArray=((xs.toList.drop i).take k).toArray:=by
 have e:(λ(m:Nat)=>xs[(i+(m:Int)*1).toNat]?)=λm=>xs[i+m]?:=by
  funext m;grind
 rw[e];have:=pick_run xs i k;rw[List.filterMap_map]at this;have e2:((λx=>xs[x]?)∘λx=>i+x)=λm=>xs[i+m]?:=rfl;rw[e2]at this;rw[this]
theorem yV{t sl:Addr}{items:Ch}{f e:Value}{lo hi:Cc}{Q:BN}(a:IsTup s.heap t items)(hs:s.heap.IsSliceOf sl f e .none)(pl:IsPart f lo)(pu:IsPart e hi)
  (hw:¬ (jR items.size 0 lo=0/\jR items.size items.size hi=items.size))
  (h:Q QbT {s with heap:=s.heap.push {cls:=.type "tuple",data:=.seq ((items.toList.drop Qms).take QfP).toArray}})
  (hsz:QiC):wpAny Qad A (getItem Qkw Qke) Q E s:=by
 have d:sizeOk (.seq ((items.toList.drop Qms).take QfP).toArray):=by
  show((items.toList.drop Qms).take QfP).toArray.size<=sizeLine;rw[List.size_toArray,List.length_take,List.length_drop,Array.length_toList];lia
 obtain⟨os,i,b,g⟩:=id hs;have c:s.TypeIs Qke "slice":=⟨os,i,b⟩;unfold getItem
 try with_reducible refine wpAny_holding ?_
 first|refine wpAny_bind (wpAny_pure ?_)|skip
 refine wpAny_bind (wpAny_sequenceKey a.typeIs Wk ?_);refine wpAny_bind (wpAny_callSpecial?_slot (name:=Str.ofString "__getitem__") a.typeIs PyProof.Rows.slot_tuple_getitem
  (wpAny_call_entry PyProof.Rows.slot_tuple_getitem a.typeIs entry_tuple_getitem ?_ (args_tuple_getitem _ _)))
 show wpAny _ _ (Builtin.Tuple.tupleItemsOf Qkw >>= _) _ _ s;refine wpAny_bind (tupleItemsOf_ a ?_);refine wpAny_bind (wpAny_typeOf c ?_);rw[if_pos Wk];refine wpAny_bind (Ay hs pl pu ?_);have j:¬ ((((jR items.size 0 lo:Nat):Int)==0&&(1:Int)==1&&QfP==items.size)=true):=by grind
 show wpAny _ _ (if (((jR items.size 0 lo:Nat):Int)==0&&(1:Int)==1&&QfP==items.size)=true then _ else _) _ _ s;rw[if_neg j,aaK]
 first
  | exact wpAny_bind (m:=Builtin.Tuple.tupleExact _) (wpAny_newObj_type (wpAny_pure ⟨_,rfl,wpAny_pure h⟩) d)
  | exact wpAny_bind (m:=Builtin.Tuple.tupleExact _) _
  | exact wpAny_bind _
  | exact wpAny_bind _
end HT
namespace L2
open PySem PySem.Spec PyProof.Rows
abbrev TO:=St->Hp->(Cc->Hp->Prop)->Prop
def PO(X:Cx)(e:QfB)(t:TO):Prop:=
 ∀(pins:BC) (s:Qb) (Y:St) (H:Hp) (Q:Cc->Hp->Prop),Inv X pins Y H s->t Y H Q →
  wpAny Qr X.A (evalPart e X.env) (λu s'=>∃o H',Inv X pins Y H' s'/\IsPart u o/\Q o H') X.xe s
noncomputable def afs:TO:=λ_ H Q=>Q none H
noncomputable def aoS(t:TE):TO:=λY H Q=>t Y H λx H1=>∃i,x=.int i/\Q (some i) H1
abbrev _root_.AT:=List Int
theorem intsAre_of{ns:AT}:∀{us:B2},Vals Qcz us->IntsAre us ns:=by
 induction ns with
 | nil=>intro us r;cases r;exact .nil
 | cons n ns c=>
  intro us r;cases r with
  | cons b a=>
   obtain⟨t,e⟩:=b;subst e;exact .cons n t (c a)
variable{X:Cx}{e:Expr}{te:TE}{lo hi:QfB}{tl th:TO}{pos p2:Pos}
noncomputable def aft:PO X none afs:=λpins s Y H Q I h=>hL ⟨none,H,I,.none,h⟩
def afu(h:QbQ):PO X Qj4 (aoS te):=by
 intro pins s Y H Q I hw;refine dF Qmj λu s1 zz=>?_;obtain⟨x,H1,b,a,q1⟩:=zz;obtain⟨i,rfl,q⟩:=q1;obtain⟨t,rfl⟩:=a;exact⟨ _,H1,b,.int i t,q⟩
def Nd(X:Cx)(r:Qlu):Prop:=
 ∀(pins:BC) (s:Qb) (Y:St) (H:Hp) (x:V) (v b a:Value) (lo hi:Cc) (sl:Addr) (Q:VK),Inv X pins Y H s->RelV x v->s.heap.IsSliceOf sl b a .none->IsPart b lo->IsPart a hi->r x lo hi H Q →
  ∃T id,typeLookup Qkd "__getitem__" = pure (some QeH)/\s.TypeIs v T/\wpAny Qr X.A (getItem v Qke) Qbe X.xe s
noncomputable def tSl(r:Qlu)(te:TE)(tl th:TO):TE:=λY H Q=>te Y H λx H1=>tl Y H1 λl H2=>th Y H2 λu a=>r x l u a Q
def NQ{r:Qlu}(m:Nd X r)(he:QbQ)(hl:PO X lo tl)(j:PO X hi th):PE X Qk1 (tSl r te tl th):=by
 intro pins s Y H Q I h;refine Subscript_ (dF QbV λv s1 zz=>?_);obtain⟨x,H1,y,f,q1⟩:=zz;refine wpAny_Slice (dF (hl pins s1 Y H1 _ y q1) λc s2 ⟨l,H2,w,pl,i⟩=>dF (j pins s2 Y H2 _ w i) λa s3 zz=>?_);obtain⟨u,d,t,pu,g⟩:=zz;refine hL ?_;have p:Inv X pins Y d {s3 with heap:=s3.heap.push {cls:=.type "slice",data:=.fields #[c,a,.none]}}:=t.kept λb z q=>ia _ q;obtain⟨T,id,o,k,n⟩:=m pins _ Y d x v c a l u _ Q p f (Heap.IsSliceOf.new ..) pl pu g;exact tail_any k o n (rfl)
def Xz(xs:B1)(lo hi:Cc):B1:=(xs.drop QsX).take QpK
theorem Ca(xs:B1)(lo hi:Cc):(Xz xs lo hi).length<=xs.length:=by
 unfold Xz;rw[l9,w8];lia
def asi(K:Frag):V->Cc->Cc->Hp->VK->Prop:=λx lo hi H Q=>∃a xs,x=.ref a/\qh K H a xs ∧
 ¬ (HT.jR xs.length 0 lo=0/\HT.jR xs.length xs.length hi=xs.length)/\∀p,H p=none->Q Qbl (upd H p (.tup (Xz xs lo hi)))
def akE:Nd X (asi X.K):=by
 intro pins s Y H x v g f lo hi sl Q I d hs pl pu h;obtain⟨a,xs,rfl,e,hw,q⟩:=h;cases d;obtain⟨its,r,c,hz⟩:=I.tuple e;have hlen:its.toArray.size=xs.length:=r.length.symm;refine⟨ _,_,aA1.lookup,c.typeIs,?_⟩;refine HT.yV c hs pl pu (hlen▸hw) ?_ (hlen▸hz);rw[hlen];refine⟨.ref _,_,I.laid Qte (hI _) ?_,rfl,q _ Qcw⟩;exact⟨jq (Ca xs lo hi) hz,_,(r.drop _).take _,IsTup.new _ _⟩
def aoT(K:Frag):R2:=λx y H Q=>∃a b xs ys,x=.ref a/\y=.ref b/\qh K H a xs/\qh K H b ys/\xs≠[]/\xs.length+ys.length<=sizeLine ∧
 (ys=[]->Q Qag H)/\(ys≠[]->∀p,H p=none->Q Qbl Qsq)
variable{xs:B1}{us:B2}
theorem Vals.Dm(r:QcK):us=[]↔xs=[]:=by
 cases r with
 | nil=>simp
 | cons _ _=>simp
theorem Vl:yS X QeM (aoT X.K):=by
 intro pins s Y H x y v u Q I f e h;obtain⟨a,b,xs,ys,rfl,rfl,k,j,i,hz,q1,g⟩:=h;cases f;cases e;obtain⟨its,d,p1,_⟩:=I.tuple k;obtain⟨m,c,p2,_⟩:=I.tuple j;refine HT.afq p1 p2 (λz=>i (d.Dm.1 z)) (λz=>⟨.ref a,H,I,rfl,q1 (c.Dm.1 z)⟩) (λz=>?_) (by rw[<- d.length,<- c.length];exact hz);refine⟨.ref _,_,I.laid (λb l q=>ia _ q) (hI _) ?_,rfl,g (λw=>z (c.Dm.2 w)) _ Qcw⟩;exact⟨ by simp_all,_,d.append c,IsTup.new _ _⟩
noncomputable def RA(n:Nat)(i:Int):Option Nat:=if 0<=i then(if i<n then some i.toNat else none) else if -(n:Int)<=i then some (i+n).toNat else none
variable{α:Type}
def yO(xs:Q8)(i:Int):Option α:=(RA xs.length i).bind λj=>xs[j]?
variable{n:Nat}
theorem JW{i:Int}{j:Nat}(h:RA n i=some j):seqIndex? i n=some j/\j<n /\ -(n:Int)<=i/\i<n:=by
 unfold RA at h;by_cases h0:0<=i
 .rw[ec h0]at h;by_cases h1:i<n
  .rw[ec h1]at h;have e:=j2 h;exact⟨by rw[seqIndex_of h0 h1,e],We,We,h1⟩
  simp_all
 .rw[bS h0]at h;by_cases h1:-n<=i
  .rw[ec h1]at h;have e:=j2 h;exact⟨by rw[seqIndex_neg We h1,e],We,h1,We⟩
  simp_all
theorem JX{xs:Q8}{i:Int}{v:α}(h:yO xs i=some v):∃j,seqIndex? i xs.length=some j/\xs[j]? = some v/\j<xs.length /\ -(xs.length:Int)<=i/\i<xs.length:=by
 unfold yO at h;cases e:RA _ i with
 | none=>rw[e]at h;cases h
 | some j=>
  rw[e]at h;obtain⟨h1,c,b,a⟩:=JW e;exact⟨j,h1,h,c,b,a⟩
theorem dQ{xs:Q8}{j:Nat}{v:α}(h:xs[j]? = some v):yO xs (j:Int)=some v:=by
 have a:=(ko.1 h).1;have e:RA xs.length j=some j:=by
  unfold RA;simp_all
 unfold yO;rw[e];exact h
def vp(b:Expr):Prop:=∀o i,subscripted b false o i=operate [o,i] (getItem o i)
def IM(X:Cx)(r:R2):Prop:=
 ∀(value slice:Expr) (pins:BC) (s:Qb) (Y:St) (H:Hp) (x y:V) (v u:Value) (Q:VK),Inv X pins Y H s->RelV x v->RelV y u->r x y H Q →
  subscripted slice false v u=operate [v,u] (getItem v u)->wpAny Qr X.A (subscriptTail value slice v u) Qbe X.xe s
abbrev _root_.FA:=V->B1->Hp->VK->Prop
def IH(X:Cx)(id:Qbg)(r:FA):Prop:=
 ∀(pins:BC) (s:Qb) (Y:St) (H:Hp) (x:V) (xs:B1) (v:Value) (us:B2) (Q:VK),Inv X pins Y H s->RelV x v->Vals xs us->r x xs H Q →
  wpAny Qr X.A QtD Qbe X.xe s
section
variable{a b:Expr}{ta tb:TE}
noncomputable def NR{r:R2}(e:IM X r)(g:Qcn)(f:Qfv)(hs:vp b):PE X (.Subscript a b pos) QjE:=λpins s Y H Q I h=>Subscript_ (KO g f I h λv u s2 x y H2 i d c q=>e a b pins s2 Y H2 x y v u Q i d c q (hs _ _))
def asj(K:Frag):R2:=λx y H Q=>∃p xs i v,x=.ref p/\y=.int i/\lQ K H p xs/\yO xs i=some v/\Q v H
def asl(K:Frag):R2:=λx y H Q=>∃p xs i v,x=.ref p/\y=.int i/\qh K H p xs/\yO xs i=some v/\Q v H
def asn:R2:=λx y H Q=>∃z i c,x=.str z/\y=.int i/\z.length<=sizeLine/\yO z.cps.toList i=some c/\Q (.str ⟨#[c]⟩) H
theorem Vm:IM X (asj X.K):=by
 intro value slice pins s Y H x y v u Q I b a h hs;obtain⟨p,xs,i,z,rfl,rfl,c,he,q⟩:=h;cases b;obtain⟨t,rfl⟩:=a;obtain⟨its,r,pl,hz⟩:=I.list c;obtain⟨j,h1,g,l,f,e⟩:=JX he;obtain⟨w,m,k⟩:=r.get g;have hl:=r.length;have hn:=Aw;have fin:EP X pins Y Q w s:=⟨z,H,I,k,q⟩;by_cases h0:0<=i
 .have d:i.toNat=j:=by
   rw[seqIndex_of h0 e]at h1;grind
  exact item_listR pl.isList h0 We Wp fin hs
 .have d:(i+its.toArray.size).toNat=j:=by
   rw[seqIndex_neg We f]at h1;simp_all
  exact subscriptTail_builtinR pl.isList.typeIs slot_list_getitem.lookup
   (wpAny_getItem_list_neg pl.isList We Wp We Wp ⟨rfl,fin⟩) hs
theorem aaL:IM X (asl X.K):=by
 intro value slice pins s Y H x y v u Q I b a h hs;obtain⟨p,xs,i,z,rfl,rfl,c,he,q⟩:=h;cases b;obtain⟨t,rfl⟩:=a;obtain⟨its,r,pl,hz⟩:=I.tuple c;obtain⟨j,h1,d,k,g,f⟩:=JX he;obtain⟨w,l,e⟩:=r.get d;have hl:=r.length;have hn:=Aw;have fin:EP X pins Y Q w s:=⟨z,H,I,e,q⟩;exact subscriptTail_builtinR pl.typeIs slot_tuple_getitem.lookup
  (getItem_tuple (j:=j) pl We We Wp Wp ⟨rfl,fin⟩) hs
theorem akF:IM X asn:=by
 intro value slice pins s Y H x y v u Q I b a h hs;obtain⟨z,i,c,rfl,rfl,hz,he,q⟩:=h;obtain⟨t,rfl⟩:=b;obtain⟨t',rfl⟩:=a;obtain⟨j,h1,g,f,e,d⟩:=JX he;have hl:z.cps.toList.length=z.length:=rfl;rw[hl]at h1 e d;have hn:=Aw;exact tail_any (typeIs_str s z t) slot_str_getitem.lookup (getItem_str (c:=c) WA Wp ⟨.str ⟨#[c]⟩,H,I.tok _,⟨_,rfl⟩,q⟩) hs
noncomputable def RB(its:B2)(n j:Nat)(u:Value):Obj.mapSeq (·.setIfInBounds j u) {cls:=.type "list",data:=.seq its.toArray n}={cls:=.type "list",data:=.seq (its.set j u).toArray n}:=by
 simp[Obj.mapSeq]
theorem Inv.lst{pins:BC}{Y:St}{H:Hp}{s:Qb}{p:Addr}(I:QE)(h:H p=some Qbs) :
  ∃(its:B2) (n:Nat),Vals xs its/\s.heap.get? p=some {cls:=.type "list",data:=.seq its.toArray n}/\xs.length<=sizeLine:=by
 obtain⟨z,its,n,r,e⟩:=I.ck p _ h;exact⟨its,n,r,e,z⟩
theorem Inv.akG{pins:BC}{Y:St}{H:Hp}{s:Qb}{p:Addr}{ys:B1}{its a:B2}{c:Nat}{f:Obj->Obj}(I:QE)(h:H p=some Qbs)
  (d:s.heap.get? p=some {cls:=.type "list",data:=.seq its.toArray n}) (hf:f {cls:=.type "list",data:=.seq its.toArray n}={cls:=.type "list",data:=.seq a.toArray c}) (r:Vals ys a) (hz:Qm1) (t:Nat) :
  Inv X pins Y (upd H p Qg5) {s with heap:=s.heap.update p f,toks:=t}:=by
 have e:(s.heap.update p f).get? p=some {cls:=.type "list",data:=.seq a.toArray c}:=by
  rw[uj f d (by rw[hf]<;>rfl),hf]
 refine I.write (by rw[h];trivial) Qal (λb u g q=>(wq _ _ (la g)).trans q) ⟨_,e⟩ ?_;exact⟨hz,a,c,r,e⟩
def aoU:V->V->V->Hp->Qj5->Prop:=λo i v H Q=>∃p xs k j,o=.ref p/\i=.int k/\H p=some Qbs/\RA xs.length k=some j/\Q (upd H p (.lst (xs.set j v)))
theorem set_list:OP X aoU:=by
 intro pins s Y H o i v x y u Q I f g e h;obtain⟨p,xs,k,j,rfl,rfl,c,l,q⟩:=h;cases f;obtain⟨t,rfl⟩:=g;obtain⟨its,n,r,a,hz⟩:=I.lst c;obtain⟨h1,z,w,m⟩:=JW l;have hl:=r.length;have hn:=Aw;have d:=
  I.akG c a (RB its n j u) (r.set e j) Wp s.toks
 by_cases h0:0<=k
 .have b:k.toNat=j:=by
   rw[seqIndex_of h0 m]at h1;grind
  exact PySem.W.ki_setAt a h0 We Wp (b▸⟨_,d,q⟩)
 .have b:(k+its.toArray.size).toNat=j:=by
   rw[seqIndex_neg We w]at h1;simp_all
  exact PySem.W.ki_setBack a We Wp We (b▸⟨_,d,q⟩)
theorem JZ(lo hi:Cc)(n:Nat):(sliceBounds lo hi none n).1=((HT.jR n 0 lo:Nat):Int)/\(sliceBounds lo hi none n).2.1=((HT.jR n n hi:Nat):Int)/\(sliceBounds lo hi none n).2.2=1:=by
 refine⟨?_,?_,rfl⟩
 .cases lo with
  | none=>simp[sliceBounds,HT.jR]
  | some i=>
   simp[sliceBounds,HT.jR,if_true];by_cases h:i<0
   .simp only[h,if_true]<;>lia
   .simp[h]<;>lia
 .cases hi with
  | none=>simp[sliceBounds,HT.jR]
  | some i=>
   simp[sliceBounds,HT.jR,if_true];by_cases h:i<0
   .simp only[h,if_true]<;>lia
   .simp[h]<;>lia
def G6(its:B2)(lo hi:Cc):slicePick its.toArray lo hi none=((its.drop (HT.jR its.length 0 lo)).take (HT.jR its.length its.length hi-HT.jR its.length 0 lo)).toArray:=by
 obtain⟨h1,b,a⟩:=JZ lo hi _;unfold slicePick;rw[h1,b,a];simp only[sliceRange_one,pick_run]<;>rfl
def aso(K:Frag):V->Cc->Cc->Hp->VK->Prop:=λx lo hi H Q=>∃a xs,x=.ref a/\lQ K H a xs/\∀p,H p=none->Q Qbl (upd H p (.lst (Xz xs lo hi)))
theorem afv:Nd X (aso X.K):=by
 intro pins s Y H x v g f lo hi sl Q I d hs pl pu h;obtain⟨a,xs,rfl,e,q⟩:=h;cases d;obtain⟨its,r,c,hz⟩:=I.list e;have hlen:=r.length;refine⟨ _,_,slot_list_getitem.lookup,c.isList.typeIs,?_⟩;refine wpAny_getItem_list_slice c.isList hs pl pu .none Wl ?_ WA;rw[G6,<- hlen];refine⟨.ref _,_,I.laid Qte (hI _) ?_,rfl,q _ Qcw⟩;exact⟨jq (Ca xs lo hi) hz,_,0,(r.drop _).take _,jj _ rfl⟩
noncomputable def wk:V->Bool
 | .non=>true
 | .bl _=>true
 | .int _=>true
 | .str _ => true
 | _=>false
noncomputable def ng:V->V->Bool
 | .non,.non=>true
 | .bl a,.bl b=>a==b
 | .bl a,.int b=>(if a then 1 else 0)==b
 | .int a,.bl b=>a==(if b then 1 else 0)
 | .int a,.int b=>a==b
 | .str a, .str b => a == b
 | _,_=>false
theorem akH{A:Qaq}{s:Qb}{y x:V}{u v:Value}(d:QbP)(c:RelV x v)(e:wk y=true)(fx:wk x=true):SeqAt.EqAt A s u v (ng y x):=by
 cases y with
 | non=>
  cases d;cases x with
  | non=>cases c;exact SeqAt.EqAt.same _
  | bl b=>cases c;exact SeqAt.EqAt.none_bool b
  | int b=>obtain⟨t,rfl⟩:=c;exact SeqAt.EqAt.none_int b t
  | str b=>obtain⟨t,rfl⟩:=c;exact SeqAt.EqAt.none_str b t
  | _=>exact absurd (show false=true from fx) km
 | bl a=>
  cases d;cases x with
  | non=>cases c;exact SeqAt.EqAt.bool_none a
  | bl b=>cases c;exact SeqAt.EqAt.bool_bool a b
  | int b=>obtain⟨t,rfl⟩:=c;exact SeqAt.EqAt.bool_int a b t
  | str b=>obtain⟨t,rfl⟩:=c;exact SeqAt.EqAt.bool_str a b t
  | _=>exact absurd (show false=true from fx) km
 | int a=>
  obtain⟨t',rfl⟩:=d;cases x with
  | non=>cases c;exact SeqAt.EqAt.int_none a t'
  | bl b=>cases c;exact SeqAt.EqAt.int_bool a t' b
  | int b=>obtain⟨t,rfl⟩:=c;exact SeqAt.EqAt.int_int a t' b t
  | str b=>obtain⟨t,rfl⟩:=c;exact SeqAt.EqAt.int_str a t' b t
  | _=>exact absurd (show false=true from fx) km
 | str a=>
  obtain⟨t',rfl⟩:=d;cases x with
  | non=>cases c;exact SeqAt.EqAt.str_none a t'
  | bl b=>cases c;exact SeqAt.EqAt.str_bool a t' b
  | int b=>obtain⟨t,rfl⟩:=c;exact SeqAt.EqAt.str_int a t' b t
  | str b=>obtain⟨t,rfl⟩:=c;exact SeqAt.EqAt.str_str a t' b t
  | _=>exact absurd (show false=true from fx) km
 | _=>exact absurd (show false=true from e) km
def tq(x:V)(u:Value):Bool:=match u with
 | .none=>ng .non x
 | .bool b=>ng Qd5 x
 | .int i _=>ng Qbr x
 | .str z _ => ng (.str z) x
 | _=>false
theorem aaN{x y:V}{u:Value}(r:QbP)(f:wk y=true):tq x u=ng y x:=by
 cases y with
 | non=>cases r;rfl
 | bl b=>cases r;rfl
 | int i=>obtain⟨t,rfl⟩:=r;rfl
 | str z=>obtain⟨t,rfl⟩:=r;rfl
 | _=>exact absurd (f) km
theorem yW{x:V}:∀{xs:B1} {us:B2},Vals xs us->xs.all wk=true->us.any (tq x)=xs.any λy=>ng y x
 | _,_,.nil,_=>rfl
 | y::xs,u::us,.cons r t,f=>by
  rw[List.all_cons,kx]at f;rw[my,my,aaN r f.1,yW t f.2]
theorem tG{A:Qaq}{s:Qb}{x:V}{v:Value}(b:RelV x v)(fx:wk x=true):∀{xs:B1} {us:B2},Vals xs us->xs.all wk=true->∀u∈us,SeqAt.EqAt A s u v (tq x u)
 | _,_,.nil,_=>λu a=>by cases a
 | y::xs,u::us,.cons r t,f=>λc a=>by
  rw[List.all_cons,kx]at f;obtain rfl|a:=fF.1 a
  .rw[aaN r f.1];exact akH r b f.1 fx
  .exact tG b fx t f.2 c a
def sZ(x:V)(xs:B1):Bool:=xs.any λy=>ng y x
def NL(K:Frag)(neg:Bool):R2:=λx y H Q=>∃p xs,y=.ref p/\(lQ K H p xs\/qh K H p xs)/\wk x=true/\xs.all wk=true/\Q (.bl (if neg then !sZ x xs else sZ x xs)) H
def IE:yS X (compareOp .In) (NL X.K false):=by
 intro pins s Y H x y v u Q I b c h;obtain⟨p,xs,rfl,a,fx,fs,q⟩:=h;cases c;obtain a|a:=a
 .obtain⟨its,r,pl,hz⟩:=I.list a;refine SeqAt.in_listAt _ pl.isList QhS ⟨.bl _,H,I,rfl,?_⟩;rw[show its.toArray.any _=its.any (tq x) by simp,yW r fs];exact q
 .obtain⟨its,r,pl,hz⟩:=I.tuple a;refine SeqAt.in_tupleAt _ pl QhS ⟨.bl _,H,I,rfl,?_⟩;rw[show its.toArray.any _=its.any (tq x) by simp,yW r fs];exact q
def lR:yS X (compareOp .NotIn) (NL X.K true):=by
 intro pins s Y H x y v u Q I b c h;obtain⟨p,xs,rfl,a,fx,fs,q⟩:=h;cases c;obtain a|a:=a
 .obtain⟨its,r,pl,hz⟩:=I.list a;refine SeqAt.notIn_listAt _ pl.isList QhS ⟨.bl _,H,I,rfl,?_⟩;rw[show its.toArray.any _=its.any (tq x) by simp,yW r fs];exact q
 .obtain⟨its,r,pl,hz⟩:=I.tuple a;refine SeqAt.notIn_tupleAt _ pl QhS ⟨.bl _,H,I,rfl,?_⟩;rw[show its.toArray.any _=its.any (tq x) by simp,yW r fs];exact q
theorem yX:tE X (.builtin "len") (λxs H Q=>∃p ys,xs=[.ref p]/\QrE/\Q (.int ys.length) H):=by
 intro pins s Y H xs us Q I r h;obtain⟨p,ys,rfl,a,q⟩:=h;obtain⟨u,rfl,c⟩:=vals1 r;cases c;have hn:=Aw;obtain a|a:=a
 .obtain⟨its,b,pl,hz⟩:=I.list a;have hlen:=b.length;exact Calls.call_len_list pl.isList (by simp only[nq]<;>lia) ⟨.int _,H,I.tok _,⟨s.toks+1,by simp_all ⟩,q⟩
 .obtain⟨its,b,pl,hz⟩:=I.tuple a;have hlen:=b.length;exact len_tuple pl (by simp only[nq]<;>lia) ⟨.int _,H,I.tok _,⟨s.toks+1,by simp_all ⟩,q⟩
theorem yZ:tE X Qgp (λxs H Q=>∃p ys,xs=[.ref p]/\QrE/\∀l,H l=none->Q Qfi (upd H l Qg5)):=by
 intro pins s Y H xs us Q I r h;obtain⟨p,ys,rfl,c,q⟩:=h;obtain⟨u,rfl,i⟩:=vals1 r;cases i;have fin:∀(its:Qea),Vals ys its->ys.length<=sizeLine->∀(h':Heap) (g:Nat),(∀b o',s.heap.get? b=some o'->h'.get? b=some o') →
   h'.get? _=some _->EP X pins Y Q _ _:=λits a hz h' g kp e=>
  ⟨.ref _,_,I.laid (t':=s.toks) kp (hI _) (show dD _ X.w _ h' _ Qg5 from⟨hz,its,g,a,e⟩),rfl,q _ Qcw⟩
 obtain c|c:=c
 .obtain⟨its,a,pl,hz⟩:=I.list c;have hlen:=a.length;obtain⟨o,d,f,n,hd⟩:=pl.isList;exact call_list_seq p Qal d f hd (fin its a hz) WA
 .obtain⟨its,a,pl,hz⟩:=I.tuple c;have hlen:=a.length;obtain⟨o,d,f,n,hd⟩:=pl;exact call_list_seq p QaI d f hd (fin its a hz) WA
theorem wm:tE X QuV (λxs H Q=>∃p ys,xs=[.ref p]/\((lQ X.K H p ys/\∀l,H l=none->Q Qfi (upd H l Qkf))\/(qh X.K H p ys/\Q Qbl H))):=by
 intro pins s Y H xs us Q I r h;obtain⟨p,ys,rfl,h⟩:=h;obtain⟨u,rfl,f⟩:=vals1 r;cases f;obtain⟨c,q⟩|⟨c,q⟩:=h
 .obtain⟨its,a,pl,hz⟩:=I.list c;have hlen:=a.length;refine call_tuple_list pl.isList (λh' kp=>?_) WA;have d:=I.kept (t':=s.toks) kp;have g:=
   d.laid (t':=s.toks) (λb o e=>ia _ e) (hI _) (show dD _ X.w _ _ _ Qkf from⟨hz,its,a,IsTup.new _ _⟩)
  exact⟨.ref _,_,g,rfl,q _ (d.ck.fresh (hI _))⟩
 .obtain⟨its,a,pl,hz⟩:=I.tuple c;exact call_tuple_same pl ⟨.ref p,H,I,rfl,q⟩
def JO(K:Frag)(T:Qbg)(x:V)(H:Hp):Prop:=match x with
 | .str _ => T = "str"
 | .int _=>T="int"
 | .ref p=>(T="list" /\ ∃xs,lQ K H p xs)\/(T="tuple" /\ ∃o,K.lookup p=some o/\o.cls=.type "tuple" /\ o.dict=none) ∨
   (T="dict" /\ ((∃kvs,H p=some Qbt)\/∃kvs,H p=some Qda))\/(T="set" /\ ∃S n,H p=some (.set S n))
 | _=>False
theorem Z0{pins:BC}{Y:St}{H:Hp}{s:Qb}{T:Qbg}{x:V}{v:Value}(I:QE)(r:RelV x v)(ty:JO X.K T x H) :
  s.TypeIs v T/\∀a,v=.ref a->∃d,s.heap.get? a=some d/\d.dict=none:=by
 cases x with
 | str z=>
  obtain⟨t,rfl⟩:=r;cases (ty);exact⟨typeIs_str s z t,λ_ e=>nomatch e⟩
 | int i=>
  obtain⟨t,rfl⟩:=r;cases (ty);exact⟨typeIs_int s i t,λ_ e=>nomatch e⟩
 | ref p=>
  cases r;obtain⟨rfl,xs,f⟩|⟨rfl,o,b,g,hd⟩|⟨rfl,b⟩|⟨rfl,S,n,b⟩:=ty
  .obtain⟨its,_,pl,_⟩:=I.list f;refine⟨pl.isList.typeIs,λa e=>?_⟩;obtain⟨o,n,e,c,hd,_⟩:=pl;simp_all
  .refine⟨⟨o,I.Au p o b,g⟩,λa e=>?_⟩;cases e;exact⟨o,I.Au _ o b,hd⟩
  .have z:∃o,s.heap.get? p=some o/\o.ExactDict:=by
    obtain⟨kvs,b⟩|⟨kvs,b⟩:=b
    .obtain⟨_,_,_,_,o,_,_,e,ex,_⟩:=I.ck p _ b;simp_all
    .obtain⟨_,_,_,_,o,_,_,e,ex,_⟩:=I.ck p _ b;simp_all
   obtain⟨o,e,ex⟩:=z;refine⟨⟨o,e,ex.1⟩,λa e2=>?_⟩;cases e2;exact⟨o,e,ex.2.1⟩
  .obtain⟨o,_,_,_,e,ex,_⟩:=I.ck p _ b;refine⟨⟨o,e,ex.1⟩,λa e2=>?_⟩;cases e2;exact⟨o,e,ex.2.1⟩
 | _=>exact False.elim ty
noncomputable def asq(K:Frag)(T:Qbg)(r:FA)(to:TE):TE:=λY H Q=>to Y H λx H1=>JO K T x H1/\r x [] H1 Q
noncomputable def tBM(K:Frag)(T:Qbg)(r:FA)(to:TE)(t:TA):TE:=λY H Q=>to Y H λx H1=>JO K T x H1/\t Y H1 λxs H2=>r x xs H2 Q
variable{o:Expr}{es:Cl}{to:TE}{t:TA}{name:Str}{apos xo:Pos}{T id:Qbg}{r:FA}
def akK(pa:PlainAttrs T)(slot:Slot T name id)(b:Qp9)(hm:IH X id r)(e:PE X o to)
  (g:AS X o name:=by rfl) (a:QlF:=by rfl):PE X (.Call Qsr [] [] xo) (asq X.K T r to):=by
 intro pins s Y H Q I h;refine wpAny_Call_method0_late g a (dF (e pins s Y H _ I h) λv s1 zz=>?_);obtain⟨x,H1,d,c,ty,q1⟩:=zz;obtain⟨h1,f⟩:=Z0 d c ty;exact⟨T,id,pa,slot,b,h1,f,Calls.callWith_builtin rfl (PySem.evalArgs_none (hm pins s1 Y H1 x [] v [] Q d c .nil q1))⟩
def IG(pa:PlainAttrs T)(slot:Slot T name id)(b:Qp9)(hm:IH X id r)(k:PE X o to)(l:QfA)
  (n:AS X o name:=by rfl)
  (g:((backTo xo Qex).all Qnv&&(backToKw xo Ql9).all Qmb
   && decide ((e::es).length+([]:List Keyword).length+QkS<30))=true:=by rfl)
  (a:QlF:=by rfl) (hs:Qaw:=by rfl) (p:AL X xo es:=by rfl) :
  PE X (.Call Qsr Qav [] xo) (tBM X.K T r to t):=by
 intro pins s Y H Q I h;refine wpAny_Call_method_late n g a rfl (dF QtA λv s1 zz=>?_);obtain⟨x,H1,f,c,ty,q1⟩:=zz;obtain⟨h1,m⟩:=Z0 f c ty;refine⟨T,id,pa,slot,b,h1,m,?_⟩;have d:=l xo pins s1 Y H1 _ f q1;rw[hs]at d ⊢;refine Calls.callWith_builtin (‹_›) (Calls.evalArgs_plain ?_);exact dF d λus s2 ⟨vs,H2,q,i,j⟩=>hm pins s2 Y H2 x vs v us Q q c i j
end
def zt(X:Cx)(id:Qbg)(r:FA):Prop:=
 ∀(pins:BC) (s:Qb) (Y:St) (H:Hp) (x:V) (xs:B1) (v:Value) (us:B2) (Q:VK),Inv X pins Y H s->RelV x v->Vals xs us->r x xs H Q →
  wpAny Qr X.A QtD Qbe X.xe s
variable{x:V}
theorem Vals.one(h:Vals [x] us):∃u,us=[u]/\RelV x u:=by
 cases h with
 | cons r h=>cases h;exact⟨_,rfl,r⟩
theorem Vals.two{y:V}(h:Vals [x,y] us):∃u v,us=[u,v]/\RelV x u/\RelV y v:=by
 cases h with
 | cons r h=>cases h with
  | cons q h=>cases h;exact⟨_,_,rfl,r,q⟩
theorem Vals.zero:∀{us:B2},Vals [] us->us=[]
 | _,.nil=>rfl
theorem Vals.dropLast(h:QcK):Vals xs.dropLast us.dropLast:=by
 induction h with
 | nil=>exact .nil
 | cons r t a=>
  cases t with
  | nil=>exact .nil
  | cons q t'=>exact .cons r a
theorem Vals.rep{xs:B1}{us:B2}(h:QcK):∀k:Nat,Vals (List.replicate k xs).flatten (List.replicate k us).flatten
 | 0=>.nil
 | k+1=>Vals.append h (Vals.rep h k)
theorem foldl_rep(its:B2):∀(k:Nat) (acc:B2),
  List.foldl (λb a=>b++a) acc.toArray (List.replicate k its.toArray)=(acc++(List.replicate k its).flatten).toArray
 | 0,acc=>by simp
 | k+1,acc=>by
  have e:acc.toArray++its.toArray=(acc++its).toArray:=by simp
  have e2:(acc++its)++(List.replicate k its).flatten=acc++(List.replicate Qao its).flatten:=by
   rw[List.replicate_succ,List.flatten_cons,h5]
  rw[<- e2,<- foldl_rep its k _,<- e,List.replicate_succ,pj]
variable{pins:BC}{Y:St}{H:Hp}{s:Qb}{l:Addr}{ys:B1}
theorem Inv.FX{its a:B2}{f:Ch->Ch}{t':Nat}(I:QE)(d:H l=some Qbs)
  (e:s.heap.get? l=some {cls:=.type "list",data:=.seq its.toArray n}) (hf:f its.toArray=a.toArray) (hv:Vals ys a) (hz:Qm1) :
  Inv X pins Y (upd H l Qg5) {s with heap:=s.heap.update l (Obj.mapSeq f),toks:=t'}:=by
 have q:=PySem.IsL.update e f;rw[hf]at q;refine I.write (d▸trivial) Qal (λg u c b=>(wq _ _ (la c)).trans b) ⟨_,q⟩ ?_;exact⟨hz,a,_,hv,q⟩
theorem Inv.Lm{its:B2}{t':Nat}(I:QE)(hv:Vals ys its)(hz:Qm1) :
  Inv X pins Y (upd H s.heap.objs.size Qg5) {s with heap:=s.heap.push {cls:=.type "list",data:=.seq its.toArray},toks:=t'}:=
 I.laid Qiu (hI _) ⟨hz,its,0,hv,jj _ rfl⟩
theorem Inv.fresh(I:QE):H s.heap.objs.size=none:=I.ck.fresh (hI _)
theorem Inv.FV(I:QE)(a:H l=some Qbs):xs.length<=sizeLine/\∃(its:B2) (n:Nat),Vals xs its/\xs.length=its.length/\s.heap.get? l=some {cls:=.type "list",data:=.seq its.toArray n}:=by
 obtain⟨z,its,n,r,e⟩:=I.ck l _ a;exact⟨z,its,n,r,r.length,e⟩
theorem D7(h:n<=sizeLine):Builtin.List.listTooLong n=false:=i3 We
def afy:V->B1->Hp->VK->Prop:=λx vs H Q=>∃l xs y,x=.ref l/\vs=[y]/\H l=some Qbs/\xs.length<sizeLine/\Q .non (upd H l (.lst (xs++[y])))
theorem vq:zt X "list.append" afy:=by
 intro pins s Y H x vs v us Q I b c h;obtain⟨l,xs,y,rfl,rfl,a,hz,q⟩:=h;cases b;obtain⟨u,rfl,d⟩:=c.one;obtain⟨z,its,n,r,hl,e⟩:=I.FV a;refine rg F.slot_list_append ⟨_,e,rfl⟩ F.entry_list_append (F.args_list_append_2 _ _) (PySem.list_append l _ n u WA) ⟨e,?_⟩;refine⟨.non,_,I.FX a e Wl (r.append (.cons d .nil)) ?_,rfl,q⟩;grind
def ass:V->B1->Hp->VK->Prop:=λx vs H Q=>∃l xs y,x=.ref l/\vs=[]/\H l=some Qbs/\xs[xs.length-1]? = some y/\Q y (upd H l (.lst xs.dropLast))
theorem akM:zt X "list.pop" ass:=by
 intro pins s Y H x vs v us Q I d f h;obtain⟨l,xs,y,rfl,rfl,c,i,q⟩:=h;cases d;have b:=f.zero;subst b;obtain⟨z,its,n,r,hl,e⟩:=I.FV c;obtain⟨u,j,g⟩:=r.get i;have a:its.toArray[its.toArray.size-1]? = some u:=by simp_all
 refine rg F.slot_list_pop ⟨_,e,rfl⟩ F.entry_list_pop (F.args_list_pop_1 _) (MeetsSeq.list_pop_last l _ n u a Wp) ⟨e,?_⟩;refine⟨y,_,I.FX c e ?_ r.dropLast ?_,g,q⟩
 .simp_all
 .rw[List.length_dropLast];lia
def len_rep(xs:Q8)(k:Nat):(List.replicate k xs).flatten.length=k*xs.length:=by simp
end L2
namespace Att
open PySem PySem.W PySem.Calls PyProof.Rows
def C4{P:Params}{h:Heap}:∀(ns:AT) (vs:B2),WellAll P h vs QtW->IntsAre vs ns:=by
 intro ns
 induction ns with
 | nil=>
  intro vs w;cases w;exact .nil
 | cons n ns c=>
  intro vs w;cases w with
  | cons a b=>
   cases a;exact .cons _ _ (c _ b)
theorem XA{l:OpenLaw}{n:Nat}(hn:QoG){P:Params}{h:Heap}{args:List WData}{vals:B2}
  (f:l.row.toRowW.claim.pre args=true) (c:WellAll P h vals args) :
  ∃a vs ns,vals=[Value.ref a]/\args=[WData.list QtW]/\h.get? a=some {cls:=.type "list",data:=.seq vs.toArray}/\IntsAre vs ns/\ns.length<=n:=by
 have xr:=(pre_splitW f).1;have k:=(pre_splitW f).2;obtain⟨d,r,rfl,h1,o⟩:=hasAllW_cons xr;obtain rfl:=hasAllW_nil o;obtain⟨xs,rfl,m⟩:=hasW_list h1;obtain⟨ns,rfl⟩:=items_int m;have hlen:ns.length<=n:=by
  have b:=by
   have b:=(holds_andW k).1;rw[hn]at b;exact b
  have p:=condW_of b (w_not (w_lt w_lit (w_len_list (w_arg rfl))));simp_all
 cases c with
 | cons i g=>
  cases g;cases i with
  | list j e=>exact⟨_,_,ns,rfl,rfl,j,C4 ns _ e,hlen⟩
def XC(l:OpenLaw)(args:List WData):l.row.toRowW.claim.post args Qgs args=true:=
 postW_of
  (rfl)
  (w_eq_bool (w_res rfl) w_lit) rfl
def NS{l:OpenLaw}{n:Nat}{q:Qah}{loose:At}{m:Qnc}{k:QmA}{d:DefRec}
  (hn:QoG) (h:QmI)
  (call:∀(w:World) (hO b:Qb) (mg mb:Bi) (c:Addr) (o:Obj) (pm cd doc:Value) (a:Addr) (vs:B2) (ns:AT),
   Ground q loose [] m w hO mg mb b.heap->k w b.heap →
   b.heap.get? c=some o->o.data=.func (docDef d.name d.params d.body d.scope pm cd doc)->b.heap.CodeRec cd d.name->mg d.name=some Qfj →
   b.heap.get? a=some {cls:=.type "list",data:=.seq vs.toArray}->IntsAre vs ns->ns.length<=n->b.gens=#[] →
   codeAny (model l.prog w) callerA (.call Qfj ⟨[.ref a],[]⟩) (λr s'=>r=.ok (.ret Qgs)/\OldK b.heap s'.heap/\s'.os=b.os/\AllBare s'.gens) b) :
  WalkO q loose m k l.row.toRowW d [] Qlv:=by
 intro w hO b mg mb G Y c o pm cd doc dV kV t hd iO hD g v args vals as A j p e u;obtain rfl:dV=.none:=Dflts.none hD h;obtain rfl:kV=.none:=Dflts.noKw hD;obtain⟨a,vs,ns,rfl,rfl,i,hints,hlen⟩:=XA hn A e;refine enter_call (codeAny_mono (call w hO b mg mb c o pm cd doc a vs ns G Y t (fd_plain hd) iO g i hints hlen v) λr s' s=>?_);obtain⟨rfl,z,y,x⟩:=s;exact⟨.inl ⟨ _,_,[],rfl,λ_=>rfl,.bool true,XC l _,λ_=>⟨List.Pairwise.nil,λ_ hm=>(nomatch hm)⟩⟩,z,y,x⟩
noncomputable def ledger(h:Heap)(L d:Addr):BC:=(List.range h.objs.size).filterMap λa=>if a=L\/a=d then none else(h.get? a).map λo=>(a,o)
end Att
namespace L2
open PySem PySem.Spec PyProof.Rows
theorem II:∀{vs:B2} {ns:AT},IntsAre vs ns->Vals Qcz vs
 | _,_,.nil=>.nil
 | _,_,.cons n t h=>.cons ⟨t,rfl⟩ (II h)
noncomputable def inClass(s:Stmt)(j:Nat):Stmt:=match s with
 | .ClassDef _ _ _ body _ _ _ _ _ _ _=>body.getD j Qr2
 | _=>.Pass ⟨0,0,0,0⟩
noncomputable def gH(s:Stmt):Arguments:=match s with
 | .FunctionDef _ a _ _ _ _ _ _ _ _=>a
 | _=>{posonlyargs:=[],args:=[],vararg:=none,kwonlyargs:=[],kw_defaults:=[],kwarg:=none,defaults:=[]}
noncomputable def bJ(s:Stmt):CA:=match s with
 | .FunctionDef _ _ b _ _ _ _ _ _ _=>b
 | _=>[]
noncomputable def ak(s:Stmt):Scope:=match s with
 | .FunctionDef _ _ _ _ _ _ sc _ _ _=>sc
 | _=>{kind:=.function,names:=[],isGenerator:=false,isCoroutine:=false}
noncomputable abbrev oS:r4:=λ_ _ _ _ _ _=>False
noncomputable abbrev E0:XK:=λ_ _ _=>False
variable{X:Cx}
noncomputable def D9:Passes oS X E0:=λ_ _ _ _ _ _ _ h=>h.elim
structure Vo(K:Frag)(x qual:Str)(st:Stmt)(f:Addr)(fd:QaN):Prop where
 ex:∃(dV oc:Value) (od:Do) (kV doc pm:Value) (an:Do) (d7 ct:Value) (IB:Da),
  fd=fnOf x qual (gH st) QbE Qa7 dV kV doc pm an d7 ct/\K.lookup f=some ⟨oc,od,.func fd,IB⟩/\codeIn K d7 qual=true
 kp:keepIn K Qaj=true
variable{P:Qah}{w:World}{K:Frag}{mg:Bi}{base:Heap}
theorem Vo.ok{x qual:Str}{st:Stmt}{f:Addr}{fd:QaN}{N ps:At}{k:Nat}{sp:Sp}(F:Qdm)(S:Qdn)(len:∀vs H Q E,sp vs H Q E->vs.length=ps.length)
  (b:∀(d7:Value) (A:Qaq) (outer:D2) (s:Qb) (H:Hp) (vs:B1) (Q:VK) (E:XK),eL k QuW->sp vs H Q E →
   ∃t,Ri (tF oS P w K mg base N qual Qa7 f d7 A outer s H E).Q8 QbE t/\t {nx:=λ_ H'=>Q .non H',rt:=Q} (start N vs) H):dB P w K mg base oS Qao f fd ps sp:=by
 obtain⟨dV,oc,od,kV,doc,pm,an,d7,ct,IB,rfl,lk,iO⟩:=F.ex;refine Vj lk iO S len λA outer s H vs Q E a c=>?_;obtain⟨t,h,q⟩:=b d7 A _ s H vs Q E a c;exact⟨t,h.Q8,q⟩
theorem Vo.binds{x qual:Str}{st:Stmt}{f:Addr}{fd:QaN}{ps:At}(F:Qdm)(hd:fd.defaults=.none)
  (h:∀(kV doc pm:Value) (an:Do) (d7 ct:Value) (us:B2),us.length=ps.length->bindArgs QfN ⟨us,[]⟩=pure QcD):Binds K fd ps []:=by
 obtain⟨dV,oc,od,kV,doc,pm,an,d7,ct,IB,rfl,lk,iO⟩:=F.ex;cases (show dV=.none from hd);exact .all (h kV doc pm an d7 ct)
def ZA{x qual:Str}{st:Stmt}{f:Addr}{oc:Value}{od an:Do}{IB:Da}{kV doc pm d7 ct:Value}(l:Qqv)
  (c:QmP) (k:Qgm):Vo K x qual st f QfN:=⟨⟨.none,oc,od,kV,doc,pm,an,d7,ct,IB,rfl,l,c⟩,k⟩
noncomputable def bB{n:Nat}(h:n<=1000):n<sizeLine:=nk h Wk
def XD{A B:Prop}(h:B):if false=true then A else B:=‹_›
def XF{A B:Prop}(h:A):if true=true then A else B:=‹_›
def ay(H H':Hp):Prop:=∀b o,H b=some o->H' b=some o
theorem ay.refl(H:Hp):ay H H:=λ_ _ h=>h
variable{H:Hp}
theorem ay.trans{H1 H2:Hp}(a:ay H H1)(b:ay H1 H2):ay H H2:=λc o h=>b c o (a c o h)
variable{H':Hp}
theorem ay.free(e:QcM){l:Addr}(h:H' l=Option.none):H l=Option.none:=by
 cases q:H l with
 | none=>rfl
 | some o=>
  rw[e l o q]at h;cases h
variable{a:Addr}
theorem ay.seq{xs:B1}(e:QcM)(h:lQ K H a xs):lQ K H' a xs:=by
 rcases h with(h|⟨o,h⟩)|h
 .exact .inl (.inl QdC)
 .exact .inl QsI
 .exact .inr h
section
variable{κ:Type}[DecidableEq κ]
noncomputable def jc(kvs:QbG)(k:κ):Option V:=(kvs.find? λa=>decide Qhi).map (·.2)
noncomputable def putK(kvs:QbG)(k:κ)(v:V):List (κ×V):=
 if QfR=true then kvs.map QpL else kvs++[(k,v)]
def mY{p:κ×V}{r:QbG}{k:κ}(e:p.1=k):jc (p::r) k=some p.2:=by simp[jc,nt,e]
def kT{p:κ×V}{r:QbG}{k:κ}(e:¬ p.1=k):jc (p::r) k=jc r k:=by simp[jc,nt,e]
theorem Ea(k:κ):∀kvs:List (κ×V),QfR=(jc kvs k).isSome
 | []=>rfl
 | p::r=>by
  rw[my];by_cases e:p.1=k
  .simp only[mY e,kf e,Bool.true_or,Option.isSome_some]
  .rw[kT e,i3 e,Bool.false_or];exact Ea k r
theorem Cb(kvs:QbG)(k:κ)(v:V):(putK kvs k v).length<=kvs.length+1:=by
 unfold putK;split
 .rw[cq];lia
 .rw[iq,kq,List.length_nil];lia
def aaR{kvs:QbG}{k:κ}(v:V)(h:jc kvs k=none):putK kvs k v=kvs++[(k,v)]:=by
 unfold putK;rw[Ea,h];exact bS Wk
theorem sU.qj{o:Qeb}{u:FB}(r:sU o u):o.isSome=u.isSome:=by
 cases o with
 | none=>cases u with
  | none=>rfl
  | some _=>exact(show False from r).elim
 | some _=>cases u with
  | none=>exact(show False from r).elim
  | some _=>rfl
theorem sU.getD{o:Qeb}{u:FB}{d:V}{d':Value}(r:sU o u)(rd:RelV d d'):RelV (o.getD d) (u.getD d'):=by
 cases o with
 | none=>cases u with
  | none=>exact rd
  | some _=>exact(show False from r).elim
 | some _=>cases u with
  | none=>exact(show False from r).elim
  | some _=>exact r
theorem KV.val{kvs:QbG}{vs:Qd8}(r:Qdk)(k:κ):sU Qj6 (valueAt vs k):=by
 unfold KV at r
 induction r with
 | nil=>exact True.intro
 | @cons p q ps qs h t c=>
  obtain⟨h1,d⟩:=h;by_cases e:p.1=k
  .have a:q.1=k:=h1.symm.trans e;have b:valueAt (q::qs) k=some q.2:=by simp[valueAt,nt,a]
   rw[mY e,b];exact d
  .have a:¬ q.1=k:=λz=>e Qm6;have b:valueAt (q::qs) k=valueAt qs k:=by simp[valueAt,nt,a]
   rw[kT e,b];exact c
theorem KV.any{kvs:QbG}{vs:Qd8}(r:Qdk)(k:κ):QfR=vs.any λa=>decide Qhi:=by
 unfold KV at r
 induction r with
 | nil=>rfl
 | cons h t b=>rw[my,my,b,h.1]
theorem KV.l4{kvs:QbG}{vs:Qd8}(r:Qdk)(k:κ){y:V}{u:Value}(b:QbP) :
  KV Qpx (vs.map λa=>if a.1=k then(a.1,u) else a):=by
 unfold KV at r ⊢
 induction r with
 | nil=>exact .nil
 | @cons p q ps qs h t c=>
  rw[ik,ik];refine .cons ?_ c;obtain⟨h1,d⟩:=h;by_cases e:p.1=k
  .rw[ec e,ec Qun];exact⟨h1,b⟩
  .rw[bS e,bS Qvj];exact⟨h1,d⟩
theorem KV.put{kvs:QbG}{vs:Qd8}(r:Qdk)(k:κ){y:V}{u:Value}(a:QbP):KV (putK kvs k y) (stored vs k u):=by
 unfold putK stored;rw[r.any k];by_cases e:(vs.any λb=>decide (b.1=k))=true
 .rw[ec e,ec e];exact r.l4 k a
 .rw[bS e,bS e];exact Paired.snoc r ⟨rfl,a⟩
theorem KV.keys{kvs:QbG}{vs:Qd8}(r:Qdk):kvs.map (·.1)=vs.map (·.1):=by
 unfold KV at r
 induction r with
 | nil=>rfl
 | cons h t a=>rw[ik,ik,a,h.1]
theorem KV.length{kvs:QbG}{vs:Qd8}(r:Qdk):kvs.length=vs.length:=wd r
end
variable{u:Value}
theorem NT{k:Key}(r:RelV (kV k) u):(ez P w).is k u=true:=by
 cases k with
 | inl i=>obtain⟨t,e⟩:=(show ∃t,u=Value.int i t from r);subst e;exact Nt P w i t
 | inr x=>obtain⟨t,e⟩:=(show ∃t,u=Value.str x t from r);subst e;exact Nu P w x t
theorem Az{P:Qah}{w:World}:∀{ks:CI} {us:B2},Vals QmB us->ItemsAre Qc8 ks us
 | [],_,r=>by rw[tL]at r;cases r;exact .nil
 | k::ks,_,r=>by
  rw[ik]at r;cases r with
  | cons h t=>exact .cons (NT h) (Az t)
abbrev KT(H:Hp):B0->List Qgd->Prop:=Paired λp q=>p.1=q.1/\H q.2.1=some Qug/\RelV p.2 q.2.2
variable{kvs:B0}{xs:List Qgd}
theorem KT.val(r:Qj2)(k:CI):sU Qj6 ((atKey xs k).map (·.2)):=by
 induction r with
 | nil=>exact True.intro
 | @cons p q ps qs h t c=>
  obtain⟨h1,_,d⟩:=h;by_cases e:p.1=k
  .have a:q.1=k:=h1.symm.trans e;have b:atKey (q::qs) k=some q.2:=by simp[atKey,nt,a]
   rw[mY e,b];exact d
  .have a:¬ q.1=k:=λz=>e Qm6;have b:atKey (q::qs) k=atKey qs k:=by simp[atKey,nt,a]
   rw[kT e,b];exact c
variable{y:V}
theorem KT.l4(r:Qj2)(k:CI)(c:QbP) :
  KT H Qpx (xs.map (putAt k u)):=by
 induction r with
 | nil=>exact .nil
 | @cons p q ps qs h t d=>
  rw[ik,ik];refine .cons ?_ d;obtain⟨h1,b,f⟩:=h;unfold putAt;by_cases e:p.1=k
  .rw[ec e,ec Qun];exact⟨h1,b,c⟩
  .rw[bS e,bS Qvj];exact⟨h1,b,f⟩
theorem KT.put(r:Qj2)(k:CI){b:Addr}(d:Qol)(a:QbP) :
  KT H (putK kvs k y) (storedH xs k b u):=by
 have e:(kvs.any λc=>decide (c.1=k))=(atKey xs k).isSome:=by
  rw[Ea,(r.val k).qj,Option.isSome_map]
 unfold putK storedH;rw[e];by_cases q:(atKey xs k).isSome=true
 .rw[ec q,ec q];exact r.l4 k a
 .rw[bS q,bS q];exact Paired.snoc r ⟨rfl,d,a⟩
theorem KT.keeps(r:Qj2)(a:∀b ys,H b=some Qkf->H' b=some Qkf):KT H' kvs xs:=
 Paired.LF r λ_ _ z=>⟨z.1,a _ _ z.2.1,z.2.2⟩
variable{h:Heap}
noncomputable def RF{u:HO}(ok:QbF)(e:Rd H a u):dD P w H h a u:=e.ok ok
def IJ{kvs:CO}(ok:QbF)(e:Rd H a Qbt):kvs.length<=sizeLine/\Qcb=false/\∃vs,KV kvs vs/\h.DictOf Qc8 a vs:=
 show dD P w H h a Qbt from RF ok e
def RE{kvs:CO}(ok:QbF)(e:Qom):kvs.length<=sizeLine/\Qcb=false/\∃vs,KV kvs vs/\h.DictOf Qc8 a vs:=IJ ok Qfk
def tH{ks:CI}(ok:QbF)(e:H a=some Qo3):(tupleKind Qc8).is h ks a:=by
 obtain⟨_,its,r,o,h1,c,n,b⟩:=(show dD P w H h a Qo3 from ok a _ e);exact⟨o,its.toArray,n,h1,c,b,by simpa using Az r⟩
def wA(ok:QbF)(e:Rd H a Qda):kvs.length<=sizeLine/\Qcb=false ∧
  ∃xs,KT H kvs xs/\h.DictOfH QmN a xs:=by
 obtain⟨z,y,xs,r,o,es,ep,h1,j,i,g,f⟩:=(show dD P w H h a Qda from RF ok e);refine⟨z,y,xs,r,o,es,ep,h1,j,i,g,λx b=>?_,f⟩;have all:∀{l:B0} {m:List Qgd},KT H l m->∀x∈m,(tupleKind Qc8).is h x.1 x.2.1:=by
  intro l m q
  induction q with
  | nil=>intro x b;exact nomatch b
  | @cons p q ps qs c t d=>
   intro x b;obtain e|b:=fF.1 b
   .subst e;exact tH ok (by rw[<- c.1];exact c.2.1)
   .exact d x b
 exact all r x b
def aoY(ok:QbF)(e:H a=some Qda):kvs.length<=sizeLine/\Qcb=false ∧
  ∃xs,KT H kvs xs/\h.DictOfH QmN a xs:=wA ok Qfk
def vX(H:Hp)(a:Addr)(y:V)(r:Qeb):Prop:=
 (∃kvs k,Rd H a Qbt/\y=kV k/\r=jc kvs k)\/∃kvs k b,Rd H a Qda/\y=.ref b/\H b=some Qf6/\r=jc kvs k
def NW(H:Hp)(a:Addr)(y v:V)(H':Hp):Prop:=
 (∃kvs k,H a=some Qbt/\y=kV k/\kvs.length<sizeLine/\H'=upd H a (.dK Qjh)) ∨
 ∃kvs k b,H a=some Qda/\y=.ref b/\H b=some Qf6/\kvs.length<sizeLine/\H'=upd H a (.dT Qjh)
theorem vX.k{kvs:CO}{k:Key}(e:Qom):vX H a (kV k) Qj6:=.inl ⟨kvs,k,.inl e,rfl,rfl⟩
theorem NW.k{kvs:CO}{k:Key}{v:V}(e:Qom)(hl:QuX):NW H a (kV k) v (upd H a (.dK Qjh)):=.inl ⟨kvs,k,e,rfl,hl,rfl⟩
theorem NW.t{b:Addr}{k:CI}{v:V}(e:H a=some Qda)(c:Qol)(hl:QuX) :
  NW H a Qfh v (upd H a (.dT Qjh)):=.inr ⟨kvs,k,b,e,rfl,c,hl,rfl⟩
variable{pins:BC}{Y:St}{s:Qb}{v:V}{r:Value}{o:Qeb}{A:Qaq}{E:BN}
theorem Inv.big(I:QE):sysModules<s.heap.objs.size:=by
 have h:mainGlobals<s.heap.objs.size:=(I.mod.glob.keeps I.bk).lt;exact Nat.lt_trans Wk h
variable{Q:BN}
def XG(m:QgG)(I:QE)(g:vX H a y QaL)(j:QbP)(h:∀c s',Inv X pins Y H s'->RelV v c->Q c s') :
  wpAny Qr A (getItem Qag u) Q E s:=by
 obtain⟨kvs,k,e,f,l⟩|⟨kvs,k,b,e,f,q,l⟩:=g
 .subst f;obtain⟨z,hd,vs,rel,dd⟩:=IJ I.ck e;obtain⟨c,hw,i⟩:=sU.some_of (v:=v) (o:=valueAt vs k) (by rw[l];exact rel.val k);exact wpAny_getItem_of (NT j) dd.mapOf hw (h c _ Qc9 i)
 .subst f;cases (show u=Value.ref b from j);obtain⟨z,hd,xs,rel,dd⟩:=wA I.ck e;obtain⟨c,hw,i⟩:=sU.some_of (v:=v) (o:=(atKey xs k).map (·.2)) (by rw[l];exact rel.val k);obtain⟨p,n,d⟩:=mf.1 hw;refine wpAny_getItem_heap (za m) (tH I.ck q) dd n ?_;rw[d];exact h c _ Qc9 i
def asv(f:QgG)(I:QE)(g:vX H a y o)(d:QbP)(h:∀s',Inv X pins Y H s'->Q (.bool o.isSome) s') :
  wpAny Qr A (compareOp .In u Qag) Q E s:=by
 obtain⟨kvs,k,e,c,l⟩|⟨kvs,k,b,e,c,i,l⟩:=g
 .subst c;obtain⟨z,hd,vs,rel,dd⟩:=IJ I.ck e;refine wpAny_in_of (NT d) hd dd.mapOf ?_;rw[<- (rel.val k).qj,<- l];exact h _ Qc9
 .subst c;cases (show u=Value.ref b from d);obtain⟨z,hd,xs,rel,dd⟩:=wA I.ck e;refine wpAny_in_heap (za f) (tH I.ck i) hd dd ?_;have q:=(rel.val k).qj;rw[Option.isSome_map]at q;rw[<- q,<- l];exact h _ Qc9
def afA(f:QgG)(I:QE)(g:vX H a y o)(d:QbP)(h:∀s',Inv X pins Y H s'->Q (.bool (!o.isSome)) s') :
  wpAny Qr A (compareOp .NotIn u Qag) Q E s:=by
 obtain⟨kvs,k,e,c,l⟩|⟨kvs,k,b,e,c,i,l⟩:=g
 .subst c;obtain⟨z,hd,vs,rel,dd⟩:=IJ I.ck e;refine wpAny_notIn_of (NT d) hd dd.mapOf ?_;rw[<- (rel.val k).qj,<- l];exact h _ Qc9
 .subst c;cases (show u=Value.ref b from d);obtain⟨z,hd,xs,rel,dd⟩:=wA I.ck e;refine wpAny_notIn_heap (za f) (tH I.ck i) hd dd ?_;have q:=(rel.val k).qj;rw[Option.isSome_map]at q;rw[<- q,<- l];exact h _ Qc9
noncomputable def J1{h':Heap}{t':Nat}{c:HO}(I:QE)(d:zr (H a))(hs:Heap.SameBut a s.heap h')(he:∃q,h'.get? a=some q)(new:dD X.prog X.w (upd H a c) h' a c) :
  Inv X pins Y (upd H a c) {s with heap:=h',toks:=t'}:=
 I.write (x:=a) (e:=a) d Qal (λb q f z=>(hs.2 b f).trans z) he new
noncomputable def Zs{h':Heap}{kvs:CO}{vs:QtX}(z:QiD)(hd:Qcb=false)(rel:Qdk)(dd:h'.DictOf Qc8 a vs) :
  dD P w H' h' a Qbt:=⟨z,hd,vs,rel,dd⟩
theorem XH{Q:Qmn}(t:QgG)(I:QE)(g:NW H a y v H')(m:QbP)(n:RelV v r)(h:∀s',Inv X pins Y H' s'->Q () s') :
  wpAny Qr A (setItem Qag u r) Q E s:=by
 obtain⟨kvs,k,e,i,l,j⟩|⟨kvs,k,b,e,i,p,l,j⟩:=g
 .subst i j;obtain⟨z,hd,vs,rel,dd⟩:=RE I.ck e;have hz:vs.length<=sizeLine:=by rw[<- rel.length];exact z
  have hl:(putK kvs k v).length<=sizeLine:=by have:=Cb kvs k v;lia
  refine wpAny_setItem_pairs (hsz:=hz) (NT m) dd λh' d hs=>h _ ?_;have he:∃q,h'.get? a=some q:=let ⟨q,_,_,f,_⟩:=d;⟨q,f⟩;exact J1 I (by rw[e];exact True.intro) hs he (Zs hl hd (rel.put k n) d)
 .subst i j;cases (show u=Value.ref b from m);obtain⟨z,hd,xs,rel,dd⟩:=aoY I.ck e;have hz:xs.length<=sizeLine:=by rw[<- wd rel];exact z
  have hl:(putK kvs k v).length<=sizeLine:=by have:=Cb kvs k v;lia
  refine wpAny_setItem_heap (hsz:=hz) (za t) (tH I.ck p) dd λh' d hs=>h _ ?_;obtain⟨q,es,ep,f,D,C,B,_,x⟩:=d;refine J1 I (by rw[e];exact True.intro) hs ⟨q,f⟩ ⟨hl,hd,_,(rel.put k p n).keeps λc ys o=>?_,q,es,ep,f,D,C,B,x⟩;rw[aq (aok o e (λz=>nomatch z))];exact o
def G7(i:Expr):Prop:=∀a b,subscripted i false a b=operate [a,b] (getItem a b)
def J2{prog:Qah}{env:Env}{value slice:Expr}{pos:Pos}{T id:Qbg}
  (hl:typeLookup Qkd "__getitem__" = pure (some QeH)) (hs:G7 slice)
  (h:wpAny Qad A (eval value env) (λo d=>wpAny Qad A (eval slice env) (λi a=>a.TypeIs o T/\wpAny Qad A (getItem o i) Q E a) E d) E s) :
  wpAny Qad A (eval (.Subscript value slice pos) env) Q E s:=by
 refine Subscript_ (i8 h (λo d f=>i8 f (λi a b=>?_) λ_ _ x=>x) λ_ _ x=>x);obtain⟨g,b⟩:=b;unfold subscriptTail;refine cz ?_;rw[getitemInPython_of_ne g.not_modules];refine cz (u3 g hl ?_);have fin:wpAny Qad A (subscripted slice false o i) (λr c=>wpAny Qad A (letTemporaryGo value o r >>= λ_=>pure r) Q E c) E a:=by
  rw[hs o i];exact wpAny_operating (i8 b (λr c e=>cz (wpAny_letTemporaryGo (hL e))) λ_ _ x=>x)
 first
  | exact hL (cz fin)
  | exact cz (hL (cz fin))
  | exact cz fin
def NX(I:QE)(g:vX H a y o):s.TypeIs Qag "dict":=by
 obtain⟨kvs,k,e,_,_⟩|⟨kvs,k,b,e,_,_,_⟩:=g
 .obtain⟨_,_,vs,_,dd⟩:=IJ I.ck e;exact dd.typeIs
 .obtain⟨_,_,xs,_,dd⟩:=wA I.ck e;exact dd.typeIs
noncomputable def aoZ(td ty:TE):TE:=λY H Q=>td Y H λx H1=>ty Y H1 λy H2=>∃a v,x=.ref a/\vX H2 a y QaL/\Q v H2
noncomputable def asw(ty td:TE):TE:=λY H Q=>ty Y H λy H1=>td Y H1 λx H2=>∃a o,x=.ref a/\vX H2 a y o/\Q (.bl o.isSome) H2
noncomputable def afB(ty td:TE):TE:=λY H Q=>ty Y H λy H1=>td Y H1 λx H2=>∃a o,x=.ref a/\vX H2 a y o/\Q (.bl (!o.isSome)) H2
noncomputable def ao0(td ty tv:TE):TS:=λD Y H=>tv Y H λv H1=>td Y H1 λx H2=>ty Y H2 λy c=>∃a b,x=.ref a/\NW c a y v b/\D.nx Y b
variable{o i value:Expr}{pos pos':Pos}{td ty tv:TE}
def J3(f:Qgw)(j:Qdo)(hi:Qdp)(hs:G7 i):PE X Qgf (aoZ td ty):=by
 intro pins s Y H Q I h;refine J2 ME.lookup hs (dF (j pins s Y H _ I h) λu s1 ⟨x,H1,m,d,q1⟩=>dF (hi pins s1 Y H1 _ m q1) λp s2 zz=>?_);obtain⟨y,H2,b,c,a,v,ex,g,e⟩:=zz;subst ex;obtain rfl:u=Value.ref a:=d;exact⟨NX b g,XG f b g c λn s3 l k=>⟨v,H2,l,k,e⟩⟩
def akP(f:Qgw)(hi:Qdp)(j:Qdo):PC X .In i o (asw ty td):=by
 intro pins s Y H Q I h;refine dF Qii λn s1 ⟨y,H1,m,b,q1⟩=>dF QlZ λu s2 zz=>?_;obtain⟨x,H2,l,c,a,e,ex,g,d⟩:=zz;subst ex;obtain rfl:u=Value.ref a:=c;exact asv f l g b λs3 k=>⟨.bl e.isSome,H2,k,rfl,d⟩
def XI(f:Qgw)(hi:Qdp)(j:Qdo):PC X .NotIn i o (afB ty td):=by
 intro pins s Y H Q I h;refine dF Qii λn s1 ⟨y,H1,m,b,q1⟩=>dF QlZ λu s2 zz=>?_;obtain⟨x,H2,l,c,a,e,ex,g,d⟩:=zz;subst ex;obtain rfl:u=Value.ref a:=c;exact afA f l g b λs3 k=>⟨.bl (!e.isSome),H2,k,rfl,d⟩
def Vp(j:Qgw)(k:Qdo)(hi:Qdp)(hv:Qjx)(hs:Qpm) :
  PS X Qqw (ao0 td ty tv):=by
 intro pins s Y H D I h;refine wpAny_Assign_Subscript (dF Qmk λr s1 ⟨v,H1,p,d,q1⟩=>dF (k pins s1 Y H1 _ p q1) λu s2 ⟨x,H2,n,c,f⟩=>dF (hi pins s2 Y H2 _ n f) λt s3 zz=>?_) hs;obtain⟨y,w,m,b,a,q,ex,g,e⟩:=zz;subst ex;obtain rfl:u=Value.ref a:=c;exact XH j m g b d λs4 l=>⟨Y,q,l,e⟩
noncomputable def aaU(h:Heap)(a:Qml):dD P w H (h.push {cls:=.type "dict",data:=.dict #[]}) h.objs.size (.dK []):=
 ⟨hY _,oy.2 Qou,[],.nil,Heap.DictOf.new h⟩
noncomputable def aaV(h:Heap)(a:Qml):dD P w H (h.push {cls:=.type "dict",data:=.dict #[]}) h.objs.size (.dT []):=
 ⟨hY _,oy.2 Qou,[],.nil,_,#[],0,jj _ rfl,⟨rfl,rfl,rfl⟩,rfl,rfl,lr⟩
def akQ:TE:=λ_ H Q=>∀p,H p=none->Q Qbl QiK
def akR:TE:=λ_ H Q=>∀p,H p=none->Q Qbl QiL
def aaW:PE X QeI akQ:=λpins s Y H Q I h=>
 wpAny_Dict_empty ⟨.ref s.heap.objs.size,_,I.laid (a:=s.heap.objs.size) (o:=.dK []) (t':=s.toks) Qiu (hI _) (aaU s.heap I.big),rfl,h _ Qcw⟩
def aaX:PE X QeI akR:=λpins s Y H Q I h=>
 wpAny_Dict_empty ⟨.ref s.heap.objs.size,_,I.laid (a:=s.heap.objs.size) (o:=.dT []) (t':=s.toks) Qiu (hI _) (aaV s.heap I.big),rfl,h _ Qcw⟩
variable{kvs:CO}
def aaY(I:QE)(e:Rd H a Qbt)(h:∀p s',H p=none->Inv X pins Y (upd H p Qbt) s'->Q Qbl s'):wpAny Qr A (call Qny [.ref a]) Q E s:=by
 obtain⟨z,hd,vs,rel,dd⟩:=IJ I.ck e;refine kt_call_dict hd dd (by rw[<- rel.length];exact z) λh' c hs=>?_;refine h _ _ Qcw (I.laid (a:=s.heap.objs.size) (o:=.dK kvs) (t':=s.toks) (λb q d=>?_) (hI _) (Zs z (oy.2 (la (i2 I.big))) rel c));exact(hs.2 b (i2 (h9 d))).trans (ia _ d)
end L2
namespace L3
open PySem PySem.Spec PyProof.Rows L2
inductive D where
 | non|bl (b:Bool)|int (i:Int)|str (x:Str)
 | tup (ds:List D)|lst (ds:List D)|ins (c:Str) (fs:List (Str×D))|iC (kvs:List Qj0)
 | dct (kvs:List (CI×D))
 | any
 | val (v:V)
 | jN (w:World) (ds es:List D)
abbrev _root_.BB:=List D
abbrev _root_.CS:=List (Key×D)
inductive T where
 | sh (d:D)|tup (ts:List T)|lst (ts:List T)|ins (c:Str) (fs:List (Str×T))|iC (kvs:CS)|dct (kvs:List (CI×T))
 | pin (x:Addr) (t:T)
 | jN (w:World) (ds es:BB)
abbrev _root_.BS:=List (Str×T)
abbrev _root_.Bn:=List T
abbrev _root_.CC:=List (CI×T)
abbrev _root_.EM:=List (CI×D)
abbrev _root_.EQ:=List (Str×D)
mutual
def T.bU:T->D
 | .sh d=>d
 | .tup ts=>.tup (dz ts)
 | .lst ts=>.lst (dz ts)
 | .ins c fs=>.ins c (sW fs)
 | .iC kvs=>.iC kvs
 | .dct kvs=>.dct (XJ kvs)
 | .pin _ t=>t.bU
 | .jN w ds es=>.jN w ds es
def T.dz:Bn->BB
 | []=>[]
 | t::ts=>t.bU::T.dz ts
def T.sW:BS->EQ
 | []=>[]
 | (x,t)::fs=>(x,t.bU)::T.sW fs
def T.XJ:CC->EM
 | []=>[]
 | (x,t)::fs=>(x,t.bU)::T.XJ fs
end
mutual
def D.xr(w:World):D->Int
 | .int i=>hashInt i
 | .str x => hashStr w x
 | .tup ds=>reduceHash (Builtin.Tuple.tupleHashOf (D.J4 w ds))
 | _=>0
def D.J4(w:World):BB->AT
 | []=>[]
 | d::ds=>d.xr w::D.J4 w ds
end
abbrev _root_.ES:=List (D×Addr×Value)
def J5(w:World)(a:Addr)(ds:BB)(vs us:B1)(h:Heap):Prop:=
 Qcb=false/\∃(xs:ES) (o:Obj) (es:QfC) (ep:Nat),h.get? a=some o/\o.ExactDict/\o.data=.dict es ep/\es.toList=xs.map (λx=>⟨x.1.xr w,.ref x.2.1,x.2.2⟩)/\xs.map (·.1)=ds/\xs.map Qmc=vs/\Vals us Qib
abbrev _root_.BM:=Str->Addr
variable(K:Frag)(CL:BM)
mutual
inductive bC(Z:Hp):D->V->Prop where
 | non:bC Z .non .non
 | bl (b:Bool):bC Z Qd5 Qd5
 | int (i:Int):bC Z Qbr Qbr
 | str (x:Str):bC Z Qa4 Qa4
 | any (v:V):bC Z .any v
 | val (v:V):bC Z Qfl v
 | tup {a:Addr} {vs:B1} {ds:BB}:qh K Z a vs->av Z ds vs->bC Z QcW Qag
 | lst {a:Addr} {vs:B1} {ds:BB}:lQ K Z a vs->av Z ds vs->bC Z QbX Qag
 | ins {a dx:Addr} {c:Str} {gs:Bz} {fs:EQ}:Z a=some QeC->jt Z fs gs->bC Z Qa3 Qag
 | iC {a:Addr} {gs:CO} {fs:CS}:Z a=some (.dK gs)->bP Z fs gs->bC Z (.iC fs) Qag
 | dct {a:Addr} {gs:B0} {fs:EM}:Rd Z a Qam->dN Z fs gs->bC Z (.dct fs) Qag
 | jN {a:Addr} {w:World} {vs us:B1} {ds es:BB}:Z a=some QlS->av Z ds vs->av Z es us->bC Z QgK Qag
inductive av(Z:Hp):BB->B1->Prop where
 | nil:av Z [] []
 | cons {d:D} {v:V} {ds:BB} {vs:B1}:bC Z d v->av Z ds vs->av Z (d::ds) QaT
inductive jt(Z:Hp):EQ->Bz->Prop where
 | nil:jt Z [] []
 | cons {x:Str} {d:D} {v:V} {ds:EQ} {vs:Bz}:bC Z d v->jt Z ds vs->jt Z ((x,d)::ds) ((x,v)::vs)
inductive bP(Z:Hp):CS->CO->Prop where
 | nil:bP Z [] []
 | cons {x:Key} {d:D} {v:V} {ds:CS} {vs:CO}:bC Z d v->bP Z ds vs->bP Z ((x,d)::ds) ((x,v)::vs)
inductive dN(Z:Hp):EM->B0->Prop where
 | nil:dN Z [] []
 | cons {x:CI} {d:D} {v:V} {ds:EM} {vs:B0}:bC Z d v->dN Z ds vs->dN Z ((x,d)::ds) ((x,v)::vs)
end
mutual
inductive bw(H Z:Hp):T->V->BY->Prop where
 | sh {d:D} {v:V}:bC K CL Z d v->bw H Z QaR v []
 | tup {a:Addr} {vs:B1} {ts:Bn} {fp:BY}:Z a=some (.tup vs)->aN H Z ts vs fp->bw H Z (.tup ts) Qag fp
 | lst {a:Addr} {vs:B1} {ts:Bn} {fp:BY}:H a=some (.lst vs)->aN H Z ts vs fp->bw H Z (.lst ts) Qag (a::fp)
 | ins {a dx:Addr} {c:Str} {gs:Bz} {fs:BS} {fp:BY}:H a=some QeC->cJ H Z fs gs fp->bw H Z Qa3 Qag (a::fp)
 | iC {a:Addr} {gs:CO} {kvs:CS}:H a=some (.dK gs)->bP K CL Z kvs gs->bw H Z Qc7 Qag [a]
 | dct {a:Addr} {gs:B0} {kvs:CC} {fp:BY}:H a=some Qam->cy H Z kvs gs fp->bw H Z QgH Qag (a::fp)
 | pin {x:Addr} {t:T} {fp:BY}:bw H Z t Qdd fp->bw H Z (.pin x t) Qdd fp
 | jN {a:Addr} {w:World} {vs us:B1} {ds es:BB}:H a=some QlS->av K CL Z ds vs->av K CL Z es us->bw H Z QgK Qag [a]
inductive aN(H Z:Hp):Bn->B1->BY->Prop where
 | nil:aN H Z [] [] []
 | cons {t:T} {v:V} {ts:Bn} {vs:B1} {fp gp:BY}:bw H Z t v fp->aN H Z ts vs gp->aN H Z Qb4 QaT Qd2
inductive cJ(H Z:Hp):BS->Bz->BY->Prop where
 | nil:cJ H Z [] [] []
 | cons {x:Str} {t:T} {v:V} {ts:BS} {vs:Bz} {fp gp:BY}:bw H Z t v fp->cJ H Z ts vs gp->cJ H Z ((x,t)::ts) ((x,v)::vs) Qd2
inductive cy(H Z:Hp):CC->B0->BY->Prop where
 | nil:cy H Z [] [] []
 | cons {x:CI} {t:T} {v:V} {ts:CC} {vs:B0} {fp gp:BY}:bw H Z t v fp->cy H Z ts vs gp->cy H Z ((x,t)::ts) ((x,v)::vs) Qd2
end
abbrev _root_.FC:=Option T
abbrev _root_.BA:=List FC
inductive e9(H Z:Hp):BA->L2.St->BY->Prop where
 | nil:e9 H Z [] [] []
 | skip {o:Qeb} {U:BA} {Y:L2.St} {fp:BY}:e9 H Z U Y fp->e9 H Z (none::U) (o::Y) fp
 | cons {t:T} {v:V} {U:BA} {Y:L2.St} {fp gp:BY}:bw K CL H Z t v fp->e9 H Z U Y gp->e9 H Z (some t::U) (some v::Y) Qd2
variable{K:Frag}{CL:BM}{H H':Hp}{a:Addr}
theorem Rd.mono{u:HO}(e:QcM)(h:Rd H a u):Rd H' a u:=h.imp (e _ _) λ⟨o,q⟩=>⟨o,e _ _ q⟩
variable{xs:B1}
theorem ay.Dn(e:QcM)(h:qh K H a xs):qh K H' a xs:=by
 rcases h with(h|⟨o,h⟩)|h
 .exact .inl (.inl QdC)
 .exact .inl QsI
 .exact .inr h
variable{Z Z':Hp}{v:V}
theorem bC.mono(e:QbR){d:D}(h:QcN):bC K CL Z' d v:=
 bC.rec
  .non .bl .int .str .any .val QfS QfU Qf9 Qga QfQ Qf8 .nil Qai .nil Qai .nil Qai .nil Qai h
theorem av.mono(e:QbR){d:BB}{v:B1}(h:Qon):av K CL Z' d v:=
 av.rec
  .non .bl .int .str .any .val QfS QfU Qf9 Qga QfQ Qf8 .nil Qai .nil Qai .nil Qai .nil Qai h
theorem jt.mono(e:QbR){d:EQ}{v:Bz}(h:jt K CL Z d v):jt K CL Z' d v:=
 jt.rec
  .non .bl .int .str .any .val QfS QfU Qf9 Qga QfQ Qf8 .nil Qai .nil Qai .nil Qai .nil Qai h
theorem bP.mono(e:QbR){d:CS}{v:CO}(h:bP K CL Z d v):bP K CL Z' d v:=
 bP.rec
  .non .bl .int .str .any .val QfS QfU Qf9 Qga QfQ Qf8 .nil Qai .nil Qai .nil Qai .nil Qai h
theorem dN.mono(e:QbR){d:EM}{v:B0}(h:dN K CL Z d v):dN K CL Z' d v:=
 dN.rec (motive_1:=λd v _=>bC K CL Z' d v) (motive_2:=λd v _=>av K CL Z' d v) (motive_3:=λd v _=>jt K CL Z' d v) (motive_4:=λd v _=>bP K CL Z' d v) (motive_5:=λd v _=>dN K CL Z' d v)
  .non .bl .int .str .any .val QfS QfU Qf9 Qga QfQ Qf8 .nil Qai .nil Qai .nil Qai .nil Qai h
variable{t:T}{fp:BY}
theorem bw.mono(e:QbR)(k:∀a∈fp,H' a=H a)(h:QfD):bw K CL H' Z' t v fp:=
 bw.rec (motive_2:=λt v fp _=>(∀a∈fp,H' a=H a)->aN K CL H' Z' t v fp) (motive_3:=λt v fp _=>(∀a∈fp,H' a=H a)->cJ K CL H' Z' t v fp) (motive_4:=λt v fp _=>(∀a∈fp,H' a=H a)->cy K CL H' Z' t v fp)
  (λh _=>.sh Qj3) QhR Qem Qen Qhu Qeo Qeu Qhr QaB QaX QaB QaX QaB QaX h k
theorem aN.mono(e:QbR){t:Bn}{v:B1}(k:∀a∈fp,H' a=H a)(h:Qm7):aN K CL H' Z' t v fp:=
 aN.rec (motive_1:=λt v fp _=>(∀a∈fp,H' a=H a)->bw K CL H' Z' t v fp) (motive_3:=λt v fp _=>(∀a∈fp,H' a=H a)->cJ K CL H' Z' t v fp) (motive_4:=λt v fp _=>(∀a∈fp,H' a=H a)->cy K CL H' Z' t v fp)
  (λh _=>.sh Qj3) QhR Qem Qen Qhu Qeo Qeu Qhr QaB QaX QaB QaX QaB QaX h k
theorem cJ.mono(e:QbR){t:BS}{v:Bz}(k:∀a∈fp,H' a=H a)(h:cJ K CL H Z t v fp):cJ K CL H' Z' t v fp:=
 cJ.rec (motive_1:=λt v fp _=>(∀a∈fp,H' a=H a)->bw K CL H' Z' t v fp) (motive_2:=λt v fp _=>(∀a∈fp,H' a=H a)->aN K CL H' Z' t v fp) (motive_4:=λt v fp _=>(∀a∈fp,H' a=H a)->cy K CL H' Z' t v fp)
  (λh _=>.sh Qj3) QhR Qem Qen Qhu Qeo Qeu Qhr QaB QaX QaB QaX QaB QaX h k
theorem cy.mono(e:QbR){t:CC}{v:B0}(k:∀a∈fp,H' a=H a)(h:cy K CL H Z t v fp):cy K CL H' Z' t v fp:=
 cy.rec (motive_1:=λt v fp _=>(∀a∈fp,H' a=H a)->bw K CL H' Z' t v fp) (motive_2:=λt v fp _=>(∀a∈fp,H' a=H a)->aN K CL H' Z' t v fp) (motive_3:=λt v fp _=>(∀a∈fp,H' a=H a)->cJ K CL H' Z' t v fp)
  (λh _=>.sh Qj3) QhR Qem Qen Qhu Qeo Qeu Qhr QaB QaX QaB QaX QaB QaX h k
theorem bw.there(h:QfD):∀a∈fp,∃o,H a=some o:=
 bw.rec (motive_3:=λt v fp _=>∀a∈fp,∃o,H a=some o) (motive_4:=λt v fp _=>∀a∈fp,∃o,H a=some o)
  (λ_ a b=>absurd b iu) Qi5 (λh _ r a b=>(fF.1 b).elim (λq=>⟨_,q▸h⟩) (r a)) (λh _ r a b=>(fF.1 b).elim (λq=>⟨_,q▸h⟩) (r a)) (λh _ a b=>(fF.1 b).elim (λq=>⟨_,q▸h⟩) QcV) (λh _ r a b=>(fF.1 b).elim (λq=>⟨_,q▸h⟩) (r a)) Qji (λh _ _ a b=>(fF.1 b).elim (λq=>⟨_,q▸h⟩) QcV) QbK QbH QbK QbH QbK QbH h
theorem aN.there{t:Bn}{v:B1}(h:Qm7):∀a∈fp,∃o,H a=some o:=
 aN.rec (motive_1:=λt v fp _=>∀a∈fp,∃o,H a=some o) (motive_3:=λt v fp _=>∀a∈fp,∃o,H a=some o) (motive_4:=λt v fp _=>∀a∈fp,∃o,H a=some o)
  (λ_ a b=>absurd b iu) Qi5 (λh _ r a b=>(fF.1 b).elim (λq=>⟨_,q▸h⟩) (r a)) (λh _ r a b=>(fF.1 b).elim (λq=>⟨_,q▸h⟩) (r a)) (λh _ a b=>(fF.1 b).elim (λq=>⟨_,q▸h⟩) QcV) (λh _ r a b=>(fF.1 b).elim (λq=>⟨_,q▸h⟩) (r a)) Qji (λh _ _ a b=>(fF.1 b).elim (λq=>⟨_,q▸h⟩) QcV) QbK QbH QbK QbH QbK QbH h
theorem cJ.there{t:BS}{v:Bz}(h:cJ K CL H Z t v fp):∀a∈fp,∃o,H a=some o:=
 cJ.rec (motive_1:=λt v fp _=>∀a∈fp,∃o,H a=some o) (motive_2:=λt v fp _=>∀a∈fp,∃o,H a=some o) (motive_3:=λt v fp _=>∀a∈fp,∃o,H a=some o) (motive_4:=λt v fp _=>∀a∈fp,∃o,H a=some o)
  (λ_ a b=>absurd b iu) Qi5 (λh _ r a b=>(fF.1 b).elim (λq=>⟨_,q▸h⟩) (r a)) (λh _ r a b=>(fF.1 b).elim (λq=>⟨_,q▸h⟩) (r a)) (λh _ a b=>(fF.1 b).elim (λq=>⟨_,q▸h⟩) QcV) (λh _ r a b=>(fF.1 b).elim (λq=>⟨_,q▸h⟩) (r a)) Qji (λh _ _ a b=>(fF.1 b).elim (λq=>⟨_,q▸h⟩) QcV) QbK QbH QbK QbH QbK QbH h
theorem cy.there{t:CC}{v:B0}(h:cy K CL H Z t v fp):∀a∈fp,∃o,H a=some o:=
 cy.rec (motive_1:=λt v fp _=>∀a∈fp,∃o,H a=some o) (motive_2:=λt v fp _=>∀a∈fp,∃o,H a=some o) (motive_3:=λt v fp _=>∀a∈fp,∃o,H a=some o) (motive_4:=λt v fp _=>∀a∈fp,∃o,H a=some o)
  (λ_ a b=>absurd b iu) Qi5 (λh _ r a b=>(fF.1 b).elim (λq=>⟨_,q▸h⟩) (r a)) (λh _ r a b=>(fF.1 b).elim (λq=>⟨_,q▸h⟩) (r a)) (λh _ a b=>(fF.1 b).elim (λq=>⟨_,q▸h⟩) QcV) (λh _ r a b=>(fF.1 b).elim (λq=>⟨_,q▸h⟩) (r a)) Qji (λh _ _ a b=>(fF.1 b).elim (λq=>⟨_,q▸h⟩) QcV) QbK QbH QbK QbH QbK QbH h
theorem bw.bU(e:QbR)(k:∀a∈fp,Z' a=H a)(h:QfD):bC K CL Z' t.bU v:=
 bw.rec (motive_2:=λt v fp _=>(∀a∈fp,Z' a=H a)->av K CL Z' _ v) (motive_3:=λt v fp _=>(∀a∈fp,Z' a=H a)->jt K CL Z' _ v) (motive_4:=λt v fp _=>(∀a∈fp,Z' a=H a)->dN K CL Z' _ v)
  (λh _=>by exact h.mono e) (λh _ r k=>by exact .tup (qh.of QdC) (r k)) (λh _ r k=>by exact .lst (lQ.of ((k _ gF).trans h)) Qeg) (λh _ r k=>by exact .ins ((k _ gF).trans h) Qeg) (λh f k=>by exact .iC ((k _ gF).trans h) (bP.mono e f)) (λh _ r k=>by exact .dct (.inl ((k _ gF).trans h)) Qeg) (λ_ r k=>by rw[T.bU];exact r k) (λh f g k=>by exact .jN ((k _ gF).trans h) (av.mono e f) (av.mono e g)) (λ_=>by exact .nil) (λ_ _ h r k=>by rw[T.dz];exact .cons QlJ QlK) (λ_=>by rw[T.sW];exact .nil) (λ_ _ h r k=>by exact .cons QlJ QlK) (λ_=>by exact .nil) (λ_ _ h r k=>by rw[T.XJ];exact .cons QlJ QlK) h k
variable{vs:B1}
theorem av.ind{P:BB->B1->Prop}(n:P [] [])(c:∀{d:D} {v:V} {ds:BB} {vs:B1},bC K CL Z d v->av K CL Z ds vs->P ds vs->P (d::ds) QaT){ds:BB}(h:QfE):P ds vs:=
 av.rec (motive_1:=λ_ _ _=>True) (motive_3:=λ_ _ _=>True) (motive_4:=λ_ _ _=>True) (motive_5:=λ_ _ _=>True)
  trivial Qbi Qbi Qbi Qbi Qbi Qak Qak Qak Qak Qak Qh0 n Qew trivial Qas trivial Qas trivial Qas h
theorem bP.ind{P:CS->CO->Prop}(n:P [] [])(c:∀{x:Key} {d:D} {v:V} {ds:CS} {vs:CO},bC K CL Z d v->bP K CL Z ds vs->P ds vs->P ((x,d)::ds) ((x,v)::vs)){ds:CS}{vs:CO}(h:bP K CL Z ds vs):P ds vs:=
 bP.rec (motive_1:=λ_ _ _=>True) (motive_2:=λ_ _ _=>True) (motive_3:=λ_ _ _=>True) (motive_5:=λ_ _ _=>True)
  trivial Qbi Qbi Qbi Qbi Qbi Qak Qak Qak Qak Qak Qh0 trivial Qas trivial Qas n Qew trivial Qas h
theorem dN.ind{P:EM->B0->Prop}(n:P [] [])(c:∀{x:CI} {d:D} {v:V} {ds:EM} {vs:B0},bC K CL Z d v->dN K CL Z ds vs->P ds vs->P ((x,d)::ds) ((x,v)::vs)){ds:EM}{vs:B0}(h:dN K CL Z ds vs):P ds vs:=
 dN.rec (motive_1:=λ_ _ _=>True) (motive_2:=λ_ _ _=>True) (motive_3:=λ_ _ _=>True) (motive_4:=λ_ _ _=>True) (motive_5:=λd v _=>P d v)
  trivial Qbi Qbi Qbi Qbi Qbi Qak Qak Qak Qak Qak Qh0 trivial Qas trivial Qas trivial Qas n Qew h
variable{ts:Bn}
theorem aN.ind{P:Bn->B1->BY->Prop}(n:P [] [] [])(c:∀{t:T} {v:V} {ts:Bn} {vs:B1} {fp gp:BY},bw K CL H Z t v fp->aN K CL H Z ts vs gp->P ts vs gp->P Qb4 QaT Qd2)(h:aN K CL H Z ts vs fp):P ts vs fp:=
 aN.rec (motive_1:=λ_ _ _ _=>True) (motive_3:=λ_ _ _ _=>True) (motive_4:=λ_ _ _ _=>True)
  (λ_=>trivial) Qak Qak Qak QcX Qak QcX Qak n Qew trivial Qas trivial Qas h
theorem cJ.ind{P:BS->Bz->BY->Prop}(n:P [] [] [])(c:∀{x:Str} {t:T} {v:V} {ts:BS} {vs:Bz} {fp gp:BY},bw K CL H Z t v fp->cJ K CL H Z ts vs gp->P ts vs gp->P ((x,t)::ts) ((x,v)::vs) Qd2){ts:BS}{vs:Bz}(h:cJ K CL H Z ts vs fp):P ts vs fp:=
 cJ.rec (motive_1:=λ_ _ _ _=>True) (motive_2:=λ_ _ _ _=>True) (motive_4:=λ_ _ _ _=>True)
  (λ_=>trivial) Qak Qak Qak QcX Qak QcX Qak trivial Qas n Qew trivial Qas h
theorem cy.ind{P:CC->B0->BY->Prop}(n:P [] [] [])(c:∀{x:CI} {t:T} {v:V} {ts:CC} {vs:B0} {fp gp:BY},bw K CL H Z t v fp->cy K CL H Z ts vs gp->P ts vs gp->P ((x,t)::ts) ((x,v)::vs) Qd2){ts:CC}{vs:B0}(h:cy K CL H Z ts vs fp):P ts vs fp:=
 cy.rec (motive_1:=λ_ _ _ _=>True) (motive_2:=λ_ _ _ _=>True) (motive_3:=λ_ _ _ _=>True)
  (λ_=>trivial) Qak Qak Qak QcX Qak QcX Qak trivial Qas trivial Qas n Qew h
theorem av.length{d:BB}{v:B1}(h:Qon):d.length=v.length:=
 av.ind (P:=λd v=>d.length=v.length) rfl QhZ h
theorem aN.length{d:Bn}{v:B1}(h:aN K CL H Z d v fp):d.length=v.length:=
 aN.ind (P:=λd v _=>d.length=v.length) rfl QhZ h
theorem e9.length{d:BA}{v:L2.St}(h:e9 K CL H Z d v fp):d.length=v.length:=by
 induction h with
 | nil=>rfl
 | skip _ i=>exact congrArg (· + 1) i
 | cons _ _ i=>exact congrArg (· + 1) i
theorem av.get{Z:Hp}:∀{ds:BB} {vs:B1} {i:Nat} {d:D},av K CL Z ds vs->ds[i]? = some d->∃v,vs[i]? = some v/\bC K CL Z d v
 | _,_,_,_,.nil,e=>by simp at e
 | _,_,0,_,.cons r _,e=>by simp_all
 | _,_,i+1,d,.cons _ t,e=>by
  obtain⟨u,h1,a⟩:=av.get t (‹_›);exact⟨u,‹_›,a⟩
theorem av.XM{Z:Hp}:∀{ds:BB} {vs:B1} {i:Nat} {v:V},av K CL Z ds vs->vs[i]? = some v->∃d,ds[i]? = some d/\bC K CL Z d v
 | _,_,_,_,.nil,e=>by simp at e
 | _,_,0,_,.cons r _,e=>by simp_all
 | _,_,i+1,d,.cons _ t,e=>by
  obtain⟨u,h1,a⟩:=av.XM t (‹_›);simp_all
theorem e9.get:∀{U:BA} {Y:L2.St} {fp:BY} {i:Nat} {t:T},e9 K CL H Z U Y fp->U[i]? = some QaM →
  ∃v f1 f2 c,Y[i]? = some QaL/\fp=f1++Qhf/\bw K CL H Z t v f2 ∧
   (∀{H' Z':Hp} {t':T} {v':V} {g:BY},ay Z Z'->(∀a∈f1++c,H' a=H a)->bw K CL H' Z' t' v' g->e9 K CL H' Z' (U.set i (some t')) (Y.set i (some v')) QjJ) ∧
   (∀{o:Qeb},e9 K CL H Z QdL (Y.set i o) (f1++c)):=by
 intro U Y fp i t h;have mono:∀{H H' Z Z':Hp} {U:BA} {Y:L2.St} {fp:BY},ay Z Z'->(∀a∈fp,H' a=H a)->e9 K CL H Z U Y fp->e9 K CL H' Z' U Y fp:=by
  intro H H' Z Z' U Y fp e k r
  induction r with
  | nil=>exact .nil
  | skip _ d=>exact .skip (d k)
  | cons r _ d=>exact .cons (r.mono e λa b=>k a (hZ _ b)) (d λa b=>k a (hV _ b))
 induction h generalizing i with
 | nil=>intro e;simp at e
 | @skip o U Y fp r d=>
  cases i with
  | zero=>intro e;simp at e
  | succ i=>
   intro e;obtain⟨v,f1,f2,c,h1,n,m,l,j⟩:=d (i:=i) (by simpa using e);exact⟨v,f1,f2,c,by simpa using h1,n,m,λe k q=>.skip (l e k q),.skip j⟩
 | @cons t0 v0 U Y fp gp f r d=>
  cases i with
  | zero=>
   intro e;simp at e;subst e;refine⟨v0,[],fp,gp,rfl,rfl,f,λ{H' Z' t' v' g} e k q=>e9.cons (fp:=g) (gp:=gp) q (mono (fp:=gp) e (λa b=>k a (by simpa using b)) r),.skip (by simpa using r)⟩
  | succ i=>
   intro e;obtain⟨v,f1,f2,c,h1,n,m,l,j⟩:=d (i:=i) (by simpa using e);refine⟨v,fp++f1,f2,c,by simpa using h1,by rw[n,List.append_assoc],m,λ{H' Z' t' v' g} e k q=>?_,λ{o}=>?_⟩
   .rw[h5];exact .cons (f.mono e λa b=>k a (by simp[b])) (l e (λa b=>k a (by rw[h5];exact hV _ b)) q)
   .rw[h5];exact .cons f j
variable{U:BA}{Y:L2.St}
theorem e9.mono(e:QbR)(k:∀a∈fp,H' a=H a)(r:QiP):e9 K CL H' Z' U Y fp:=by
 induction r with
 | nil=>exact .nil
 | skip _ b=>exact .skip (b k)
 | cons r _ b=>exact .cons (r.mono e λa c=>k a QkA) Qr3
theorem e9.there(r:QiP):∀a∈fp,∃o,H a=some o:=by
 induction r with
 | nil=>intro a c;cases c
 | skip _ b=>exact b
 | cons r _ b=>exactλa c=>(hG.1 c).elim (r.there a) (b a)
theorem e9.put(r:QiP){g:BY}(q:bw K CL H Z t v g) :
  ∀{i:Nat},i<U.length->∃f,e9 K CL H Z Qng QeL f/\∃a,a.Sublist fp/\f.Perm (g++a):=by
 induction r with
 | nil=>intro i hi;simp at hi
 | @skip o U Y fp r b=>
  intro i hi;cases i with
  | zero=>exact⟨ _,.cons q r,fp,mx _,List.Perm.refl _⟩
  | succ i=>
   obtain⟨f,h1,a,d,c⟩:=b (by simpa using hi);exact⟨f,.skip h1,a,d,c⟩
 | @cons t0 v0 U Y fp gp e r b=>
  intro i hi;cases i with
  | zero=>exact⟨ _,.cons q r,gp,wu _ _,List.Perm.refl _⟩
  | succ i=>
   obtain⟨f,h1,a,d,c⟩:=b (by simpa using hi);refine⟨ _,.cons e h1,_,ox (mx _) d,?_⟩;refine(o9 fp c).trans ?_;rw[<- h5,<- h5];exact List.Perm.append_right a l8
theorem bC.gR{ds:BB}(h:bC K CL Z QbX v):∃a vs,v=.ref a/\lQ K Z a vs/\av K CL Z ds vs:=by cases h with|lst p q=>exact⟨_,_,rfl,p,q⟩
theorem bC.lS{ds:BB}(h:bC K CL Z QcW v):∃a vs,v=.ref a/\qh K Z a vs/\av K CL Z ds vs:=by cases h with|tup p q=>exact⟨_,_,rfl,p,q⟩
variable{c:Str}
theorem bC.Eb{fs:EQ}(h:bC K CL Z Qa3 v):∃a dx gs,v=.ref a/\Z a=some QeC/\jt K CL Z fs gs:=by cases h with|ins p q=>exact⟨_,_,_,rfl,p,q⟩
theorem bw.GX{d:D}(h:bw K CL H Z QaR v fp):fp=[]/\bC K CL Z d v:=by cases h with|sh r=>exact⟨rfl,r⟩
theorem bw.gR(h:bw K CL H Z (.lst ts) v fp):∃a vs g,v=.ref a/\fp=a::g/\H a=some (.lst vs)/\aN K CL H Z ts vs g:=by cases h with|lst p q=>exact⟨_,_,_,rfl,rfl,p,q⟩
theorem bw.lS(h:bw K CL H Z (.tup ts) v fp):∃a vs,v=.ref a/\Z a=some (.tup vs)/\aN K CL H Z ts vs fp:=by cases h with|tup p q=>exact⟨_,_,rfl,p,q⟩
variable{fs:BS}
theorem bw.Eb(h:bw K CL H Z Qa3 v fp):∃a dx gs g,v=.ref a/\fp=a::g/\H a=some QeC/\cJ K CL H Z fs gs g:=by cases h with|ins p q=>exact⟨_,_,_,_,rfl,rfl,p,q⟩
theorem bw.RC{y:Addr}(h:bw K CL H Z (.pin y t) v fp):v=.ref y/\bw K CL H Z t (.ref y) fp:=by cases h with|pin r=>exact⟨rfl,r⟩
noncomputable def sX(X:Cx)(e:Expr):TE:=λY H Q=>∀(pins:BC) (s:Qb),Inv X pins Y H s->wpAny Qr X.A QdH Qbe X.xe s
noncomputable def yl(X:Cx)(e:Expr):TT:=λY H Q=>∀(pins:BC) (s:Qb),Inv X pins Y H s->wpAny Qr X.A QsF QeP X.xe s
noncomputable def G8(X:Cx)(es:Cl):TA:=λY H Q=>∀(pos:Pos) (pins:BC) (s:Qb),Inv X pins Y H s->wpAny Qr X.A Qp8 Qnw X.xe s
noncomputable def XO(X:Cx)(st:Stmt):TS:=λD Y H=>∀(pins:BC) (s:Qb),Inv X pins Y H s->wpAny Qr X.A (exec st X.env) Qjn X.xe s
noncomputable def GJ(X:Cx)(st:CA):TS:=λD Y H=>∀(pins:BC) (s:Qb),Inv X pins Y H s->wpAny Qr X.A Qnf Qjn X.xe s
variable{X:Cx}{e:Expr}
noncomputable def cA:PE X e (sX X e):=λpins s _ _ _ I h=>h pins s I
noncomputable def q0:PT X e (yl X e):=λpins s _ _ _ I h=>h pins s I
noncomputable def J6{e:Cl}:PA X e (G8 X e):=λpos pins s _ _ _ I h=>h pos pins s I
noncomputable def NN{e:Stmt}:PS X e (XO X e):=λpins s _ _ _ I h=>h pins s I
noncomputable def XQ{e:CA}:Ri X e (GJ X e):=λpins s _ _ _ I h=>h pins s I
noncomputable def bY{t:TE}(h:PE X e t){Q:VK}(q:t Y H Q):sX X e Y H Q:=λpins s I=>h pins s Y H Q I q
variable{Q:EN}
noncomputable def y9{t:TT}(h:PT X e t)(q:t Y H Q):yl X e Y H Q:=λpins s I=>h pins s Y H Q I q
noncomputable def RD{e:Cl}{t:TA}(h:PA X e t){Q:EO}(q:t Y H Q):G8 X e Y H Q:=λpos pins s I=>h pos pins s Y H Q I q
noncomputable def mZ{e:Stmt}{t:TS}(h:PS X e t){D:Ends}(q:t D Y H):XO X e D Y H:=λpins s I=>h pins s Y H D I q
noncomputable def Ll{e:CA}{t:TS}(h:Ri X e t){D:Ends}(q:t D Y H):GJ X e D Y H:=λpins s I=>h pins s Y H D I q
noncomputable def notStar:Expr->Bool
 | .Starred _ _=>false
 | _=>true
variable{es:Cl}{env:Env}
def bz(h:Qoo):starEach Qav env=(false,eval e env)::starEach es env:=by
 cases e<;>first|rfl|(cases h)
structure Bx where
 B:Hp
 Z:Hp
def jd:HO->Bool
 | .tup _=>true
 | .bU _ _=>true
 | _=>false
noncomputable def IK(x:Str):Bool:=x.cps[0]? == some 35
noncomputable def NZ(x:Str):Str:=⟨x.cps.extract 1 x.cps.size⟩
def m5(CL:BM)(Z:Hp):Prop:=∀x,IK x=true->CL x≠0->Z (CL x)=some (.tabs (NZ x))
structure aV(K:Frag)(CL:BM)(b:Bx)(H Z:Hp)(U:BA)(Y:L2.St)(ts:Bn)(vs:B1):Prop where
 rep:∃fp gp,e9 K CL H Z U Y fp/\aN K CL H Z ts vs gp/\(fp++gp).Nodup/\∀a∈fp++gp,Z a=none/\b.B a=none
 bh:ay b.B H
 zz:ay b.Z Z
 zh:ay Z H
 new:∀a o,Z a=some o->b.Z a=none->b.B a=none
 tp:∀a o,H a=some o->jd o=true->Z a=some o
 tab:m5 CL b.Z
variable{b:Bx}
theorem m5.mono{A B:Hp}(h:m5 CL A)(e:ay A B):m5 CL B:=λx a h0=>e _ _ (h x a h0)
theorem aV.RG(S:Qar):m5 CL Z:=S.tab.mono S.zz
theorem aV.N1(S:Qar):m5 CL H:=S.RG.mono S.zh
def J7{A B:Hp}(e:ay A B)(h:B a=none):A a=none:=e.free h
variable{p:Addr}
theorem ay.upd{o:HO}(h:Qdq):ay H (upd H p o):=λb u e=>aq (aJ e h)▸e
theorem aV.view(S:Qb9):bC K CL H t.bU v:=by
 obtain⟨fp,gp,_,r,_,_⟩:=S.rep;cases r with
 | cons r _=>exact r.bU S.zh λ_ _=>rfl
theorem aV.pop(S:Qb9):aV K CL b H Z U Y ts vs:=by
 obtain⟨fp,gp,e,r,nd,k⟩:=S.rep;cases r with
 | @cons _ _ _ _ f1 f2 f c=>
  refine⟨⟨fp,f2,e,c,nd.sublist QmC,λa d=>k a ?_⟩,S.bh,S.zz,S.zh,S.new,S.tp,S.tab⟩;obtain h|h:=hG.1 d
  .exact hZ _ h
  simp_all
theorem aV.push{d:D}(S:Qar)(r:QcN):aV K CL b H Z U Y (.sh d::ts) QaT:=by
 obtain⟨fp,gp,e,a,nd,k⟩:=S.rep;exact⟨⟨fp,_,e,.cons (.sh r) a,nd,k⟩,S.bh,S.zz,S.zh,S.new,S.tp,S.tab⟩
theorem aV.AA(S:Qb9):∃Z',ay Z Z'/\aV K CL b H Z' U Y (.sh t.bU::ts) QaT:=by
 classical
 obtain⟨fp,gp,e,r,nd,k⟩:=S.rep;cases r with
 | @cons _ _ _ _ f1 f2 m l=>
  have j:=λa c=>k a (hV _ QkA);have sz:ay Z _:=λa o q=>by
   by_cases c:a∈f1
   .rw[(j a c).1]at q;cases q
   .show(if a∈f1 then H a else Z a)=some o;rw[bS c];exact q
  have f:=kc.1 nd;have n:∀a∈fp++f2,a∉f1:=λa c h1=>by
   obtain h|h:=hG.1 c
   .exact f.2.2 a h a (hZ _ h1) rfl
   .exact(kc.1 f.2.1).2.2 a h1 a h rfl
  refine⟨ _,sz,⟨⟨fp,[]++f2,e.mono sz Qcc,.cons (.sh (m.bU sz λa c=>ec c)) (l.mono sz λ_ _=>rfl),?_,λa c=>?_⟩,S.bh,S.zz.trans sz,λa o q=>?_,λa o q z=>?_,λa o q i=>?_,S.tab⟩⟩
  .exact nd.sublist QmC
  .have g:a∈fp++f2:=c;refine⟨?_,(k a ?_).2⟩
   .rw[bS (n a g)];refine(k a ?_).1;obtain h|h:=hG.1 g
    .exact hZ _ h
    .exact hV _ (hV _ h)
   simp_all
  .have d:=q;by_cases c:a∈f1
   .rw[ec c]at d;exact d
   .rw[bS c]at d;exact S.zh a o d
  .have d:=q;by_cases c:a∈f1
   .exact(j a c).2
   .rw[bS c]at d;exact S.new a o d z
  .exact sz a o (S.tp a o q i)
variable{i:Nat}
theorem aV.Vq(S:Qar)(hi:U[i]? = some QaM):∃v Z',Y[i]? = some QaL/\ay Z Z'/\aV K CL b H Z' QhW Y (.sh t.bU::ts) QaT:=by
 classical
 obtain⟨fp,gp,e,r,nd,k⟩:=S.rep;obtain⟨v,f1,f2,d,hv,u,rt,put,_⟩:=e.get hi;subst u;have p:∀a∈f2,Z a=none/\b.B a=none:=λa c=>k a (by simp[c]);have sz:ay Z QkU:=λa o q=>by
  by_cases c:a∈f2
  .rw[(p a c).1]at q;cases q
  .show QhG=some o;rw[bS c];exact q
 have x:∀a∈(f1++d)++gp,a∉f2:=λa c s=>by
  have w:(Qe0++gp).Perm (f2++((f1++d)++gp)):=by
   rw[<- h5,<- h5];refine(List.perm_append_right_iff gp).2 ?_;rw[<- h5];exact(List.perm_append_right_iff d).2 l8
  exact(kc.1 (w.nodup_iff.1 nd)).2.2 a s a c rfl
 have n:bC K CL QkU t.bU v:=rt.bU sz λa c=>ec c;have m:Y.set i QaL=Y:=by
  apply Hn;intro j;rw[List.getElem?_set];split
  .rename_i h;subst h;split
   .exact hv.symm
   .rename_i s;rw[Hc We]
  .rfl
 have e2:e9 K CL H QkU QhW Y (f1++([]++d)):=by
  have:=put (H':=H) (t':=.sh t.bU) (v':=v) (g:=[]) sz Qcc (.sh n)
  rwa [m]at this
 refine⟨v,λa=>if a∈f2 then H a else Z a,hv,sz,⟨⟨f1++([]++d),[]++gp,e2,.cons (.sh n) (r.mono sz λ_ _=>rfl),?_,λa c=>?_⟩,S.bh,S.zz.trans sz,λa o q=>?_,λa o q z=>?_,λa o q i=>sz a o (S.tp a o q i),S.tab⟩⟩
 .exact nd.sublist (ox QmC (mx _))
 .have l:a∈(f1++d)++gp:=c;have hm:a∈Qe0++gp:=by
   simp only[hG]at l ⊢;rcases l with(h|h)|h
   .exact .inl Qfg
   .exact .inl (.inr (.inr h))
   .exact .inr h
  refine⟨?_,(k a hm).2⟩;show QhG=none;rw[bS (x a l)];exact(k a hm).1
 .have f:QhG=some o:=q;by_cases c:a∈f2
  .rw[ec c]at f;exact f
  .rw[bS c]at f;exact S.zh a o f
 .have f:QhG=some o:=q;by_cases c:a∈f2
  .exact(p a c).2
  .rw[bS c]at f;exact S.new a o f z
theorem aV.move(S:Qar)(hi:U[i]? = some QaM):∃v,Y[i]? = some QaL/\aV K CL b H Z QdL Y Qb4 QaT:=by
 obtain⟨fp,gp,e,r,nd,k⟩:=S.rep;obtain⟨v,f1,f2,c,hv,g,rt,_,del⟩:=e.get hi;subst g;have d:Y.set i QaL=Y:=by
  apply Hn;intro j;rw[List.getElem?_set];split
  .rename_i h;subst h;split
   .exact hv.symm
   simp_all
  .rfl
 have f:((f1++Qhf)++gp).Perm ((f1++c)++(f2++gp)):=by
  have h1:(f2++c).Perm _:=l8;have m:=(o9 f1 h1).append_right gp;simp_all
 refine⟨v,hv,⟨⟨ _,_,?_,.cons rt r,f.nodup_iff.1 nd,λa l=>k a (f.mem_iff.2 l)⟩,S.bh,S.zz,S.zh,S.new,S.tp,S.tab⟩⟩;have:=del (o:=some v)
 rwa [d]at this
theorem aV.look(S:Qar)(hi:U[i]? = some QaM):∃v,Y[i]? = some QaL/\bC K CL H t.bU v:=by
 obtain⟨fp,gp,e,r,nd,k⟩:=S.rep;obtain⟨v,f1,f2,c,hv,a,rt,_,_⟩:=e.get hi;exact⟨v,hv,rt.bU S.zh λ_ _=>rfl⟩
theorem aV.Mc{d:D}(S:Qar)(hi:U[i]? = some QdK):∃v,Y[i]? = some QaL/\bC K CL Z d v:=by
 obtain⟨fp,gp,e,r,nd,k⟩:=S.rep;obtain⟨v,f1,f2,c,hv,a,rt,_,_⟩:=e.get hi;obtain⟨rfl,h⟩:=rt.GX;exact⟨v,hv,h⟩
theorem aV.set(S:Qb9)(hi:i<U.length):aV K CL b H Z Qng QeL ts vs:=by
 obtain⟨fp,gp,e,r,nd,k⟩:=S.rep;cases r with
 | @cons _ _ _ _ f1 f2 j h=>
  obtain⟨f,h1,g,n,m⟩:=e.put j hi;have d:(f++f2).Perm (g++QkB):=by
   refine(m.append_right f2).trans ?_;rw[<- h5];exact l8.append_right f2
  have c:(g++QkB).Sublist _:=ox n (mx _);exact⟨⟨f,f2,h1,h,d.nodup_iff.2 (nd.sublist c),λa l=>k a (c.subset (d.mem_iff.1 l))⟩,S.bh,S.zz,S.zh,S.new,S.tp,S.tab⟩
mutual
def D.jS:D->Bool
 | .tup ds=>D.aY ds
 | .lst _=>false
 | .ins _ _=>false
 | .iC _=>false
 | .dct _=>false
 | .any=>false
 | .jN _ _ _=>false
 | _=>true
def D.aY:BB->Bool
 | []=>true
 | d::ds=>d.jS&&D.aY ds
end
mutual
def T.clean:T->Bool
 | .sh d=>d.jS
 | .tup ts=>T.dR ts
 | .lst ts=>T.dR ts
 | .ins _ fs=>T.cR fs
 | .iC kvs=>D.aY (kvs.map (·.2))
 | .dct kvs=>T.J8 kvs
 | .pin _ t=>t.clean
 | .jN _ _ _=>false
def T.dR:Bn->Bool
 | []=>true
 | t::ts=>t.clean&&T.dR ts
def T.cR:BS->Bool
 | []=>true
 | (_,t)::ts=>t.clean&&T.cR ts
def T.J8:CC->Bool
 | []=>true
 | (_,t)::ts=>t.clean&&T.J8 ts
end
def bR(X:Cx)(CL:BM)(b:Bx)(e:Expr)(U:BA)(t:T)(U':BA):Prop:=
 ∀(H Z:Hp) (Y:L2.St) (ts:Bn) (vs:B1) (Q:VK),aV X.K CL b H Z U Y ts vs->(∀v H' Z',ay Z Z'->ay H H'->aV X.K CL b H' Z' U' Y Qb4 QaT->Q v H')->sX X e Y H Q
def cL(X:Cx)(CL:BM)(b:Bx)(e:Expr)(U:BA)(d:D)(U':BA):Prop:=
 ∀(H Z:Hp) (Y:L2.St) (ts:Bn) (vs:B1) (Q:VK),aV X.K CL b H Z U Y ts vs->(∀v H' Z',ay Z Z'->ay H H'->aV X.K CL b H' Z' U' Y ts vs->bC X.K CL H' d v->Q v H')->sX X e Y H Q
def sN(X:Cx)(CL:BM)(b:Bx)(e:Expr)(U:BA)(p:Bool)(U':BA):Prop:=
 ∀(H Z:Hp) (Y:L2.St) (ts:Bn) (vs:B1) (Q:EN),aV X.K CL b H Z U Y ts vs->(∀H' Z',ay Z Z'->ay H H'->aV X.K CL b H' Z' U' Y ts vs->Q p H')->yl X e Y H Q
def G9(X:Cx)(CL:BM)(b:Bx)(es:Cl)(U:BA)(tl:Bn)(U':BA):Prop:=
 ∀(H Z:Hp) (Y:L2.St) (ts:Bn) (vs:B1) (Q:EO),aV X.K CL b H Z U Y ts vs →
  (∀us H' Z',us.length=tl.length->ay Z Z'->ay H H'->aV X.K CL b H' Z' U' Y Ql7 QdG->Q us H')->G8 X es Y H Q
def mM(X:Cx)(CL:BM)(b:Bx)(es:Cl)(U:BA)(ds:BB)(U':BA):Prop:=
 ∀(H Z:Hp) (Y:L2.St) (ts:Bn) (vs:B1) (Q:EO),aV X.K CL b H Z U Y ts vs →
  (∀us H' Z',ay Z Z'->ay H H'->aV X.K CL b H' Z' U' Y ts vs->av X.K CL H' ds us->Q us H')->G8 X es Y H Q
structure cY where
 nx:BA->Prop
 rt:T->BA->Prop
 bk:BA->Prop:=λ_=>False
 ct:BA->Prop:=λ_=>False
structure Meets(K:Frag)(CL:BM)(b:Bx)(Z:Hp)(ts:Bn)(vs:B1)(D:cY)(E:Ends):Prop where
 nx:∀U' Y' H' Z',ay Z Z'->aV K CL b H' Z' U' Y' ts vs->D.nx U'->E.nx Y' H'
 rt:∀t v H' Z' U' Y',ay Z Z'->aV K CL b H' Z' U' Y' Qb4 QaT->D.rt t U'->E.rt v H'
 bk:∀U' Y' H' Z',ay Z Z'->aV K CL b H' Z' U' Y' ts vs->D.bk U'->E.bk Y' H'
 ct:∀U' Y' H' Z',ay Z Z'->aV K CL b H' Z' U' Y' ts vs->D.ct U'->E.ct Y' H'
def Vr(X:Cx)(CL:BM)(b:Bx)(st:Stmt)(U:BA)(D:cY):Prop:=
 ∀(H Z:Hp) (Y:L2.St) (ts:Bn) (vs:B1) (E:Ends),aV X.K CL b H Z U Y ts vs->Meets X.K CL b Z ts vs D E->XO X st E Y H
def cG(X:Cx)(CL:BM)(b:Bx)(st:CA)(U:BA)(D:cY):Prop:=
 ∀(H Z:Hp) (Y:L2.St) (ts:Bn) (vs:B1) (E:Ends),aV X.K CL b H Z U Y ts vs->Meets X.K CL b Z ts vs D E->GJ X st E Y H
theorem Meets.mono{D:cY}{E:Ends}(M:QsY)(e:QbR):Meets K CL b Z' ts vs D E:=
 ⟨λ_ _ _ _ s=>M.nx _ _ _ _ QjN,λ_ _ _ _ _ _ s=>M.rt _ _ _ _ _ _ QjN,λ_ _ _ _ s=>M.bk _ _ _ _ QjN,λ_ _ _ _ s=>M.ct _ _ _ _ QjN⟩
def Vs(zh:∀a o,H a=some o->jd o=true->Z a=some o)(h:qh K H a xs):qh K Z a xs:=by
 rcases h with(h|⟨o,h⟩)|h
 .exact .inl (.inl (zh _ _ h rfl))
 .exact .inl (.inr ⟨o,zh _ _ h rfl⟩)
 .exact .inr h
theorem bC.jS(zh:∀a o,H a=some o->jd o=true->Z a=some o){d:D}(k:d.jS=true)(h:bC K CL H d v):bC K CL Z d v:=
 bC.rec (motive_2:=λd v _=>D.aY d=true->av K CL Z d v) (motive_3:=λd v _=>True) (motive_4:=λd v _=>True) (motive_5:=λd v _=>True)
  (λ_=>.non) QtE Qtf Qtg (λ_ k=>by cases k) Qth (λh _ r k=>.tup (Vs zh h) (r (‹_›))) (λ_ _ _ k=>by cases k) (λ_ _ _ k=>by cases k) (λ_ _ _ k=>by cases k) (λ_ _ _ k=>by cases k) (λ_ _ _ _ _ k=>by rw[D.jS]at k;cases k) QaB (λ_ _ h r k=>by rw[D.aY,kx]at k;exact .cons Qhg Qhh) trivial Qas trivial Qas trivial Qas h k
theorem av.jS(zh:∀a o,H a=some o->jd o=true->Z a=some o){d:BB}{v:B1}(k:D.aY d=true)(h:av K CL H d v):av K CL Z d v:=
 av.rec (motive_1:=λd v _=>d.jS=true->bC K CL Z d v) (motive_3:=λd v _=>True) (motive_4:=λd v _=>True) (motive_5:=λd v _=>True)
  (λ_=>.non) QtE Qtf Qtg (λ_ k=>by cases k) Qth (λh _ r k=>.tup (Vs zh h) (r (‹_›))) (λ_ _ _ k=>by cases k) (λ_ _ _ k=>by cases k) (λ_ _ _ k=>by cases k) (λ_ _ _ k=>by cases k) (λ_ _ _ _ _ k=>by cases k) QaB (λ_ _ h r k=>by rw[D.aY,kx]at k;exact .cons Qhg Qhh) trivial Qas trivial Qas trivial Qas h k
theorem bP.clean{Z1:Hp}(a:∀{d:D} {v:V},d.jS=true->bC K CL Z1 d v->bC K CL Z d v){kvs:CS}{gs:CO}(k:D.aY (kvs.map (·.2))=true)(h:bP K CL Z1 kvs gs):bP K CL Z kvs gs:=
 bP.ind (P:=λkvs gs=>D.aY (kvs.map _)=true->bP K CL Z kvs gs) QaB (λh _ i k=>by rw[ik,D.aY,kx]at k;exact .cons (a k.1 h) (i k.2)) h k
theorem bw.clean{Z1:Hp}(zh:∀a xs,Z1 a=some Qbf->Z a=some Qbf)(b:∀{d:D} {v:V},d.jS=true->bC K CL Z1 d v->bC K CL Z d v)(k:t.clean=true)(h:bw K CL H Z1 t v fp):bw K CL H Z t v fp:=
 bw.rec (motive_2:=λt v fp _=>T.dR t=true->aN K CL H Z t v fp) (motive_3:=λt v fp _=>T.cR t=true->cJ K CL H Z t v fp) (motive_4:=λt v fp _=>T.J8 t=true->cy K CL H Z t v fp)
  (λh k=>.sh (b (‹_›) h)) (λh _ r k=>.tup (zh _ _ h) (r (‹_›))) (λh _ r k=>.lst h (r (‹_›))) (λh _ r k=>.ins h (r (‹_›))) (λh f k=>.iC h (bP.clean b (‹_›) f)) (λh _ r k=>.dct h (r (‹_›))) (λ_ r k=>.pin (r (‹_›))) (λ_ _ _ k=>by rw[T.clean]at k;cases k) QaB (λ_ _ h r k=>by rw[T.dR,kx]at k;exact .cons Qhg Qhh) QaB (λ_ _ h r k=>by rw[T.cR,kx]at k;exact .cons Qhg Qhh) QaB (λ_ _ h r k=>by rw[T.J8,kx]at k;exact .cons Qhg Qhh) h k
theorem aV.back{W W':Hp}(S:Qar)(p:QcM)(s:ay Z W)(ww:ay W W')(m:ay W' H')(new:∀a o,W' a=some o->W a=none->H a=none)
  (tp:∀a o,H' a=some o->jd o=true->W' a=some o) (r:bw K CL H' W' t v fp) (nd:fp.Nodup) (own:∀a∈fp,W' a=none/\H a=none) (c:W=Z\/t.clean=true) :
  ∃Z',ay Z Z'/\aV K CL b H' Z' U Y Qb4 QaT:=by
 classical
 let Z':Hp:=λa=>if (H a).isSome=true then Z a else W' a
 have zs:∀{a:Addr} {o:HO},H a=some o->Z' a=Z a:=λ{a o} e=>by
  show QpP=Z a;rw[ec (by rw[e];rfl)]
 have zn:∀{a:Addr},H a=none->Z' a=W' a:=λ{a} e=>by
  show QpP=W' a;rw[bS (by rw[e];simp)]
 have sz:ay Z Z':=λa o q=>by rw[zs (S.zh a o q)];exact q
 have l:∀a o,Z' a=some o->W' a=some o:=λa o q=>by
  cases e:H a with
  | none=>rw[zn e]at q;exact q
  | some u=>rw[zs e]at q;exact ww a o (s a o q)
 have g:∀a o,H' a=some o->jd o=true->Z' a=some o:=λa o q i=>by
  cases e:H a with
  | none=>rw[zn e];exact tp a o q i
  | some u=>
   rw[zs e];have:=p a u e;rw[q]at this;cases this;exact S.tp a o e i
 have x:bw K CL H' Z' t v fp:=by
  obtain c|c:=c
  .have:Z'=W':=by
    funext a;cases e:H a with
    | none=>exact zn e
    | some u=>
     rw[zs e];cases q:W' a with
     | none=>
      cases j:Z a with
      | none=>rfl
      | some o=>rw[ww a o (s a o j)]at q;cases q
     | some o=>
      cases j:W a with
      | none=>rw[new a o q j]at e;cases e
      | some y=>
       have:=ww a y j;rw[q]at this;cases this;rw[<- c];exact j
   rw[this];exact r
  .refine bw.clean (λa xs h=>?_) (λ{d v} k h=>?_) c r
   .exact g a _ (m a _ h) rfl
   .exact bC.jS (H:=H') g k (h.mono m)
 obtain⟨f0,g0,e0,w,n,k0⟩:=S.rep;have old:∀a∈f0++g0,∃o,H a=some o:=λa f=>(hG.1 f).elim (e0.there a) (w.there a);have keep:∀a∈f0++g0,H' a=H a:=λa f=>by
  obtain⟨o,e⟩:=old a f;rw[e];exact p a o e
 refine⟨Z',sz,⟨⟨f0,fp++g0,e0.mono sz (λa f=>keep a (hZ _ f)),.cons x (w.mono sz λa f=>keep a (hV _ f)),?_,λa f=>?_⟩,S.bh.trans p,S.zz.trans sz,λa o q=>m a o (l a o q),λa o q z=>?_,g,S.tab⟩⟩
 .have A:(f0++(fp++g0)).Perm (fp++(f0++g0)):=by
   rw[<- h5,<- h5];exact l8.append_right g0
  refine A.nodup_iff.2 (kc.2 ⟨nd,n,λa f c B e=>?_⟩);subst e;obtain⟨o,q⟩:=old a B;rw[(own a f).2]at q;cases q
 .have:a∈f0++g0\/a∈fp:=by
   simp only[hG]at f ⊢;obtain h|h|h:=f
   .exact .inl Qfg
   .exact .inr h
   .exact .inl (.inr h)
  obtain h|h:=this
  .obtain⟨o,q⟩:=old a h;exact⟨by rw[zs q];exact(k0 a h).1,(k0 a h).2⟩
  .exact⟨by rw[zn (own a h).2];exact(own a h).1,S.bh.free (own a h).2⟩
 .cases e:H a with
  | none=>exact S.bh.free e
  | some u=>rw[zs e]at q;exact S.new a o q z
section
variable{δ1 U2:BA}{e1 e2:Expr}{pos:Pos}{d d1 d2:D}
noncomputable def P2(h:QaP):cL X CL b e U t.bU δ1:=λH Z Y ts vs Q S k=>h H Z Y ts vs Q S λv H' Z' z s a=>k v H' Z' z s a.pop a.view
def au(h:Qh6):cL X CL b e U d δ1:=by have:=P2 h;rwa [T.bU]at this
noncomputable def cM(h:Qdr)(i:d.jS=true):bR X CL b e U QaR δ1:=λH Z Y ts vs Q S k=>h H Z Y ts vs Q S λv H' Z' z s a r=>k v H' Z' z s (a.push (bC.jS a.tp i r))
def J9(h:QaP):bR X CL b e U Qgq δ1:=λH Z Y ts vs Q S k=>h H Z Y ts vs Q S λv H' Z' z s d=>by
 obtain⟨Z2,a,c⟩:=d.AA;exact k v H' Z2 (z.trans a) s c
def lB{i:Int}{j:Nat}:bR X CL b QlQ U Qjy U:=λH Z Y ts vs Q S k=>bY aj6 (k _ _ Z QA QA (S.push Qbr))
def m7{i:Bool}{j:Nat}:bR X CL b (.Constant (.bool i) j pos) U (.sh (.bl i)) U:=λH Z Y ts vs Q S k=>bY SH (k _ _ Z QA QA (S.push (.bl i)))
def aa2{j:Nat}:bR X CL b QsG U QoK U:=λH Z Y ts vs Q S k=>bY aj7 (k _ _ Z QA QA (S.push .non))
def dH{x:Str}{j:Nat}:bR X CL b QlR U (.sh Qa4) U:=λH Z Y ts vs Q S k=>bY aj8 (k _ _ Z QA QA (S.push Qa4))
section
variable{x:Str}(i:Nat)(hi:X.N[i]? = some x:=by rfl)(hv:Qnx:=by first|exact Or.inl rfl|exact Or.inr (Or.inl rfl)|exact Or.inr (Or.inr rfl))(hd:AD x:=by decide)(iO:AE x:=by decide)
include hi hv hd iO
def akU(h:U[i]? = some QdK:=by rfl):bR X CL b QaF U QaR U:=λH Z Y ts vs Q S k=>by
 obtain⟨v,e,r⟩:=S.Mc h;exact bY Qgu ⟨v,e,k v H Z QA QA (S.push r)⟩
def afD(h:U[i]? = some QaM:=by rfl):bR X CL b QaF U Qgq QhW:=λH Z Y ts vs Q S k=>by
 obtain⟨v,Z',e,z,a⟩:=S.Vq h;exact bY Qgu ⟨v,e,k v H Z' z QA a⟩
def afE(h:U[i]? = some QaM:=by rfl):bR X CL b QaF U t QdL:=λH Z Y ts vs Q S k=>by
 obtain⟨v,e,a⟩:=S.move h;exact bY Qgu ⟨v,e,k v H Z QA QA a⟩
def akV(h:U[i]? = some QaM:=by rfl):cL X CL b QaF U t.bU U:=λH Z Y ts vs Q S k=>by
 obtain⟨v,e,r⟩:=S.look h;exact bY Qgu ⟨v,e,k v H Z QA QA S r⟩
end
noncomputable def so:D->Option V
 | .non=>some .non
 | .bl b=>some Qd5
 | .int i=>some Qbr
 | .str x => some Qa4
 | _=>none
theorem bC.sc{d:D}{w:V}(r:QcN)(h:so d=some w):v=w:=by
 cases r<;>first|(exact j2 h)|(cases h)
def afF{d:D}{w:V}(h:so d=some w):bC K CL Z d w:=by
 cases d<;>first|(cases h;constructor)|(cases h)
def xu{op:Qfw}{r:R2}{c a w:V}(j:Qul)(h1:Qin)(l:Qig)(s1:so d1=some c)(s2:so d2=some a)(s3:so d=some w)
  (i:∀(H:Hp) (Q:VK),Q w H->r c a H Q):bR X CL b (.BinOp e1 op e2 pos) U QaR U2:=λH Z Y ts vs Q S k=>by
 refine bY (DX j cA cA) (h1 H Z Y ts vs _ S λv1 H1 Z1 f k1 n h=>l H1 Z1 Y ts vs _ n λv2 H2 Z2 e k2 m g=>?_);rw[h.sc s1,g.sc s2];exact i H2 Q (k w H2 Z2 (f.trans e) Qaf (m.push (afF s3)))
noncomputable def jT{i j:Int}(h1:QbI)(a:Qca):bR X CL b QdD U (.sh (.int (i+j))) U2:=xu aks h1 a rfl rfl rfl λ_ _ q=>⟨i,j,rfl,rfl,q⟩
noncomputable def tK{i j:Int}(h1:QbI)(a:Qca):bR X CL b (.BinOp e1 .Sub e2 pos) U (.sh (.int (i-j))) U2:=xu akt h1 a rfl rfl rfl λ_ _ q=>⟨i,j,rfl,rfl,q⟩
noncomputable def Ec{i j:Int}(h1:QbI)(a:Qca)(c:F1 i j):bR X CL b Qss U (.sh (.int (i*j))) U2:=xu aku h1 a rfl rfl rfl λ_ _ q=>⟨i,j,rfl,rfl,c,q⟩
noncomputable def cZ{i j:Int}(h1:QbI)(a:Qca)(c:0<j):bR X CL b (.BinOp e1 .Mod e2 pos) U (.sh (.int (i % j))) U2:=xu akv h1 a rfl rfl rfl λ_ _ q=>⟨i,j,rfl,rfl,c,q⟩
noncomputable def eZ{i j:Int}(h1:QbI)(a:Qca)(c:Pc i j):bR X CL b (.BinOp e1 .FloorDiv e2 pos) U (.sh (.int (i / j))) U2:=xu afm h1 a rfl rfl rfl λ_ _ q=>⟨i,j,rfl,rfl,c,q⟩
noncomputable def aa3{i j:Int}(h1:QbI)(a:Qca)(c:O3 i j):bR X CL b (.BinOp e1 .Pow e2 pos) U (.sh (.int (i ^ j.toNat))) U2:=xu akw h1 a rfl rfl rfl λ_ _ q=>⟨i,j,rfl,rfl,c,q⟩
noncomputable def akX{x y:Str}(h1:QlT)(a:cL X CL b e2 δ1 (.str y) U2)(c:x.length+y.length<=sizeLine):bR X CL b QdD U (.sh (.str (x++y))) U2:=xu Rp h1 a rfl rfl rfl λ_ _ q=>⟨x,y,rfl,rfl,c,q⟩
def IL{op:CmpOp}{r:R2}{p:Bool}{i h:V}(l:Qo4)(h1:Qin)(m:Qig)(s1:so d1=some i)(s2:so d2=some h)
  (j:∀(H:Hp) (Q:VK),Q (.bl p) H->r i h H Q) (hm:QtF):sN X CL b QhY U p U2/\bR X CL b QhY U (.sh (.bl p)) U2:=by
 constructor
 .intro H Z Y ts vs Q S k;refine y9 (vo l cA cA hm) (h1 H Z Y ts vs _ S λv1 H1 Z1 c k1 g e=>m H1 Z1 Y ts vs _ g λv2 H2 Z2 a k2 f d=>?_);rw[e.sc s1,d.sc s2];exact j H2 _ ⟨p,rfl,k H2 Z2 QcE Qaf f⟩
 .intro H Z Y ts vs Q S k;refine bY (yT l cA cA hm) (h1 H Z Y ts vs _ S λv1 H1 Z1 c k1 g e=>m H1 Z1 Y ts vs _ g λv2 H2 Z2 a k2 f d=>?_);rw[e.sc s1,d.sc s2];exact j H2 _ (k _ H2 Z2 QcE Qaf (f.push (.bl p)))
theorem fq{i j:Int}(h1:QbI)(a:Qca):sN X CL b Qes U QmD U2/\bR X CL b Qes U Qvp U2:=
 IL SF h1 a rfl rfl (λ_ _ q=>⟨rfl,by simp_all ⟩) (xj _)
theorem Ed{i j:Int}(h1:QbI)(a:Qca):sN X CL b QhN U (!decide (i=j)) U2/\bR X CL b QhN U Qr4 U2:=
 IL SE h1 a rfl rfl (λ_ _ q=>⟨rfl,by simp_all ⟩) (xj _)
theorem je{i j:Str}(h1:Qr5)(a:QrQ):sN X CL b Qes U QmD U2/\bR X CL b Qes U Qvp U2:=
 IL SF h1 a rfl rfl (λ_ _ q=>⟨rfl,by simp_all ⟩) (xj _)
theorem aa4{i j:Str}(h1:Qr5)(a:QrQ):sN X CL b QhN U (!decide (i=j)) U2/\bR X CL b QhN U Qr4 U2:=
 IL SE h1 a rfl rfl (λ_ _ q=>⟨rfl,by simp_all ⟩) (xj _)
def Ef{i j:Int}(h1:QbI)(a:Qca):sN X CL b QrR U QnM U2/\bR X CL b QrR U (.sh (.bl QnM)) U2:=IL aoI h1 a rfl rfl Qqi (xj _)
def Vt{i j:Int}(h1:QbI)(a:Qca):sN X CL b QrS U QnN U2/\bR X CL b QrS U (.sh (.bl QnN)) U2:=IL aoJ h1 a rfl rfl Qqi (xj _)
end
theorem aN.split:∀{as bs:Bn} {us ws:B1} {gp:BY},as.length=us.length->aN K CL H Z (as++bs) Qky gp->∃g1 g2,gp=g1++g2/\aN K CL H Z as us g1/\aN K CL H Z bs ws g2
 | [],_,[],_,gp,_,r=>⟨[],gp,rfl,.nil,r⟩
 | [],_,_::_,_,_,h,_=>by simp at h
 | _::_,_,[],_,_,h,_=>by simp at h
 | a::as,bs,u::us,ws,gp,h,r=>by
  cases r with
  | @cons _ _ _ _ f1 f2 c b=>
   obtain⟨g1,g2,e,h1,d⟩:=aN.split Wp b;exact⟨ _,g2,Wp,.cons c h1,d⟩
variable{us:B1}
theorem aN.app{as bs:Bn}{ws:B1}{g1 g2:BY}(h:aN K CL H Z as us g1)(q:aN K CL H Z bs ws g2):aN K CL H Z (as++bs) Qky QcI:=
 aN.ind (P:=λas us g1=>aN K CL H Z (as++bs) Qky QcI) q (λr _ i=>by rw[h5];exact .cons r i) h
theorem aN.rev:∀{as:Bn} {us:B1} {g:BY},aN K CL H Z as.reverse us.reverse g->∃b,aN K CL H Z as us b/\b.Perm g
 | [],[],g,r=>by grind
 | [],u::us,g,r=>by have:=r.length;simp at this
 | a::as,[],g,r=>by have:=r.length;simp at this
 | a::as,u::us,g,r=>by
  rw[pd,pd]at r;have hl:=r.length;obtain⟨g1,g2,e,d,c⟩:=aN.split Wp r;subst e;obtain⟨b,f,p⟩:=aN.rev d;cases c with
  | @cons _ _ _ _ f1 f2 q1 h=>
   cases h;refine⟨ _,.cons q1 f,?_⟩;rw[hX];exact(o9 f1 p).trans l8
theorem aN.JU:∀{ds:BB} {us:B1},av K CL Z ds us->aN K CL H Z Qct us []
 | _,_,.nil=>.nil
 | _,_,.cons r t=>.cons (.sh r) (aN.JU t)
theorem aN.toF:∀{ds:BB} {us:B1} {g:BY},aN K CL H Z Qct us g->av K CL Z ds us/\g=[]
 | [],_,_,r=>by
  have a:=r;cases a;exact⟨.nil,rfl⟩
 | d::ds,_,_,r=>by
  have a:=r;cases a with
  | cons c b=>
   obtain⟨rfl,h⟩:=c.GX;obtain⟨q,e⟩:=aN.toF b;exact⟨.cons h q,‹_› ⟩
theorem g6:∀(ds:BB),T.dz Qct=ds
 | []=>rfl
 | d::ds=>by rw[ik,T.dz,g6 ds,T.bU]
variable{tl:Bn}
theorem aV.AF(S:Qrs)(hl:QmT)(f:Qdq) :
  ay Z Qnh/\ay H Qni/\aV K CL b Qni Qnh U Y (.tup tl::ts) Qe6:=by
 obtain⟨fp,gp,e,r,nd,k⟩:=S.rep;obtain⟨g1,g2,n,l,j⟩:=aN.split WA r;subst n;obtain⟨s,m,pm⟩:=l.rev;have g:=S.zh.free f;have sz:ay Z Qnh:=ay.upd g;have sh:ay H Qni:=ay.upd f;have keep:∀a∈fp++QcI,a≠p:=λa c=>by
  have:∃o,H a=some o:=by
   obtain h|h:=hG.1 c
   .exact e.there a h
   .exact r.there a h
  obtain⟨o,q⟩:=this;exact aJ q f
 have d:=(pm.append_right g2).append_left fp;have kk:=λa c=>keep a QiZ;refine⟨sz,sh,⟨⟨fp,_,e.mono sz Qep,.cons (.tup aA (m.mono sz λa c=>aq (kk a (by simp[c])))) (j.mono sz λa c=>aq (keep a (by simp[c]))),d.nodup_iff.2 nd,λa c=>?_⟩,S.bh.trans sh,S.zz.trans sz,λa o q=>?_,λa o q z=>?_,λa o q i=>?_,S.tab⟩⟩
 .exact⟨ aq (kk a c)▸(k a QiZ).1,(k a QiZ).2⟩
 .by_cases c:a=p
  .subst c;rw[aA]at q ⊢;exact q
  .rw[aq c]at q ⊢;exact S.zh a o q
 .by_cases c:a=p
  .subst c;exact S.bh.free f
  .rw[aq c]at q;exact S.new a o q z
 .by_cases c:a=p
  .subst c;rw[aA]at q ⊢;exact q
  .rw[aq c]at q ⊢;exact S.tp a o q i
theorem aV.jU{g0:BY}(S:Qrs)(hl:QmT)(g:Qdq) :
  ay H Qnj/\aV K CL b Qnj Z U Y (.lst tl::ts) Qe6:=by
 obtain⟨fp,gp,e,r,nd,k⟩:=S.rep;obtain⟨g1,g2,t,n,m⟩:=aN.split WA r;subst t;obtain⟨j,s,pm⟩:=n.rev;have l:=S.zh.free g;have sh:ay H Qnj:=ay.upd g;have keep:∀a∈fp++QcI,a≠p:=λa c=>by
  have:∃o,H a=some o:=by
   obtain h|h:=hG.1 c
   .exact e.there a h
   .exact r.there a h
  obtain⟨o,q⟩:=this;exact aJ q g
 have d:=(pm.append_right g2).append_left fp;have kk:=λa c=>keep a QiZ;have f:(fp++((p::j)++g2)).Perm (p::(fp++(j++g2))):=by simp
 refine⟨sh,⟨⟨fp,_,e.mono QA Qep,.cons (.lst aA (s.mono QA λa c=>aq (kk a (by simp[c])))) (m.mono QA λa c=>aq (keep a (by simp[c]))),?_,λa c=>?_⟩,S.bh.trans sh,S.zz,S.zh.trans sh,S.new,λa o q i=>?_,S.tab⟩⟩
 .refine f.nodup_iff.2 (kn.2 ⟨λh=>kk p h rfl,d.nodup_iff.2 nd⟩)
 .obtain h|h:=fF.1 (f.mem_iff.1 c)
  .subst h;exact⟨l,S.bh.free g⟩
  .exact k a (d.mem_iff.1 h)
 .by_cases c:a=p
  .subst c;rw[aA]at q;cases q;cases i
  .rw[aq c]at q;exact S.tp a o q i
variable{δ1 U2:BA}{e1 e2:Expr}{p q:Bool}{pos:Pos}{d:D}{ds:BB}
def bG:G9 X CL b [] U [] U:=λH Z Y ts vs Q S k=>RD dZ (k [] H Z rfl QA QA S)
theorem aH(h1:QaP)(d:G9 X CL b es δ1 tl U2)(hs:Qaw:=by exact bz rfl):G9 X CL b Qav U (t::tl) U2:=λH Z Y ts vs Q S k=>
 RD Qn7 (h1 H Z Y ts vs _ S λv H1 Z1 c k1 f=>d H1 Z1 Y _ _ _ f λus H2 Z2 hl a k2 g=>k _ H2 Z2 (by simp[hl]) QcE Qaf Wp)
def aF:mM X CL b [] U [] U:=λH Z Y ts vs Q S k=>RD dZ (k [] H Z QA QA S .nil)
def ah(h1:Qdr)(h:QtG)(hs:Qaw:=by exact bz rfl):mM X CL b Qav U (d::ds) U2:=λH Z Y ts vs Q S k=>
 RD Qn7 (h1 H Z Y ts vs _ S λv H1 Z1 c k1 j g=>h H1 Z1 Y _ _ _ j λus H2 Z2 a k2 i f=>k _ H2 Z2 QcE Qaf i Qti)
variable{j:Nat}
def oU(h:Qmt)(hl:Qm2):bR X CL b QiS U (.tup tl) δ1:=λH Z Y ts vs Q S k=>
 bY (aaF J6) (h H Z Y ts vs _ S λus H1 Z1 d e k1 i=>⟨ d▸hl,λp f=>by
  obtain⟨a,c,g⟩:=i.AF d f;exact k _ _ _ (e.trans a) Qcf g⟩)
theorem bD(h:Ql0)(hl:QbL):bR X CL b QiS U QdB δ1:=by
 have:=J9 (oU (pos:=pos) (j:=j) h Wp)
 rwa [T.bU,g6]at this
def cu(h:Qmt)(hl:Qm2):bR X CL b Qjg U QeD δ1:=λH Z Y ts vs Q S k=>
 bY (akB J6) (h H Z Y ts vs _ S λus H1 Z1 a d k1 g=>⟨ a▸hl,λp e=>by
  obtain⟨c,f⟩:=g.jU (g0:=[]) a e;exact k _ _ _ d Qcf f⟩)
def lM(h:Qrt)(he:∀whole,isTrue e X.env whole=(do let v ← whole;standAt e.pos;holding [v] Qg1):=by intro _;rfl):sN X CL b e U p δ1:=λH Z Y ts vs Q S k=>
 y9 (aka cA he) (h H Z Y ts vs _ S λv H1 Z1 c k1 a=>⟨p,by have:=a.view;exact this.sc rfl,k H1 Z1 c k1 a.pop⟩)
def Eg(h:QbY):sN X CL b (.UnaryOp .Not e pos) U (!p) δ1:=λH Z Y ts vs Q S k=>y9 (akd q0) Qij
noncomputable def GI(X:Cx)(e:Expr):TT:=λY H Q=>∀(whole:Sem Value) (pins:BC) (s:Qb),Inv X pins Y H s->wpAny Qr X.A QsV QeP X.xe s
noncomputable def NM:PW X e (GI X e):=λwhole pins s _ _ _ I h=>h _ pins s I
def p4(X:Cx)(CL:BM)(b:Bx)(e:Expr)(U:BA)(p:Bool)(U':BA):Prop:=
 ∀(H Z:Hp) (Y:L2.St) (ts:Bn) (vs:B1) (Q:EN),aV X.K CL b H Z U Y ts vs->(∀H' Z',ay Z Z'->ay H H'->aV X.K CL b H' Z' U' Y ts vs->Q p H')->GI X e Y H Q
noncomputable def GG{t:TT}(h:PW X e t)(q:t Y H Q):GI X e Y H Q:=λwhole pins s I=>h _ pins s Y H Q I q
noncomputable def qK(h:QuY):sN X CL b e U p δ1:=λH Z Y ts vs Q S k pins s I=>h H Z Y ts vs Q S k _ pins s I
def kC(h:QbY):p4 X CL b (.BoolOp .And [e] pos) U p δ1:=λH Z Y ts vs Q S k=>GG (afi q0) Qij
def AG(h:QbY):p4 X CL b (.BoolOp .Or [e] pos) U p δ1:=λH Z Y ts vs Q S k=>GG (akb q0) Qij
theorem ju(h:QbY)(f:p=true->p4 X CL b (.BoolOp .And (e2::es) pos) δ1 q δ1):p4 X CL b (.BoolOp .And (e::e2::es) pos) U (p&&q) δ1:=λH Z Y ts vs Q S k=>
 GG (akc q0 NM) (h H Z Y ts vs _ S λH1 Z1 a k1 c=>by
  cases p with
  | true=>exact XF Qpg
  | false=>exact XD (k H1 Z1 a k1 c))
theorem Cd(h:QbY)(f:p=false->p4 X CL b Qr6 δ1 q δ1):p4 X CL b Qr7 U (p || q) δ1:=λH Z Y ts vs Q S k=>
 GG (aoo q0 NM) (h H Z Y ts vs _ S λH1 Z1 a k1 c=>by
  cases p with
  | true=>exact XF (k H1 Z1 a k1 c)
  | false=>exact XD Qpg)
def aa6{op:BoolOp}(h:QaP):bR X CL b (.BoolOp op [e] pos) U t δ1:=λH Z Y ts vs Q S k=>bY (ake cA) Qij
def PU(h:Qrt)(f:p=false->bR X CL b Qr6 δ1 (.sh (.bl q)) δ1):bR X CL b Qr7 U (.sh (.bl (p || q))) δ1:=λH Z Y ts vs Q S k=>
 bY (aop cA cA) (h H Z Y ts vs _ S λv H1 Z1 c k1 a=>by
  have hv:=by have:=a.view;exact this.sc rfl
  refine⟨p,hv,?_⟩;cases p with
  | true=>exact XF (k _ H1 Z1 c k1 (a.pop.push Qcj))
  | false=>exact XD (f rfl H1 Z1 Y ts vs _ a.pop λv H2 Z2 d k2 g=>k v H2 Z2 (c.trans d) Qaf g))
theorem akY(h:QbY)(h1:p=true->bR X CL b e1 δ1 t U2)(g:p=false->bR X CL b e2 δ1 t U2):bR X CL b (.IfExp e e1 e2 pos) U t U2:=λH Z Y ts vs Q S k=>
 bY (aav q0 cA cA) (h H Z Y ts vs _ S λH1 Z1 d k1 f=>by
  cases p with
  | true=>exact XF (h1 rfl H1 Z1 Y ts vs _ f λv H2 Z2 a k2 c=>k v H2 Z2 Qov Qaf c)
  | false=>exact XD (g rfl H1 Z1 Y ts vs _ f λv H2 Z2 a k2 c=>k v H2 Z2 Qov Qaf c))
variable{k:Int}
theorem Dp(r:QfE)(h:QgP):∃v,yO vs k=some v/\bC K CL Z d v:=by
 unfold yO at h ⊢;rw[<- r.length];cases e:RA _ k with
 | none=>rw[e]at h;cases h
 | some j=>
  rw[e]at h;exact r.get h
def aZ(h1:cL X CL b e1 U QcW δ1)(m:QfF)(l:QgP)(hs:vp e2:=by exactλ_ _=>rfl):cL X CL b QbU U d U2:=λH Z Y ts vs Q S kk=>
 bY QuZ (h1 H Z Y ts vs _ S λv1 H1 Z1 e k1 o i=>m H1 Z1 Y ts vs _ o λv2 H2 Z2 c k2 n h=>by
  have a:=i.mono k2;obtain⟨_,_,rfl,j,g⟩:=a.lS;obtain⟨v,hv,f⟩:=Dp g l;exact⟨_,_,k,v,rfl,h.sc rfl,j,hv,kk v H2 Z2 QjO Qaf n f⟩)
def aX(h1:Ql1)(m:QfF)(l:QgP)(hs:vp e2:=by exactλ_ _=>rfl):cL X CL b QbU U d U2:=λH Z Y ts vs Q S kk=>
 bY (NR Vm cA cA hs) (h1 H Z Y ts vs _ S λv1 H1 Z1 e k1 o i=>m H1 Z1 Y ts vs _ o λv2 H2 Z2 c k2 n h=>by
  have a:=i.mono k2;obtain⟨_,_,rfl,j,g⟩:=a.gR;obtain⟨v,hv,f⟩:=Dp g l;exact⟨_,_,k,v,rfl,h.sc rfl,j,hv,kk v H2 Z2 QjO Qaf n f⟩)
variable{x:Str}
def aa7{c:Nat}(h1:QlT)(h:QfF)(hl:x.length<=sizeLine)(g:yO x.cps.toList k=some c)(hs:vp e2:=by exactλ_ _=>rfl):bR X CL b QbU U (.sh (.str ⟨#[c]⟩)) U2:=λH Z Y ts vs Q S kk=>
 bY (NR akF cA cA hs) (h1 H Z Y ts vs _ S λv1 H1 Z1 d k1 j f=>h H1 Z1 Y ts vs _ j λv2 H2 Z2 a k2 i e=>
  ⟨x,k,c,f.sc rfl,e.sc rfl,hl,g,kk _ H2 Z2 Qov Qaf (i.push (.str _))⟩)
def bW(h1:Qh2)(l:QfF)(j:QgP)(hs:vp e2:=by exactλ_ _=>rfl):bR X CL b QbU U QaR U2:=λH Z Y ts vs Q S kk=>
 bY QuZ (h1 H Z Y ts vs _ S λv1 H1 Z1 e k1 m=>l H1 Z1 Y _ _ _ m λv2 H2 Z2 c k2 a h=>by
  obtain⟨fp,gp,_,r,_,_⟩:=a.rep;cases r with
  | cons r _=>
   replace r:=r.GX;obtain⟨rfl,r⟩:=r;obtain⟨_,_,rfl,i,g⟩:=r.lS;obtain⟨v,hv,f⟩:=Dp g j;exact⟨_,_,k,v,rfl,h.sc rfl,ay.Dn a.zh i,hv,kk v H2 Z2 QjO Qaf (a.pop.push f)⟩)
def Eh(h1:QsJ)(l:QfF)(j:QgP)(hs:vp e2:=by exactλ_ _=>rfl):bR X CL b QbU U QaR U2:=λH Z Y ts vs Q S kk=>
 bY (NR Vm cA cA hs) (h1 H Z Y ts vs _ S λv1 H1 Z1 e k1 m=>l H1 Z1 Y _ _ _ m λv2 H2 Z2 c k2 a h=>by
  obtain⟨fp,gp,_,r,_,_⟩:=a.rep;cases r with
  | cons r _=>
   replace r:=r.GX;obtain⟨rfl,r⟩:=r;obtain⟨_,_,rfl,i,g⟩:=r.gR;obtain⟨v,hv,f⟩:=Dp g j;exact⟨_,_,k,v,rfl,h.sc rfl,a.zh.seq i,hv,kk v H2 Z2 QjO Qaf (a.pop.push f)⟩)
theorem aV.kU:∀{ds:BB} {us:B1} {ts:Bn} {vs:B1},av K CL Z ds us->aV K CL b H Z U Y ts vs->aV K CL b H Z U Y ((ds.map T.sh).reverse++ts) QdG
 | _,_,_,_,.nil,S=>S
 | _,_,ts,vs,.cons r t,S=>by
  rw[ik,pd,pd,h5,h5];exact aV.kU t (S.push r)
theorem aV.drops(S:Qq6)(hl:QmT):aV K CL b H Z U Y ts vs:=by
 induction tl generalizing us with
 | nil=>
  cases us with
  | nil=>exact S
  | cons _ _=>simp at hl
 | cons t tl a=>
  cases us with
  | nil=>simp at hl
  | cons u us=>exact a S.pop Wp
theorem aV.Dq{ds:BB}(S:aV K CL b H Z U Y ((ds.map T.sh).reverse++ts) QdG)(hl:us.length=ds.length):av K CL Z ds us:=by
 obtain⟨fp,gp,e,r,nd,k⟩:=S.rep;obtain⟨g1,g2,g,a,d⟩:=aN.split (by simp[hl]) r;obtain⟨f,c,pm⟩:=a.rev;exact c.toF.1
section
variable{pp:Pos}{ds:BB}
def Vu(hm:QnW)(h:Qds)(f:Gl X "len":=by rfl)(hs:QaA:=by exact bz rfl)(hpl:(backTo pos (starEach ([]:Cl) X.env)).any (·.1)=false:=by rfl):bR X CL b Qk9 U QsK δ1:=λH Z Y ts vs Q S k=>
 bY Qp1 (h H Z Y ts vs _ S λv H1 Z1 a k1 g r=>by
  obtain⟨_,_,rfl,d,c⟩:=r.gR;exact⟨_,_,rfl,.inl d,c.length▸k _ H1 Z1 a k1 (g.push Qbu) ⟩)
def Vv(hm:QnW)(h:cL X CL b e U QcW δ1)(f:Gl X "len":=by rfl)(hs:QaA:=by exact bz rfl):bR X CL b Qk9 U QsK δ1:=λH Z Y ts vs Q S k=>
 bY Qp1 (h H Z Y ts vs _ S λv H1 Z1 a k1 g r=>by
  obtain⟨_,_,rfl,d,c⟩:=r.lS;exact⟨_,_,rfl,.inr d,by rw[<- c.length];exact k _ H1 Z1 a k1 (g.push Qbu)⟩)
def AH(hm:QfG)(h:Ql2)(i:QfH:=by rfl)(hv:QrT:=by rfl)(hs:QaA:=by exact bz rfl):bR X CL b Qk6 U QdO δ1:=λH Z Y ts vs Q S k=>
 bY QqY (h H Z Y ts vs _ S λv H1 Z1 f k1 a=>by
  obtain⟨fp,gp,_,r,_,_⟩:=a.rep;cases r with
  | cons r _=>
   replace r:=r.GX;obtain⟨rfl,r⟩:=r;obtain⟨_,_,rfl,g,d⟩:=r.lS;refine⟨_,_,rfl,.inr (ay.Dn a.zh g),λl hl=>?_⟩;obtain⟨c,j⟩:=(aV.kU d a.pop).jU (g0:=[]) (by simp[d.length]) hl;exact k _ _ _ f Qcf j)
def cD(hm:QfG)(h:Qds)(hi:Qdt)(i:QfH:=by rfl)(hv:QrT:=by rfl)(hs:QaA:=by exact bz rfl):bR X CL b Qk6 U QdO δ1:=λH Z Y ts vs Q S k=>
 bY QqY (h H Z Y ts vs _ S λv H1 Z1 f k1 d r=>by
  obtain⟨_,_,rfl,g,a⟩:=r.gR;refine⟨_,_,rfl,.inl g,λl hl=>?_⟩;obtain⟨c,j⟩:=(aV.kU (av.jS d.tp hi a) d).jU (g0:=[]) (by simp[a.length]) hl;exact k _ _ _ f Qcf j)
def RH(K:Frag)(CL:BM){A:Type}(n:Nat)(arg:Qap)(Pre:Qae)(res:QaV):Sp:=λvs H Q _=>
 ∃(W:Hp) (a:A),ay W H/\(∀c o,H c=some o->jd o=true->W c=some o)/\av K CL W Qce vs/\(arg a).length=n/\Pre a/\m5 CL W ∧
  ∀v H' W' fp,ay H H'->ay W W'->ay W' H'->(∀c o,W' c=some o->W c=none->H c=none)->(∀c o,H' c=some o->jd o=true->W' c=some o) →
   bw K CL H' W' QbN v fp->fp.Nodup->(∀c∈fp,W' c=none/\H c=none)->Q v H'
variable{A:Type}{k n:Nat}{f:Addr}{fd:QaN}{ps:At}{arg:Qap}{Pre:Qae}{res:QaV}
def afK(a:A)(F:QpV)(m:Qd9)(hm:Qi8)(p:QiA)(u:Qgn)
  (h:QfV) (hn:QcO) (o:Pre a) (t:Qnd) (s:Qaz)
  (l:AD x:=by decide) (he:Qaw:=by exact bz rfl) (hpl:QaK:=by rfl) :
  bR X CL b QbW U QbN δ1:=λH Z Y ts vs Q S kk=>
 bY (JR F m s hm p u .nil D9 J6 l he hpl) (h H Z Y ts vs _ S λus H1 Z1 g k1 c r=>by
  rw[hX];refine⟨H1,a,.refl _,λ_ _ q _=>q,r,hn,o,c.N1,λv H' W' fp d ww j nw tp rt nd own=>?_⟩;obtain⟨Z',i,y⟩:=c.back d c.zh ww j nw tp rt nd own (.inr t);exact kk v H' Z' (g.trans i) (k1.trans d) y)
theorem aa8(a:A)(F:QpV)(o:Qd9)(hm:Qi8)(q:QiA)(s:Qgn)
  (h:QhD) (hn:QcO) (p:Pre a) (r:Qaz)
  (m:AD x:=by decide) (he:Qaw:=by exact bz rfl) (hpl:QaK:=by rfl) :
  bR X CL b QbW U QbN δ1:=λH Z Y ts vs Q S kk=>
 bY (JR F o r hm q s .nil D9 J6 m he hpl) (h H Z Y ts vs _ S λus H1 Z1 hl i k1 d=>by
  rw[hX];have c:us.length=(arg a).length:=by simp_all
  have t:=d.drops (by simp[c]);refine⟨Z1,a,d.zh,d.tp,d.Dq c,hn,p,d.RG,λv H' W' fp g ww l nw tp rt nd own=>?_⟩;obtain⟨Z',j,u⟩:=t.back g QA ww l nw tp rt nd own Qal;exact kk v H' Z' (i.trans j) (k1.trans g) u)
variable{D D':cY}{st:Stmt}{dO ao2:CA}
theorem Meets.to{E:Ends}(M:QsY)(h1:∀U,D'.nx U->D.nx U)(d:∀t U,D'.rt t U->D.rt t U)(c:∀U,D'.bk U->D.bk U)(a:∀U,D'.ct U->D.ct U):Meets K CL b Z ts vs D' E:=
 ⟨λ_ _ _ _ s S k=>M.nx _ _ _ _ s S (h1 _ k),λ_ _ _ _ _ _ s S k=>M.rt _ _ _ _ _ _ s S (d _ _ k),λ_ _ _ _ s S k=>M.bk _ _ _ _ s S (c _ k),λ_ _ _ _ s S k=>M.ct _ _ _ _ s S (a _ k)⟩
def ai(h:D.nx U):cG X CL b [] U D:=λH Z Y ts vs E S M=>Ll afj (M.nx U Y H Z QA S h)
def bK(h:Vr X CL b st U {D with nx:=λδ1=>cG X CL b dO δ1 D}):cG X CL b (st::dO) U D:=λH Z Y ts vs E S M=>
 Ll (Nz NN XQ) (h H Z Y ts vs _ S ⟨λU' Y' H' Z' s a k=>k H' Z' Y' ts vs E a (M.mono s),M.rt,M.bk,M.ct⟩)
def abb(h:D.bk U):Vr X CL b (.Break pos) U D:=λH Z Y ts vs E S M=>mZ aaw (M.bk U Y H Z QA S h)
def afL(h:D.ct U):Vr X CL b (.Continue pos) U D:=λH Z Y ts vs E S M=>mZ NB (M.ct U Y H Z QA S h)
def akZ(h:QaP)(k:D.rt t δ1):Vr X CL b Qvl U D:=λH Z Y ts vs E S M=>mZ (akg cA) (h H Z Y ts vs _ S λv H1 Z1 a k1 c=>M.rt t v H1 Z1 δ1 Y a c k)
theorem ao3(h:QbY)(h1:p=true->cG X CL b dO δ1 D)(d:p=false->cG X CL b ao2 δ1 D):Vr X CL b (.If e dO ao2 pos) U D:=λH Z Y ts vs E S M=>
 mZ (aot q0 XQ XQ) (h H Z Y ts vs _ S λH1 Z1 a k1 c=>by
  cases p with
  | true=>exact XF (h1 rfl H1 Z1 Y ts vs E c (M.mono a))
  | false=>exact XD (d rfl H1 Z1 Y ts vs E c (M.mono a)))
def Ka(i:Nat){pos':Pos}(h:QaP)(k:Qtj)(hl:Qb5:=by decide)(d:Qbm:=by assumption)(hi:X.N[i]? = some x:=by rfl)(c:Qdi:=by first|exact .inl rfl|exact .inr rfl)
  (hs:Qdx:=by rfl) (hf:Qdj:=by first|exact .inl rfl|exact .inr rfl|assumption):Vr X CL b Qlx U D:=λH Z Y ts vs E S M=>
 mZ QtH (h H Z Y ts vs _ S λv H1 Z1 a k1 f=>M.nx _ _ H1 Z1 a (f.set hl) k)
end
noncomputable def entry(N:At)(ds:BB):BA:=ds.map Qh4++List.replicate (N.length-ds.length) none
theorem jV{K:Frag}{CL:BM}{H Z:Hp}:∀{ds:BB} {vs:B1} (n:Nat),av K CL Z ds vs->e9 K CL H Z (ds.map Qh4++List.replicate n none) Qq7 []
 | _,_,0,.nil=>.nil
 | _,_,n+1,.nil=>.skip (jV n .nil)
 | _,_,n,.cons r t=>.cons (.sh r) (jV n t)
variable{P:Qah}{w:World}{st:Stmt}{f:Addr}{fd:QaN}{ps:At}
def Kc{mg:Bi}{base:Heap}{qual:Str}{N:At}{k:Nat}{sp:Sp}(F:Qdm)(S:Qdn)(len:∀vs H Q E,sp vs H Q E->vs.length=ps.length)
  (b:∀(d7:Value) (A:Qaq) (outer:D2) (s:Qb) (H:Hp) (vs:B1) (Q:VK) (E:XK),fd.code=d7->eL k QuW->sp vs H Q E →
   ∃t,Ri (tF oS P w K mg base N qual Qa7 f d7 A outer s H E).Q8 QbE t/\t {nx:=λ_ H'=>Q .non H',rt:=Q} (L2.start N vs) H):dB P w K mg base oS Qao f fd ps sp:=by
 obtain⟨dV,oc,od,kV,doc,pm,an,d7,ct,IB,rfl,lk,iO⟩:=F.ex;refine Vj lk iO S len λA outer s H vs Q E a c=>?_;obtain⟨t,h,q⟩:=b d7 A _ s H vs Q E rfl a c;exact⟨t,h.Q8,q⟩
variable{A:Type}
theorem kW{mg:Bi}{base:Heap}{qual:Str}{N:At}{k:Nat}{arg:Qap}{Pre:Qae}{res:QaV}(F:Qdm)(S:Qdn)
  (p:∀(d7:Value) (g:Qaq) (outer:D2) (s:Qb) (H:Hp) (E:XK) (b:Bx) (a:A),fd.code=d7->eL k (g.deeper QfO)->Pre a →
   cG (tF oS P w K mg base N qual Qa7 f d7 g outer s H E).Q8 CL b QbE Qgv {nx:=λ_=>res a=.sh .non,rt:=λt _=>t=res a}) :
  dB P w K mg base oS Qao f fd ps Qq8:=by
 refine Kc F S (λvs H Q E h=>?_) (λd7 g outer s H vs Q E iO m h=>?_)
 .obtain⟨W,a,_,_,r,hl,_⟩:=h;rw[<- r.length];exact hl
 .obtain⟨W,a,i,tp,r,hl,n,tb,kk⟩:=h;refine⟨_,XQ,p d7 g _ s H E ⟨H,W⟩ a iO m n H W _ [] [] _ ⟨⟨[],[],?_,.nil,lr,λa d=>by cases d⟩,.refl _,.refl _,i,λa o q z=>?_,tp,tb⟩ ⟨λU' Y' H' Z' s' c e=>?_,λt v H' Z' U' Y' s' c e=>?_,λ_ _ _ _ _ _ e=>e.elim,λ_ _ _ _ _ _ e=>e.elim⟩⟩
  .unfold entry L2.start;rw[<- r.length];exact jV _ r
  .grind
  .exact kk .non H' Z' [] c.bh c.zz c.zh c.new c.tp (by rw[e];exact .sh .non) lr λa d=>by cases d
  .have u:=e;subst u;obtain⟨fp,gp,_,l,nd,own⟩:=c.rep;cases l with
   | @cons _ _ _ _ f1 f2 j y=>
    have h1:=(kc.1 nd).2.1;exact kk v H' Z' f1 c.bh c.zz c.zh c.new c.tp j (kc.1 h1).1 λa d=>own a (hV _ QkC)
variable{prog:Qah}{A:Qaq}{R:QsH}{s:Qb}{elt iter:Expr}{ifs:Cl}{scope:Scope}
theorem Kd{target:Expr}{it acc:Value}(I:Nat->Shared->Prop)
  (turn:∀n s,I n s->wpAny Qad A (pyNext it) (λr d=>match r with
   | none=>R QjP d
   | some v=>wpAny Qad A (letOwnedTupleGo target it v) (λ_ b=>wpAny Qad A (assign target env v) (λ_ g=>
     wpAny Qad A (forIn ifs true λc r=>if r=true then do let ok ← isTrue c env (eval c env);pure Qtk else pure QmE) (λok a=>
      if ok=true then wpAny Qad A (eval elt env) (λx f=>
       wpAny Qad A (call (.builtin "list.append") [acc,x]) (λ_ e=>∃m,m<n/\I m e) Qbj f) Qbj a
      else ∃m,m<n/\I m a) Qbj g) Qbj b) Qbj d) Qbj s)
  (n:Nat) (h:I n s) :
  codeAny Qad A (.compLoop (.ListComp elt [⟨target,iter,ifs,0⟩] scope pos) 0 it acc env) R s:=by
 refine codeAny_loop rfl I (λn s q=>?_) n h;refine wpAny_noted ?_;rw[compTurn_list];refine cz (yY (cz (i8 (turn n s q) (λr d j=>?_) λ_ _ h'=>h'.elim)));cases r with
 | none=>exact hL j
 | some v=>
  refine cz (i8 j (λ_ b k=>?_) λ_ _ h'=>h'.elim);refine cz (i8 k (λ_ g p=>cz (i8 p (λok a i=>?_) λ_ _ h'=>h'.elim)) λ_ _ h'=>h'.elim);cases ok with
  | false=>exact hL ⟨rfl,i⟩
  | true=>
   exact cz (cz (i8 i (λx f o=>cz (i8 o (λ_ e l=>hL (hL ⟨rfl,l⟩)) λ_ _ h'=>h'.elim)) λ_ _ h'=>h'.elim))
abbrev _root_.DO:=List (Str×NameKind)
noncomputable def d8(env:Env):DO->List Qlo->List Qlo
 | [],cs=>cs
 | (n,k)::r,cs=>d8 env r (if k == .free then(n,(env.cells.lookup n).getD 0)::cs else cs)
theorem oV(h:∀x∈scope.names,x.2=.free->∃c,env.cells.lookup x.1=some c):closureFor scope env=pure (d8 env scope.names []):=by
 have go:∀(l:Qea) (cs:Qea),(∀x∈l,x.2=.free->∃c,env.cells.lookup x.1=some c) →
   (forIn l cs λx r=>match x with|(name,kind)=>if (kind==NameKind.free)=true then do let a ← cellOf env name;pure (ForInStep.yield ((name,a)::r)) else pure QmE:Sem _)=pure (d8 env l cs):=by
  intro l
  induction l with
  | nil=>intro cs _;rfl
  | cons x r f=>
   intro cs d;obtain⟨n,k⟩:=x;rw[List.forIn_cons];by_cases j:k=.free
   .subst j;obtain⟨c,g⟩:=d _ gF rfl;have e:cellOf env n=pure c:=by unfold cellOf;rw[g]
    simp only[wy,if_true,e,pure_bind];rw[f _ λy b=>d y QkD];simp[d8,if_true];rw[g];rfl
   .have i:QmU=false:=by grind
    simp only[i,nh,l6,pure_bind];rw[f _ λy b=>d y QkD];simp[d8,i,nh,l6]
 unfold closureFor;have:=go _ [] h;simp only[bind_pure]at this ⊢;exact this
theorem qL{env:Env}:∀{l:DO} {cs:Qj1} {y:Str} {c:Addr},(∀x∈l,x.2=.free->∃c,env.cells.lookup x.1=some c)->(∀y c,cs.lookup y=some c->env.cells.lookup y=some c) →
  (d8 env l cs).lookup y=some c->env.cells.lookup y=some c
 | [],cs,y,c,_,h,e=>h y c e
 | (n,k)::r,cs,y,c,a,h,e=>by
  refine qL (λz hz=>a z QjV) (λz d hz=>?_) e;by_cases b:k=.free
  .subst b;obtain⟨g,f⟩:=a _ gF rfl;grind
  simp_all
theorem Ce{env:Env}{y:Str}:∀{l:DO} {cs:Qj1},(∃c,cs.lookup y=some c)->∃c,(d8 env l cs).lookup y=some c
 | [],cs,h=>h
 | (n,k)::r,cs,h=>by
  refine Ce (l:=r) ?_;by_cases a:QmU=true
  .rw[ec a,k4];by_cases b:(y==n)=true
   .rw[b];simp_all
   .have:(y==n)=false:=by simp_all
    rw[this];exact h
  .rw[bS a];exact h
theorem m8{env:Env}{y:Str}:∀{l:DO} {cs:Qj1},l.lookup y=some .free->∃c,(d8 env l cs).lookup y=some c
 | [],_,h=>by simp at h
 | (n,k)::r,cs,h=>by
  rw[k4]at h;by_cases a:(y==n)=true
  .refine Ce (l:=r) ?_;simp_all
  .have:(y==n)=false:=by simp_all
   rw[this]at h;exact m8 (l:=r) h
def c6(X:Cx)(scope:Scope)(Nc:At)(C:Addr)(s:Qb)(H:Hp)(fp:BY):Cx where
 prog:=X.prog
 w:=X.w
 K:=X.K
 mg:=X.mg
 base:=X.base
 A:=X.A
 N:=Nc
 hO:=s
 ip:=H
 env:=compEnvC scope Qb7 C X.env
 outer:=X.stack
 stack:=X.stack
 ex:=fp
 fn:=λ_=>false
 calm:=X.calm
 pn:=[]
 xe:=λ_ _=>False
abbrev _root_.Co:=List Nat
structure g7(X:Cx)(scope:Scope)(x:Str)(Nc:At)(ix:Co):Prop where
 kind:scope.kind=.function
 AI:∀y∈scope.names,y.2 ≠ .cell
 nd:Nc.Nodup
 names:∀y∈scope.names,y.2=.local->scope.names.lookup y.1=some .local
 own:scope.names.lookup x=some .local
 frees:∀y∈scope.names,y.2=.free->scope.names.lookup y.1=some .free/\QpW
 hd:Nc=x::ix.filterMap (X.N[·]?)
 q2:∀i∈ix,∃y,X.N[i]? = some y/\scope.names.lookup y=some .free
theorem gS{env:Env}:∀{names:DO} {x:Str} {k:NameKind},names.lookup x=some k ->
  (names.map λ(n,k)=>if (k==NameKind.free&&env.scope.kind == .function&&env.kindOf n==some .cell) then(n,NameKind.cell) else(n,k)).lookup x=some (if (k==NameKind.free&&env.scope.kind == .function&&env.kindOf x==some .cell) then .cell else k)
 | [],_,_,h=>by simp at h
 | (n,b)::r,x,k,h=>by
  have c:=@gS env r x k;show List.lookup x (Qo8::_)=_;cases a:x==n with
  | true=>
   simp[k4,a]at h;cases h;have e:x=n:=by grind
   subst e;split<;>simp
  | false=>
   simp[k4,a]at h;split
   .simp only[k4,a];exact c h
   .simp only[k4,a];exact c h
theorem lN{env:Env}:∀{names:DO} {x:Str},names.lookup x=none ->
  (names.map λ(n,k)=>if (k==NameKind.free&&env.scope.kind == .function&&env.kindOf n==some .cell) then(n,NameKind.cell) else(n,k)).lookup x=none
 | [],_,_=>rfl
 | (n,b)::r,x,h=>by
  have c:=@lN env r x;show List.lookup x (Qo8::_)=_;cases a:x==n with
  | true=>simp only[k4,a]at h;cases h
  | false=>
   simp only[k4,a]at h;split
   .simp only[k4,a];exact c h
   .simp only[k4,a];exact c h
variable{Nc:At}{ix:Co}{pins:BC}
noncomputable def AJ(Y:L2.St)(ix:Co)(o:Qeb):L2.St:=o::ix.map λi=>(Y[i]?).getD none
theorem XR{l:BC}{Y':L2.St}{s':Qb}{f:Heap}(I:QE)(i:∀b∈fp,lA X pins H b)
  (J:Inv Qqk l Y' H' s') (hs:Heap.SameBut s.heap.objs.size s'.heap f):Inv X pins Y H' {s' with heap:=f}:=by
 have un:Un Qbz fp H H' s.heap _:=J.base;have j:Un Qbz fp H H' s.heap f:=by
  have ne:∀b o,s.heap.get? b=some o->b≠s.heap.objs.size:=λb o e=>i2 (h9 e);refine⟨λb o e n a h=>(hs.2 b QoV).trans (un.keep b o e n a h),λb o e n a h=>?_,un.free,λb o e h=>?_,un.CZ,un.dz,un.C1⟩
  .obtain⟨sl,q⟩:=un.slot b o e n a h;exact⟨sl,(hs.2 b QoV).trans q⟩
  .obtain⟨o',q⟩:=un.there b o e h;exact⟨o',(hs.2 b QoV).trans q⟩
 have m:H' s.heap.objs.size=none:=J.free;have ck:=λb u e=>by
  refine(J.ck b u e).yQ (λc v r q=>(hs.2 c ?_).trans q) QcC λ_ _ q=>q;rintro rfl;grind
 obtain⟨p,g,d,t,k⟩:=s';obtain rfl:k=s.os:=J.os;exact I.call j ck J.bare λb a=>⟨(i b a).2.2.2.1,(i b a).2.1,(i b a).2.2.2.2.1,(i b a).2.2.2.2.2⟩
def LB(X:Cx):Cl->TT
 | []=>λ_ H Q=>Q true H
 | [c]=>yl X c
 | _=>λ_ _ _=>False
def abd(I:QE)(h:LB X ifs Y H Q)(a:Qgi) :
  wpAny Qr X.A (forIn ifs true λc r=>if r=true then do let ok ← isTrue c X.env (eval c X.env);pure Qtk else pure QmE) QeP Qbj s:=by
 match ifs,h with
 | [],h=>exact wpAny_tests_nil ⟨H,I,h⟩
 | [c],h=>
  have:=h pins s I;rw[a]at this;exact wpAny_tests_one this
def HU(X:Cx)(CL:BM)(b:Bx)(ifs:Cl)(U:BA)(p:Bool):Prop:=
 match ifs with
 | []=>p=true
 | [c]=>sN X CL b c U p U
 | _=>False
theorem HU.sem(h:HU X CL b ifs U p)(S:aV X.K CL b H Z U Y [] [])
  (k:∀H' Z',ay Z Z'->ay H H'->aV X.K CL b H' Z' U Y [] []->Q p H'):LB X ifs Y H Q:=by
 match ifs,h with
 | [],h=>
  have e:=h;subst e;exact k H Z QA QA S
 | [c],h=>exact(h) H Z Y [] [] Q S k
def qk:(T.lst ts).clean=T.dR ts:=rfl
theorem Ei{g:D->T}:∀{ds:BB},(∀d∈ds,(g d).clean=true)->T.dR QoL=true
 | [],_=>rfl
 | d::ds,h=>by
  rw[ik,T.dR,h d gF,Ei λe he=>h e QjW];rfl
theorem aN.at:∀{tl:Bn} {us:B1} {fp:BY} {j:Nat} {t:T},aN K CL H Z tl us fp->tl[j]? = some t->∃v f1 f2 b,us[j]? = some v/\fp=f1++(f2++b)/\bw K CL H Z t v f2 ∧
  ∀{H':Hp} {t':T} {v':V} {g:BY},(∀a∈f1++b,H' a=H a)->bw K CL H' Z t' v' g->aN K CL H' Z (tl.set j t') (us.set j v') Qow
 | _,_,_,_,_,.nil,e=>by simp at e
 | _,_,_,0,_,.cons (fp:=fp) (gp:=gp) r q,e=>by
  simp at e;subst e;exact⟨_,[],fp,gp,rfl,rfl,r,λ{H' t' v' g} k c=>aN.cons (fp:=g) c (aN.mono QA (λa d=>k a (‹_›)) q)⟩
 | _,_,_,j+1,t,.cons (fp:=fp) r q,e=>by
  obtain⟨v,f1,f2,b,h1,i,h,f⟩:=aN.at q (‹_›);refine⟨v,fp++f1,f2,b,‹_›,Wp,h,λk c=>?_⟩;rw[h5];exact .cons (r.mono QA λa d=>k a (by simp[d])) (f (λa d=>k a Wp) c)
variable{α:Type}
theorem iI{l:Q8}{x:α}(h:l[i]? = some x):l.set i x=l:=by
 apply Hn;intro j;rw[List.getElem?_set];split
 .rename_i e;subst e;split
  .exact h.symm
  grind
 .rfl
theorem aV.write{f1 f2 d g gp f:BY}(S:Qar)(nd:(Qe0++gp).Nodup)(own:∀c∈Qe0++gp,Z c=none/\b.B c=none)(k:a∈f2)
  (m:∃o,H a=some o) (l:e9 K CL Qnk Z U2 Y QjK) (j:aN K CL Qnk Z tl us f) (pm:(QjK++f).Nodup) (sub:∀c∈QjK++f,c∈Qe0++gp) :
  aV K CL b Qnk Z U2 Y tl us:=by
 have h:=own a (by simp[k]);refine⟨⟨_,_,l,j,pm,λc e=>own c (sub c e)⟩,λc o q=>?_,S.zz,λc o q=>?_,S.new,λc o q i=>?_,S.tab⟩
 .rw[aq (aJ q h.2)];exact S.bh c o q
 .rw[aq (aJ q h.1)];exact S.zh c o q
 .by_cases e:c=a
  .subst e;rw[aA]at q;cases q;cases i
  .rw[aq e]at q;exact S.tp c o q i
theorem aV.append(S:Qb9)(hi:U[i]? = some QdY) :
  ∃a us,Y[i]? = some Qof/\H a=some Qe7/\us.length=tl.length/\aV K CL b Qst Z (U.set i QfZ) Y ts vs:=by
 obtain⟨fp,gp,e,r,nd,k⟩:=S.rep;obtain⟨v0,f1,f2,l,hv,o,rt,put,_⟩:=e.get hi;subst o;obtain⟨a,us,g,rfl,rfl,n,rs⟩:=rt.gR;cases r with
 | @cons _ _ _ _ j f q1 q=>
  have ne:∀c∈(f1++(g++l))++(j++f),c≠a:=λc d e=>by
   subst e;have m:((f1++((c::g)++l))++(j++f)).Perm (c::((f1++(g++l))++(j++f))):=by simp
   exact(kn.1 (m.nodup_iff.1 nd)).1 d
  refine⟨a,us,hv,n,rs.length.symm,?_⟩;have p:bw K CL _ Z _ Qag _:=
   .lst aA (aN.app (rs.mono QA λc d=>aq (ne c (by simp[d]))) (.cons (q1.mono QA λc d=>aq (ne c (by simp[d]))) .nil))
  have e2:=put QA (λc d=>aq (ne c (by
   obtain h|h:=hG.1 d
   .simp[h]
   .simp[h]))) p
  rw[iI hv]at e2;have m:((f1++((a::(g++(j++[])))++l))++f).Perm ((f1++((a::g)++l))++(j++f)):=by
   simp only[hX,l7,h5];refine o9 f1 (List.Perm.cons a (o9 g ?_));rw[<- h5,<- h5];exact l8.append_right f
  exact S.write nd k (gF) ⟨_,n⟩ e2 (q.mono QA λc d=>aq (ne c (by simp[d]))) (m.nodup_iff.2 nd) λc d=>m.mem_iff.1 d
section
variable{tl0:Bn}{D:cY}{pp pa pb:Pos}
def ak1(i:Nat)(h0:U[i]? = some QiQ)(h:QaP)(h1:δ1[i]? = some QdY)(hl:tl.length<sizeLine)(k:D.nx (δ1.set i QfZ))
  (hi:X.N[i]? = some x:=by rfl) (hv:Qnx:=by first|exact Or.inl rfl|exact Or.inr (Or.inl rfl)|exact Or.inr (Or.inr rfl)) (hd:AD x:=by decide) (iO:AE x:=by decide)
  (o:QkK:=by rfl)
  (g:Qhl:=by rfl)
  (c:Qf3:=by rfl) (hs:QaA:=by exact bz rfl) (r:QkY:=by rfl) :
  Vr X CL b (.Expr QkG pos) U D:=λH Z Y ts vs E S M=>
 mZ (yR (IG y8 Mn Me vq Qgu QaY o g c hs rfl) r) (by
  obtain⟨v0,e0,j⟩:=S.look h0;refine⟨v0,e0,?_,?_⟩
  .obtain⟨_,_,rfl,m,_⟩:=j.gR;exact .inl ⟨rfl,_,m⟩
  .refine h H Z Y ts vs _ S λv H1 Z1 f k1 q=>?_;obtain⟨a,us,d,n,l,p⟩:=q.append h1;rw[e0]at d;cases d;exact⟨a,us,v,rfl,rfl,n,l▸hl,M.nx _ Y _ Z1 f p k⟩)
end
def Pf:Option FC->FC
 | some (some t)=>some Qgq
 | _=>none
noncomputable def NJ:Option FC->FC
 | some (some (T.sh d))=>some QaR
 | _=>none
def zb(U:BA)(ix:Co):BA:=ix.map λi=>Pf U[i]?
def Ej(U:BA)(ix:Co):BA:=ix.map λi=>NJ U[i]?
theorem zc(S:Qar):∀(ix:Co) (H':Hp),e9 K CL H' H (zb U ix) (ix.map λi=>(Y[i]?).getD none) []
 | [],_=>.nil
 | i::r,H'=>by
  have a:=zc S r H';show e9 K CL H' H (Pf _::zb U r) (((Y[i]?).getD none)::r.map _) [];cases e:U[i]? with
  | none=>exact .skip a
  | some o=>
   cases o with
   | none=>exact .skip a
   | some t=>
    obtain⟨v,hv,c⟩:=S.look e;rw[hv];exact .cons (.sh c) a
theorem N2(S:Qar):∀(ix:Co) (H':Hp),e9 K CL H' Z (Ej U ix) (ix.map λi=>(Y[i]?).getD none) []
 | [],_=>.nil
 | i::r,H'=>by
  have a:=N2 S r H';show e9 K CL H' Z (NJ _::Ej U r) (((Y[i]?).getD none)::r.map _) [];cases e:U[i]? with
  | none=>exact .skip a
  | some o=>
   cases o with
   | none=>exact .skip a
   | some t=>
    cases t with
    | sh d=>
     obtain⟨v,hv,c⟩:=S.Mc e;rw[hv];exact .cons (.sh c) a
    | tup _=>exact .skip a
    | lst _=>exact .skip a
    | ins _ _=>exact .skip a
    | iC _=>exact .skip a
    | dct _=>exact .skip a
    | pin _ _=>exact .skip a
    | jN _ _ _=>exact .skip a
section
variable{ds:BB}
structure Comes(X:Cx)(CL:BM)(b:Bx)(δ1:BA)(Y:L2.St)(ts:Bn)(vs:B1)(Z H:Hp)(ds:BB)(J:It)(H1:Hp):Prop where
 ex:∃Z1 us,ay Z Z1/\ay H H1/\aV X.K CL b H1 Z1 δ1 Y ts vs/\av X.K CL Z1 ds us/\(∀i H2,ay Z1 H2->i<ds.length->J.go i H2) ∧
  (∀i H2 x H',ay Z1 H2->i<ds.length->J.n3 i H2 x H'->H'=H2/\us[i]? = some x)/\(∀H2,ay Z1 H2->J.stop ds.length H2)
def oT(X:Cx)(CL:BM)(b:Bx)(tg e:Expr)(U:BA)(ds:BB)(δ1:BA):Prop:=
 ∃a,PI X tg e a/\∀(H Z:Hp) (Y:L2.St) (ts:Bn) (vs:B1) (R:QgE),aV X.K CL b H Z U Y ts vs->(∀J H1,Comes X CL b δ1 Y ts vs Z H ds J H1->R J H1)->a Y H R
theorem c7{tg:Expr}(h:bR X CL b iter U QdN δ1):oT X CL b tg iter U ds δ1:=by
 refine⟨_,Vd cA,λH Z Y ts vs R S k=>h H Z Y ts vs _ S λv H1 Z1 g k1 e=>?_⟩;obtain⟨fp,gp,_,r,_,_⟩:=e.rep;cases r with
 | cons r _=>
  replace r:=r.GX;obtain⟨rfl,r⟩:=r;obtain⟨a,us,rfl,c,d⟩:=r.gR;refine⟨a,rfl,⟨us,e.zh.seq c⟩,k _ _ ⟨Z1,us,g,k1,e.pop,d,λi H2 s hi=>?_,λi H2 y H' s hi f=>⟨f.1,f.2 us (s.seq c)⟩,λH2 s=>⟨us,s.seq c,by rw[d.length];grind⟩⟩⟩;have j:=d.length▸hi;exact⟨us,us[i],s.seq c,Wl⟩
theorem RJ{tg:Expr}(h:bR X CL b iter U QdB δ1):oT X CL b tg iter U ds δ1:=by
 refine⟨_,akq cA,λH Z Y ts vs R S k=>h H Z Y ts vs _ S λv H1 Z1 g k1 e=>?_⟩;obtain⟨fp,gp,_,r,_,_⟩:=e.rep;cases r with
 | cons r _=>
  replace r:=r.GX;obtain⟨rfl,r⟩:=r;obtain⟨a,us,rfl,c,d⟩:=r.lS;refine⟨a,rfl,⟨us,ay.Dn e.zh c⟩,k _ _ ⟨Z1,us,g,k1,e.pop,d,λi H2 s hi=>?_,λi H2 y H' s hi f=>⟨f.1,f.2 us (ay.Dn s c)⟩,λH2 s=>⟨us,ay.Dn s c,by rw[d.length];grind⟩⟩⟩;have j:=d.length▸hi;exact⟨us,us[i],ay.Dn s c,Wl⟩
noncomputable def fH(lo:Int)(n:Nat):BB:=(List.range n).map λ(i:Nat)=>D.int (lo+i)
def abf(lo:Int)(n:Nat):av K CL Z (fH lo n) ((List.range n).map λ(i:Nat)=>V.int (lo+i)):=by
 unfold fH;generalize List.range n=l
 induction l with
 | nil=>exact .nil
 | cons i r a=>exact .cons Qbu a
theorem kX{tg:Expr}{pr pc:Pos}{n:Int}(hm:Qi1)(h:cL X CL b iter U QdP δ1)(hn:-(2 ^ 62)<=n/\n<2 ^ 62)(g:QjI)(f:starEach [iter] X.env=[(false,eval iter X.env)]:=by rfl)(c:AC X iter []:=by exact bz rfl) :
  oT X CL b tg (.Call QtY [iter] [] pc) U (fH 0 n.toNat) δ1:=by
 refine⟨_,Xq g hm (b8 cA dZ c) f,λH Z Y ts vs R S k=>h H Z Y ts vs _ S λv H1 Z1 e k1 j r=>⟨n,by rw[r.sc rfl],hn.1,hn.2,k _ _ ⟨Z1,_,e,k1,j,abf 0 _,λi H2 s hi=>?_,λi H2 y H' s hi d=>?_,λH2 s=>?_⟩⟩⟩
 .show i<n.toNat;have:(fH 0 n.toNat).length=n.toNat:=by simp[fH]
  lia
 .have a:i<n.toNat:=by simpa [fH] using hi
  refine⟨d.1,?_⟩;rw[ib,ue a,d.2];rfl
 .show n.toNat<=(fH 0 _).length;simp[fH]
abbrev _root_.Ee:=Nat->BA->Prop
theorem ak3{D:cY}{dO:CA}(i:Nat){pos':Pos}(P:Ee)(h:oT X CL b Qek iter U ds δ1)(h0:Qec)(hl:∀j U,P j U->i<U.length)
  (hs:∀j d U,ds[j]? = some d->P j U->cG X CL b dO Qgy {nx:=P QR,rt:=D.rt,bk:=D.nx,ct:=P QR}) (hd:∀U,P ds.length U->D.nx U)
  (u:QhT) (z:QaU) (B:Qbm) (hi:X.N[i]? = some x) (p:Qdi) (hf:Qdj) (r:Qco:=by intro _;rfl) :
  Vr X CL b (.For Qek iter dO [] pos) U D:=λH Z Y ts vs E S M=>by
 obtain⟨I,pi,hw⟩:=h;refine mZ (Rn u z pi (vn B hi p hf) XQ r) (hw H Z Y ts vs _ S λJ H1 zz=>?_);obtain⟨Z1,us,f,k1,F,n,go,l,st⟩:=zz;refine⟨λj m Y H2=>m=ds.length-j/\j<=ds.length/\∃Z2 U2,ay Z1 Z2/\aV X.K CL b H2 Z2 U2 Y ts vs/\P j U2,⟨_,rfl,hY _,Z1,δ1,.refl _,F,h0⟩,?_⟩;rintro j m Y H2 ⟨rfl,L,Z2,U2,s,c,p2⟩;by_cases g:j<ds.length
 .refine .inr ⟨go j H2 QgF g,_,λY' H' h=>⟨ _,We,rfl,g,h⟩,λy H' o=>?_⟩;obtain⟨e,q⟩:=l j H2 y H' QgF g o;subst e;obtain⟨d,G,rd⟩:=n.XM q;have C:=(c.push (rd.mono s)).set QjF;exact hs j d U2 G p2 _ Z2 _ ts vs _ C ⟨λU' Y' H' Z' s' a k=>⟨Z',U',s.trans s',a,k⟩,λt v H' Z' U' Y' s' a k=>M.rt t v H' Z' U' Y' Qu0 a k,λU' Y' H' Z' s' a k=>M.nx U' Y' H' Z' Qu0 a k,λU' Y' H' Z' s' a k=>⟨Z',U',s.trans s',a,k⟩⟩
 .have e:j=ds.length:=by lia
  subst e;exact .inl ⟨st H2 QgF,M.nx U2 Y H2 Z2 (f.trans s) c (hd U2 p2)⟩
def Block(X:Cx)(CL:BM)(scope:Scope)(Nc:At)(ifs:Cl)(elt:Expr)(δc:BA)(ds:BB)(p:Qhm)(g:D->T):Prop:=
 ∀C s0 b f0 a d,d∈ds->HU Qr8 CL a ifs Qgo (p d)/\(p d=true->bR Qr8 CL a elt Qgo (g d) Qgo)
variable{δc:BA}{p:Qhm}{g:D->T}
end
noncomputable def isD:L3.D->String->Option Bool
 | .non,n=>if n="int" \/ n="str" \/ n="list" \/ n="tuple" \/ n="bool" \/ n="dict" then some false else none
 | .bl _,n=>if n="int" \/ n="bool" then some true else if n="str" \/ n="list" \/ n="tuple" \/ n="dict" then some false else none
 | .int _,n=>if n="int" then some true else if n="str" \/ n="list" \/ n="tuple" \/ n="bool" \/ n="dict" then some false else none
 | .str _, n => if n = "str" then some true else if n = "int" \/ n = "list" \/ n = "tuple" \/ n = "bool" \/ n = "dict" then some false else none
 | .lst _,n=>if n="list" then some true else if n="int" \/ n="str" \/ n="tuple" \/ n="bool" \/ n="dict" then some false else none
 | .tup _,n=>if n="tuple" then some true else if n="int" \/ n="str" \/ n="list" \/ n="bool" \/ n="dict" then some false else none
 | _,_=>none
noncomputable def LA(t n:Qbg):Option Bool:=if (Value.type t==Value.type n)=true then some true else if PySem.W.kitMeta n=true then(fastBuiltinMro t).map (·.contains (.type n)) else none
def qm{t n:Qbg}:PySem.W.kitOne K (.type t) (.type n)=LA t n:=rfl
def abg:(["NoneType","bool","int","str","list","tuple"].all λt=>["int","str","list","tuple","bool","dict"].all λn=>LA t n==some (t==n || Qlg))=true:=by decide +kernel
def vv{t n:Qbg}(a:t∈["NoneType","bool","int","str","list","tuple"])(hn:QpF):LA t n=some (t==n || Qlg):=by
 have:=abg;rw[oD]at this;have h:=this t a;rw[oD]at h;simpa using h n hn
noncomputable def xm:L3.D->Option String
 | .non=>some "NoneType"
 | .bl _=>some "bool"
 | .int _=>some "int"
 | .str _ => some "str"
 | .lst _=>some "list"
 | .tup _=>some "tuple"
 | _=>none
theorem XS:tE X (.builtin "isinstance") (λxs H Q=>∃y n d t,xs=[y,.ty n]/\bC X.K CL H d y/\xm d=some t/\n∈["int","str","list","tuple","bool","dict"]/\Q Qtl H):=by
 intro pins s Y H xs us Q I r h;obtain⟨y,n,d,t,rfl,rd,b,hn,q⟩:=h;obtain⟨u,u2,rfl,f,g⟩:=r.two;cases (show u2=Value.type n from g);have fin:∀tk,EP X pins Y Q _ {s with toks:=tk}:=λtk=>⟨.bl _,H,I.tok tk,rfl,q⟩;cases rd with
 | non=>cases b;cases (show u=Value.none from f);exact xi PySem.W.kitx_none I.Au True.intro (qm.trans (vv Wk hn)) (λz=>nomatch z) fin
 | bl c=>cases b;cases (show u=Value.bool c from f);exact xi PySem.W.kitx_bool I.Au True.intro (qm.trans (vv Wk hn)) (λz=>nomatch z) fin
 | int c=>cases b;obtain⟨tt,e⟩:=(show ∃t,u=Value.int c t from f);cases e;exact xi PySem.W.kitx_int I.Au True.intro Qiv (λz=>nomatch z) fin
 | str c=>cases b;obtain⟨tt,e⟩:=(show ∃t,u=Value.str c t from f);cases e;exact xi PySem.W.kitx_str I.Au True.intro Qiv (λz=>nomatch z) fin
 | @lst a ws _ i j=>
  cases b;cases (show u=Value.ref a from f);obtain⟨its,_,pl,_⟩:=I.list i;obtain⟨o,k,e,c,_⟩:=pl;exact xi PySem.W.kitx_list I.Au ⟨o,e,c⟩ Qiv (λz=>nomatch z) fin
 | @tup a ws _ i j=>
  cases b;cases (show u=Value.ref a from f);obtain⟨its,_,pl,_⟩:=I.tuple i;obtain⟨o,e,c,_⟩:=pl;exact xi PySem.W.kitx_tuple I.Au ⟨o,e,c⟩ Qiv (λz=>nomatch z) fin
 | ins _ _=>cases b
 | any _=>cases b
 | val _=>cases b
 | iC _ _=>cases b
 | dct _ _=>cases b
 | jN _ _ _=>cases b
variable{pp pq:Pos}
def Ke{d:L3.D}{t n:Qbg}{nm:Str}(hm:Qik)(f:X.mg nm=none)(m:QiV)(g:Gl X nm)(i:bootBuiltins nm=some (.type n))(a:nm≠"__name__")(c:AD nm)(h:Qdr)(l:Qkk)(hn:QpF)
  (hs:starEach [e,.Name nm pq] X.env=(false,eval e X.env)::starEach [.Name nm pq] X.env:=by exact bz rfl) :
  bR X CL b (.Call Qh7 [e,.Name nm pq] [] pos) U (.sh Qtl) δ1:=λH Z Y ts vs Q S k=>
 bY (qi (XS) m hm boot_isinstance (b8 cA (b8 (afh g f i (v:=.ty n) rfl a c) dZ) hs) (he:=hs)) (h H Z Y ts vs _ S λv H1 Z1 j k1 o r=>
  ⟨v,n,d,t,rfl,r,l,hn,k _ H1 Z1 j k1 (o.push Qd6)⟩)
variable{n:Nat}
def IQ(h:Nat.ble n 1000=true):n<=sizeLine:=ke (bB (hT h))
structure Vn(X:Cx)(i:Nat)(x:Str):Prop where
 hi:X.N[i]? = some x
 hv:rF X.env.scope x
 hd:Qh9=false
 iO:QrB=false
structure Ln(X:Cx)(i:Nat)(x:Str):Prop extends Vn X i x where
 loc:Loc X.env.scope x
 hf:X.fn x=true\/X.env.scope.names.lookup x=some .local
structure Gx(X:Cx):Prop where
 nd:X.N.Nodup
 calm:X.calm=true
 xe:PassesOwn Qr X.A X.env X.xe
structure Fc(X:Cx)(CL:BM)(x:Str)(k n:Nat){A:Type}(arg:Qap)(Pre:Qae)(res:QaV):Prop where
 ex:∃f fd ps,dB X.prog X.w X.K X.mg X.base oS k f fd ps QhI/\X.mg x=some Qaj/\keepIn X.K Qaj=true/\Binds X.K fd ps []
 room:eL k X.A
section
variable{d:L3.D}{D:cY}{dO:CA}{ds:BB}
def v_(n:QaW)(h:U[i]? = some QdK:=by rfl):bR X CL b QaF U QaR U:=akU i n.hi n.hv n.hd n.iO h
def vF(n:QaW)(h:U[i]? = some QaM:=by rfl):bR X CL b QaF U Qgq QhW:=afD i n.hi n.hv n.hd n.iO h
def vM(n:QaW)(h:U[i]? = some QaM:=by rfl):bR X CL b QaF U t QdL:=afE i n.hi n.hv n.hd n.iO h
def vB(n:QaW)(h:U[i]? = some QaM:=by rfl):cL X CL b QaF U t.bU U:=akV i n.hi n.hv n.hd n.iO h
def fJ(h:Qsu):bR X CL b (.UnaryOp .USub e pos) U (.sh (.int (-k))) δ1:=λH Z Y ts vs Q S kk=>
 bY (aoC akx cA) (h H Z Y ts vs _ S λv H1 Z1 a k1 c r=>⟨k,r.sc rfl,kk _ H1 Z1 a k1 (c.push Qbu)⟩)
def vL(n:QaW)(h:U[i]? = some (some QdO):=by rfl):cL X CL b QaF U QbX U:=by
 have:=vB (CL:=CL) (b:=b) (pos:=pos) n h
 rwa [T.bU,g6]at this
def c_{k:Nat}{A:Type}{arg:Qap}{Pre:Qae}{res:QaV}(a:A)(F:Qf4)(g:Qaz)(h:QfV)(d:Pre a)(i:Qnd)(hn:QcO:=by rfl)
  (c:AD x:=by decide) (he:Qaw:=by exact bz rfl) (hpl:QaK:=by rfl) :
  bR X CL b QbW U QbN δ1:=by
 obtain⟨f,fd,ps,j,m,k,b⟩:=F.ex;exact afK a j F.room m k b h hn d i g c he hpl
def cF{k:Nat}{A:Type}{arg:Qap}{Pre:Qae}{res:QaV}(a:A)(F:Qf4)(g:Qaz)(h:QhD)(d:Pre a)(hn:QcO:=by rfl)
  (c:AD x:=by decide) (he:Qaw:=by exact bz rfl) (hpl:QaK:=by rfl) :
  bR X CL b QbW U QbN δ1:=by
 obtain⟨f,fd,ps,i,m,k,b⟩:=F.ex;exact aa8 a i F.room m k b h hn d g c he hpl
def aG{pos':Pos}(g:Gx X)(n:Qba)(h:QaP)(k:Qlh)(hl:Qb5:=by exact hT rfl)(hs:Qdx:=by rfl) :
  cG X CL b QhK U D:=bK (Ka i h k hl g.nd n.hi n.loc hs n.hf)
def aU(h:QaP)(k:D.rt t δ1):cG X CL b (.Return Qj4 pos::dO) U D:=bK (akZ h k)
def eO{a c:CA}(h:QbY)(h1:p=true->cG X CL b a δ1 {D with nx:=λU2=>cG X CL b dO U2 D})(d:p=false->cG X CL b c δ1 {D with nx:=λU2=>cG X CL b dO U2 D}):cG X CL b (.If e a c pos::dO) U D:=bK (ao3 h h1 d)
theorem cG.to{D':cY}(h:cG X CL b dO U D')(h1:∀U,D'.nx U->D.nx U)(d:∀t U,D'.rt t U->D.rt t U)(c:∀U,D'.bk U->D.bk U)(a:∀U,D'.ct U->D.ct U):cG X CL b dO U D:=λH Z Y ts vs E S M=>h H Z Y ts vs E S (M.to h1 d c a)
def Ek{a c:CA}(J:BA->Prop)(h:QbY)(h1:p=true->cG X CL b a δ1 {D with nx:=J})(f:p=false->cG X CL b c δ1 {D with nx:=J})(k:∀U2,J U2->cG X CL b dO U2 D):cG X CL b (.If e a c pos::dO) U D:=
 eO h (λd=>cG.to (h1 d) k QtZ QcC QcC) (λd=>cG.to (f d) k QtZ QcC QcC)
def fK{body:CA}{pos':Pos}(g:Gx X)(n:Qba)(P:Ee)(h:oT X CL b Qek e U ds δ1)(h0:Qec)(hl:∀j U,P j U->i<U.length)
  (hs:∀j d U,ds[j]? = some d->P j U->cG X CL b body Qgy {nx:=P QR,rt:=D.rt,bk:=λU2=>cG X CL b dO U2 D,ct:=P QR}) (hd:∀U,P ds.length U->cG X CL b dO U D) (a:AN X e:=by intro _;rfl) :
  cG X CL b (.For Qek e body [] pos::dO) U D:=
 bK (ak3 i P h h0 hl hs hd g.xe g.calm g.nd n.hi n.loc n.hf a)
def qo{o:QfB}{l:Nat}(h:∃c,swapsWith e o l env=pure c):swapsWith e o l env=pure true\/swapsWith e o l env=pure false:=by
 obtain⟨c,h⟩:=h;cases c
 .exact .inr h
 .exact .inl h
def YO{C:Addr}(h1:Nc[i]? = some x)(a:QhO)(hd:AD x:=by decide)(iO:AE x:=by decide):Vn QbJ i x:=
 ⟨h1,.inl QlO,hd,iO⟩
def ak7{C:Addr}(h1:Nc[i]? = some x)(a:Qly)(hd:AD x:=by decide)(iO:AE x:=by decide):Vn QbJ i x:=by
 refine⟨h1,?_,hd,iO⟩;have q:=gS (env:=X.env) a;show(relabel _ _).names.lookup x=some _\/(relabel _ _).names.lookup x=some _\/(relabel _ _).names.lookup x=some _;rw[show(relabel _ _).names.lookup x=_ from q];split
 .exact .inr Qal
 .exact .inr QaI
def afN{C:Addr}(a:Qk4):Gl QbJ x:=by
 have q:=gS (env:=X.env) a;show(relabel _ _).names.lookup x=some _;rw[show(relabel _ _).names.lookup x=_ from q];rfl
noncomputable def lT{C:Addr}{k:Nat}{A:Type}{arg:Qap}{Pre:Qae}{res:QaV}(F:Qf4):Fc QbJ CL x k n arg Pre res:=⟨F.ex,F.room⟩
end
variable{ds:BB}
def afO(h:Ql0)(hl:QbL:=by exact IQ rfl):bR X CL b Qjg U QdN δ1:=by
 have:=J9 (cu (pos:=pos) h (by simpa using hl))
 rwa [T.bU,g6]at this
variable{d:L3.D}{t:Qbg}
def XT:bootBuiltins "int" = some (.type "int"):=by decide +kernel
def isI(hm:Qik)(a:X.mg "int" = none)(g:QiV)(c:Gl X "int")(h:Qdr)(f:Qkk:=by rfl)(hs:starEach [e,.Name "int" pq] X.env=(false,eval e X.env)::starEach [.Name "int" pq] X.env:=by exact bz rfl) :
  bR X CL b (.Call Qh7 [e,.Name "int" pq] [] pos) U (.sh (.bl (t=="int" || (t=="bool" && "int" == "int")))) δ1:=Ke hm a g c XT Wk Wk h f Wk hs
def RK:bootBuiltins "bool" = some (.type "bool"):=by decide +kernel
def isB(hm:Qik)(a:X.mg "bool" = none)(g:QiV)(c:Gl X "bool")(h:Qdr)(f:Qkk:=by rfl)(hs:starEach [e,.Name "bool" pq] X.env=(false,eval e X.env)::starEach [.Name "bool" pq] X.env:=by exact bz rfl) :
  bR X CL b (.Call Qh7 [e,.Name "bool" pq] [] pos) U (.sh (.bl (t=="bool" || (t=="bool" && "bool" == "int")))) δ1:=Ke hm a g c RK Wk Wk h f Wk hs
def aW:bootBuiltins "list" = some Qgp:=by decide +kernel
def isL(hm:Qik)(a:QfG)(g:QiV)(c:QfH)(h:Qdr)(f:Qkk:=by rfl)(hs:starEach [e,.Name "list" pq] X.env=(false,eval e X.env)::starEach [.Name "list" pq] X.env:=by exact bz rfl) :
  bR X CL b (.Call Qh7 [e,.Name "list" pq] [] pos) U (.sh (.bl (t=="list" || (t=="bool" && "list" == "int")))) δ1:=Ke hm a g c aW Wk (rfl) h f Wk hs
def Cg:bootBuiltins "tuple" = some QuV:=by decide +kernel
noncomputable def Q9(sc:Scope)(l:DO):Bool:=l.all λp=>sc.names.lookup p.1==some p.2
def cV{sc:Scope}{l:DO}(h:Q9 sc l=true)(i:Nat){k:NameKind}(hi:l[i]? = some (x,k)):sc.names.lookup x=some k:=by
 unfold Q9 at h;rw[oD]at h;exact p3.1 (h _ (i0 hi))
inductive x2(X:Cx):Co->At->Prop where
 | nil:x2 X [] []
 | cons {i:Nat} {y:Str} {ix:Co} {ys:At} (n:Vn X i y) (k:X.env.kindOf y=some .cell\/X.env.kindOf y=some .free) (r:x2 X ix ys):x2 X (i::ix) (y::ys)
noncomputable def YI(scope:Scope)(x:Str)(a:At):Bool:=
 scope.kind == .function&&scope.names.lookup x==some .local&&a.all Qqa&&decide ((x::a).Nodup) &&
  scope.names.all λy=>y.2 != .cell&&(y.2 != .local || scope.names.lookup y.1==some .local)&&(y.2 != .free || QpX)
theorem cH{d:At}(c:x2 X ix d)(ok:YI scope x d=true):g7 X scope x (x::d) ix:=by
 unfold YI at ok;simp only[kx,oD,pE,p3]at ok;obtain⟨⟨⟨⟨h1,l⟩,h⟩,g⟩,b⟩:=ok;have j:∀y∈d,X.env.kindOf y=some .cell\/X.env.kindOf y=some .free:=by
  clear h g b
  induction c with
  | nil=>intro y a;cases a
  | cons n k r f=>
   intro y a;obtain e|a:=fF.1 a
   .subst e;exact k
   simp_all
 refine⟨h1,λy a e=>?_,g,λy a e=>?_,l,λy a e=>?_,?_,λi hi=>?_⟩
 .have:=(b y a).1.1;rw[e]at this;simp at this
 .have:=(b y a).1.2;rw[e]at this;simpa using this
 .have:=(b y a).2;simp_all
 .congr 1;clear h g b j
  induction c with
  | nil=>rfl
  | cons n k r f=>rw[me,n.hi,<- f]
 .clear g b j
  induction c with
  | nil=>cases hi
  | @cons m y ix ys n k r f=>
   obtain e|hi:=fF.1 hi
   .subst e;exact⟨y,n.hi,h y gF⟩
   .exact f Qvf hi
noncomputable def D.qI:D->Int
 | .int i=>i
 | _=>0
noncomputable def D.toS:D->Str
 | .str x => x
 | _=>Str.empty
theorem fU{bs:AT}(h0:0<=k)(h1:k<bs.length):yO (bs.map D.int) k=some (.int (bs.getD k.toNat 0)):=by
 obtain⟨j,rfl⟩:∃j:Nat,k=j:=⟨k.toNat,We⟩;refine dQ ?_;simp_all
theorem bI:∀(bs:AT),D.aY (bs.map D.int)=true
 | []=>rfl
 | i::r=>by rw[ik,D.aY,bI r];rfl
theorem zf{lo:Int}{d:D}(h:(fH lo n)[j]? = some d):d=.int (lo+j)/\j<n:=by
 have hl:=by
  have:=(ko.1 h).1;simpa [fH] using this
 refine⟨?_,hl⟩;unfold fH at h;rw[ib,ue hl]at h;simp_all
def jk(l:Q8):l.filter (λ_=>true)=l:=by simp
theorem N3{K:Frag}{CL:BM}{Z:Hp}:∀(ns:AT),av K CL Z (ns.map D.int) Qcz
 | []=>.nil
 | n::r=>.cons QdP (N3 r)
mutual
def D.toPy:D->PyData
 | .non=>.none
 | .bl b=>.bool b
 | .int i=>.int i
 | .str x => .str x
 | .tup ds=>.tuple Qfc
 | .lst ds=>.list Qfc
 | .ins _ _=>.none
 | .iC _=>.none
 | .dct _=>.none
 | .any=>.none
 | .val _=>.none
 | .jN _ _ _=>.none
def D.gT:BB->List PyData
 | []=>[]
 | d::ds=>d.toPy::D.gT ds
end
inductive lU:Nat->D->Prop where
 | non (n:Nat):lU n .non
 | bl (n:Nat) (b:Bool):lU n Qd5
 | int (n:Nat) (i:Int):lU n Qbr
 | str (n:Nat) (x:Str) (h:Qm8):lU n Qa4
 | tup {n:Nat} {ds:BB} (h:∀d∈ds,lU n d):lU Qaa QcW
 | lst {n:Nat} {ds:BB} (h:∀d∈ds,lU n d):lU Qaa QbX
noncomputable def tM(a b:D):Bool:=PyData.eqv a.toPy b.toPy
theorem lU.Lu{n:Nat}:∀{ds:BB},(∀d∈ds,d.toPy.canLay0=true/\d.toPy.depth<=n)->PyData.canLayAll0 Qfc=true/\PyData.depthAll Qfc<=n
 | [],_=>⟨ rfl,hY _ ⟩
 | d::ds,h=>by
  have h1:=h d gF;have a:=lU.Lu λe he=>h e QjW;rw[D.gT,PyData.canLayAll0,h1.1,a.1];exact⟨rfl,Nat.max_le.2 ⟨h1.2,a.2⟩⟩
theorem lU.lay{d:D}(h:lU n d):d.toPy.canLay0=true/\d.toPy.depth<=n:=by
 induction h with
 | non n=>exact⟨ rfl,hY _ ⟩
 | bl n b=>exact⟨ rfl,hY _ ⟩
 | int n i=>exact⟨ rfl,hY _ ⟩
 | str n x c=>exact⟨ ‹_›,hY _ ⟩
 | @tup n ds _ a=>
  have:=lU.Lu a;rw[D.toPy,PyData.canLay0,PyData.depth];simp_all
 | @lst n ds _ a=>
  have:=lU.Lu a;rw[D.toPy,PyData.canLay0,PyData.depth];simp_all
def abk{d:D}(h:lU n d):tM d d=true:=SeqAt.eqv_refl _ h.lay.1
def Kf(I:Qbb){d:D}{u:Value}(hd:lU n d)(q:bC X.K CL H d v)(r:QcL):∃as,Reads s.heap u d.toPy as:=by
 refine bC.rec
  (motive_2:=λds vs _=>∀(n:Nat) (us:Qea),(∀d∈ds,lU n d)->Vals vs us->∃as,ReadsAll s.heap us Qfc as) (motive_3:=λ_ _ _=>True) (motive_4:=λ_ _ _=>True) (motive_5:=λ_ _ _=>True)
  (λ_ _ _ r=>?non) (λb _ _ _ r=>?bl) (λi _ _ _ r=>?int) (λx _ _ _ r=>?str) (λ_ _ _ hd _=>by cases hd) (λ_ _ _ hd _=>by cases hd) (λl _ a n u hd r=>?tup) (λl _ a n u hd r=>?lst) (λ_ _ _ _ _ hd _=>by cases hd) (λ_ _ _ _ _ hd _=>by cases hd) (λ_ _ _ _ _ hd _=>by cases hd) (λ_ _ _ _ _ _ _ hd _=>by cases hd)
  (λ_ _ _ r=>?nil) (λ_ _ a j n us h r=>?cons) trivial Qas trivial Qas trivial Qas q n u hd r
 case non=>cases r;exact⟨[],.none⟩
 case bl=>cases r;exact⟨[],.bool b⟩
 case int=>obtain⟨t,rfl⟩:=r;exact⟨[],.int i t⟩
 case str=>obtain⟨t,rfl⟩:=r;exact⟨[],.str x t⟩
 case tup=>
  cases hd with
  | tup hd=>
   cases r;obtain⟨its,f,⟨o,e,c,k,m⟩,_⟩:=I.tuple l;obtain⟨as,g⟩:=a _ _ hd f;exact⟨as,.tuple e c m (‹_›)⟩
 case lst=>
  cases hd with
  | lst hd=>
   cases r;obtain⟨its,f,⟨o,k,e,c,_,m⟩,_⟩:=I.list l;obtain⟨as,g⟩:=a _ _ hd f;exact⟨_,.list e c m (‹_›)⟩
 case nil=>cases r;exact⟨[],.nil⟩
 case cons=>
  cases r with
  | cons r rs=>
   obtain⟨as,g⟩:=a n _ (h _ gF) r;obtain⟨bs,p⟩:=j n _ Qvg rs;exact⟨ _,.cons g p⟩
variable{δ3:BA}{p2:Pos}{t:T}{dO:CA}{DD:cY}{d1 d2:D}{ds:BB}
theorem ak9(k:QaQ):yS X (compareOp .Eq) (λx y H Q=>∃a c,bC X.K CL H a x/\bC X.K CL H c y/\lU 60 a/\lU 60 c/\Q (.bl (tM a c)) H):=by
 intro pins s Y H x y v u Q I f e h;obtain⟨a,c,g,rc,b,d,q⟩:=h;obtain⟨as,j⟩:=Kf I b g f;obtain⟨bs,i⟩:=Kf I d rc e;exact SeqAt.rcAt_reads j i b.lay.1 d.lay.1 (by have:=b.lay.2;lia) _ X.w X.xe _ ⟨.bl _,H,I,rfl,q⟩
def asC{op:CmpOp}{f:Bool->Bool}(n:yS X Qqu (λx y H Q=>∃a c,bC X.K CL H a x/\bC X.K CL H c y/\lU 60 a/\lU 60 c/\Q (.bl (f (tM a c))) H))(h1:Qin)(o:Qig)(k1:lU 60 d1)(k2:lU 60 d2)
  (hm:QtF):sN X CL b QhY U (f Qj7) U2/\bR X CL b QhY U (.sh (.bl (f Qj7))) U2:=by
 constructor
 .intro H Z Y ts vs Q S k;refine y9 (vo n cA cA hm) (h1 H Z Y ts vs _ S λv1 H1 Z1 h e m j=>o H1 Z1 Y ts vs _ m λv2 H2 Z2 g d l i=>?_);exact⟨d1,d2,j.mono d,i,k1,k2,_,rfl,k H2 Z2 QdZ (e.trans d) l⟩
 .intro H Z Y ts vs Q S k;refine bY (yT n cA cA hm) (h1 H Z Y ts vs _ S λv1 H1 Z1 h e m j=>o H1 Z1 Y ts vs _ m λv2 H2 Z2 g d l i=>?_);exact⟨d1,d2,j.mono d,i,k1,k2,k _ H2 Z2 QdZ (e.trans d) (l.push Qd6)⟩
def Kg(a:QaQ)(h1:Qin)(c:Qig)(k1:lU 60 d1)(k2:lU 60 d2):sN X CL b Qes U Qj7 U2/\bR X CL b Qes U (.sh (.bl Qj7)) U2:=
 asC (f:=λb=>b) (ak9 a) h1 c k1 k2 (xj _)
def cutD(xs:Q8)(lo hi:Cc):List α:=(xs.drop QsX).take QpK
theorem av.drop{K:Frag}{Z:Hp}:∀{ds:BB} {vs:B1} (n:Nat),av K CL Z ds vs->av K CL Z (ds.drop n) (vs.drop n)
 | _,_,0,r=>r
 | _,_,_+1,.nil=>.nil
 | _,_,n+1,.cons _ t=>av.drop n t
theorem av.take{K:Frag}{Z:Hp}:∀{ds:BB} {vs:B1} (n:Nat),av K CL Z ds vs->av K CL Z (ds.take n) (vs.take n)
 | _,_,0,_=>.nil
 | _,_,_+1,.nil=>.nil
 | _,_,n+1,.cons r t=>.cons r (av.take n t)
theorem av.cut{ds:BB}(r:QfE)(lo hi:Cc):av K CL Z (cutD ds lo hi) (Xz vs lo hi):=by
 unfold cutD Xz;rw[r.length];exact(r.drop _).take _
theorem qp:∀{ds:BB},D.aY ds=true->∀d∈ds,d.jS=true
 | [],_,_,h=>by cases h
 | d::ds,k,e,h=>by
  rw[D.aY,kx]at k;obtain h|h:=fF.1 h
  .subst h;exact k.1
  .exact qp k.2 e h
theorem fB:∀{ds:BB},(∀d∈ds,d.jS=true)->D.aY ds=true
 | [],_=>rfl
 | d::ds,h=>by rw[D.aY,h d gF,fB λe he=>h e QjW];rfl
def afP{xs:Q8}{lo hi:Cc}{x:α}(h:x∈cutD xs lo hi):x∈xs:=List.mem_of_mem_drop (wg h)
def xl(X:Cx)(CL:BM)(b:Bx)(e:QfB)(U:BA)(k:Cc)(U':BA):Prop:=
 ∃t,PO X e t/\∀(H Z:Hp) (Y:L2.St) (ts:Bn) (vs:B1) (Q:Cc->Hp->Prop),aV X.K CL b H Z U Y ts vs->(∀H' Z',ay Z Z'->ay H H'->aV X.K CL b H' Z' U' Y ts vs->Q k H')->t Y H Q
def lV:xl X CL b none U none U:=⟨_,aft,λH Z Y ts vs Q S k=>k H Z QA QA S⟩
def lW(h:Qsu):xl X CL b Qj4 U (some k) δ1:=⟨_,afu cA,λH Z Y ts vs Q S kk=>h H Z Y ts vs _ S λv H1 Z1 a k1 c r=>⟨k,r.sc rfl,kk H1 Z1 a k1 c⟩⟩
def tN{lo hi:QfB}{l h:Cc}(h1:Qds)(g:Qdt)(y:Qt0)(x:Qt1):bR X CL b Qk1 U (.lst ((cutD ds l h).map T.sh)) δ3:=λH Z Y ts vs Q S k=>by
 obtain⟨t2,f,q⟩:=y;obtain⟨t3,a,o⟩:=x;refine bY (NQ afv cA f a) (h1 H Z Y ts vs _ S λv H1 Z1 n k1 B r=>q H1 Z1 Y ts vs _ B λH2 Z2 m k2 A=>o H2 Z2 Y ts vs _ A λC Z3 j k3 i=>?_);have t:=r.mono (k2.trans k3);obtain⟨_,_,rfl,u,s⟩:=t.gR;refine⟨_,_,rfl,u,λp w=>?_⟩;have rc:=av.jS i.tp (fB λd hd=>qp g d (afP hd)) (s.cut l h);obtain⟨c,z⟩:=(aV.kU rc i).jU (g0:=[]) (by simp[rc.length]) w;exact k _ _ _ (n.trans (m.trans j)) QqI z
def mQ(hm:X.mg "tuple" = none)(h:Qds)(hi:Qdt)(n:Gl X "tuple")(hs:QaA:=by exact bz rfl):bR X CL b QqB U QdB δ1:=λH Z Y ts vs Q S k=>
 bY (mP wm n hm Cg QaY (he:=hs)) (h H Z Y ts vs _ S λv H1 Z1 j k1 g r=>by
  obtain⟨_,_,rfl,m,d⟩:=r.gR;refine⟨_,_,rfl,.inl ⟨m,λl hl=>?_⟩⟩;obtain⟨a,c,o⟩:=(aV.kU (av.jS g.tp hi d) g).AF (by simp[d.length]) hl;obtain⟨Z3,i,f⟩:=o.AA;rw[T.bU,g6]at f;exact k _ _ Z3 QsZ Qcf f)
def iJ{tl0:Bn}{pa pb:Pos}(n:QaW)(h0:U[i]? = some QiQ)(h:QaP)(h1:δ1[i]? = some QdY)(hl:Qne)(k:Qq9)
  (d:QkK:=by rfl)
  (c:Qhl:=by rfl)
  (a:Qf3:=by rfl) (hs:QaA:=by exact bz rfl) (f:QkY:=by rfl) :
  cG X CL b Quo U DD:=
 bK (ak1 i h0 h h1 (nk hl Wk) k n.hi n.hv n.hd n.iO d c a hs f)
def cB(hn:ds.length=n)(hm:QnW)(h:Qds)(a:Gl X "len")(hs:QaA:=by exact bz rfl):bR X CL b Qk9 U Qc1 δ1:=by
 subst hn;exact Vu hm h a hs
def bQ(h:Ql3):cL X CL b e U QbX δ1:=by
 have:=P2 h
 rwa [T.bU,g6]at this
noncomputable def afR{a:BB}(h:Ql3)(c:ds=a):cL X CL b e U (.lst a) δ1:=c▸bQ h
theorem eS{f:α->D}{l:Q8}(z:α)(h0:0<=k)(h1:k<l.length):yO Qdb k=some (f Qup):=by
 obtain⟨j,rfl⟩:∃j:Nat,k=j:=⟨k.toNat,We⟩;refine dQ ?_;simp_all
theorem zg{β:Type}{f:α->β}{l:Q8}{lo hi:Cc}:cutD Qdb lo hi=(cutD l lo hi).map f:=by
 unfold cutD;simp_all
theorem gU{α:Type}{f:α->D}(h:∀a,(f a).jS=true):∀(l:Q8),D.aY Qdb=true
 | []=>rfl
 | a::l=>by rw[ik,D.aY,h a,gU h l];rfl
variable{d:D}
def afS{u:Tok}(hm:X.mg x=some (.int k u))(a:Qaz)(hd:AD x:=by decide):bR X CL b QaF U QeT U:=λH Z Y ts vs Q S kk=>
 bY (afg (v:=.int k) a hm ⟨u,rfl⟩ hd) (kk _ H Z QA QA (S.push (.int k)))
def aK(hm:∃u,X.mg x=some (.int k u))(a:Qaz)(hd:AD x:=by decide):bR X CL b QaF U QeT U:=by
 obtain⟨u,hm⟩:=hm;exact afS hm a hd
noncomputable def vE(n:QaW)(h:U[i]? = some QaM)(e:t.bU=d):cL X CL b QaF U d U:=e▸vB n h
theorem Kh(x:Str):∀l:At,sZ Qa4 QnX=decide Qka
 | []=>by simp[sZ]
 | y::l=>by
  have b:=Kh x l;unfold sZ at b ⊢;have e:∀a c,ng (.str a) (.str c)=(a==c):=λ_ _=>rfl;grind
theorem av.strs{K:Frag}{Z:Hp}:∀{l:At} {vs:B1},av K CL Z (l.map D.str) vs->vs=l.map V.str
 | [],_,r=>by
  have a:=r;cases a;rfl
 | y::l,_,r=>by
  have a:=r;cases a with
  | cons c b=>rw[c.sc rfl,av.strs b];rfl
theorem qN:∀l:At,(l.map V.str).all wk=true
 | []=>rfl
 | y::l=>by rw[ik,List.all_cons,qN l];rfl
theorem YE{l:Q8}(z:α)(h0:0<=k)(h1:k<l.length):yO l k=some Qup:=by
 obtain⟨j,rfl⟩:∃j:Nat,k=j:=⟨k.toNat,We⟩;refine dQ ?_;have hl:j<l.length:=by lia
 rw[iB hl];simp[List.getD,hl]
theorem ala(h0:0<=k)(h1:k<n):RA n k=some k.toNat:=by
 unfold RA;simp_all
def str_len(x y:Str):(x++y).length=x.length+y.length:=by
 show(x.cps++y.cps).size=_;rw[Array.size_append];rfl
def alb(x y:Str)(h1:Qm8)(a:PyData.strOk y=true):PyData.strOk (x++y)=true:=by
 unfold PyData.strOk at *;show(x.cps++y.cps).all _=true;rw[Array.all_append,h1,a];rfl
def Ci(l:AT):T.dR ((l.map D.int).map T.sh)=true:=by
 rw[hW]
 induction l with
 | nil=>rfl
 | cons i r a=>rw[ik,T.dR,a];rfl
noncomputable def Itv(K:Frag)(a:Addr)(n:Nat):It:=
 ⟨λi H=>i<n/\∃xs,lQ K H a xs/\xs.length=n,λi H x H'=>H'=H/\∀xs,lQ K H a xs->xs[n-1-i]? = some x,λi _=>i=n⟩
variable{tg:Expr}
theorem abm(a it:Addr)(n:Nat):Turn P w K tg (Itv K a n) [it] it (λi h=>PySem.Heap.IsRevIter h it a ((n:Int)-1-(i:Int))) where
 mem:=by simp
 obj:=λi h st b g=>by
  have e:b=it:=by simpa using g
  subst e;obtain⟨o,e,c,d⟩:=st;exact⟨o,e,λv z=>by rw[d]at z;cases z⟩
 keep:=λi h h' st k=>st.at λo e=>k it Wl o e
 item:=by
  intro X m hw q B i pins s Y H E I hf st l;subst m hw q;obtain⟨hi,xs,A,hl⟩:=l;obtain⟨its,F,p,hz⟩:=I.list A;have y:n-1-i<xs.length:=by lia
  obtain⟨u,L,G⟩:=F.get (iB y);obtain⟨f0,f1,f2,t,f4,r⟩:=hf it Wl;have e1:(n:Int)-1-(i:Int)=((n-1-i:Nat):Int):=by lia
  have f:PySem.Heap.IsRevIter s.heap it a ((n-1-i:Nat):Int):=e1▸st;refine PySem.wpAny_pyNext_rev_item f p.isList (x:=u) (by simpa using L) λh' C D=>?_;have N:L2.Inv X pins Y H {s with heap:=h'}:=I.turned (t':=s.toks) (λb o g e=>(D.2 b g).trans e) f0 f1 t f4 r;have e2:((n-1-i:Nat):Int)-1=(n:Int)-1-((i+1:Nat):Int):=by lia
  have j:PySem.Heap.IsRevIter h' it a ((n:Int)-1-((i+1:Nat):Int)):=e2▸C;obtain⟨o,e,c,d⟩:=id C;exact⟨u,rfl,DV (s:={s with heap:=h'}) e c d Wk ⟨_,H,N,G,⟨rfl,λys J=>by rw[I.DU J A];exact iB y⟩,j,λb g=>(hf b g).1⟩⟩
 done:=by
  intro X m hw q B i pins s Y H E I hf st l;subst m hw q;obtain⟨f0,f1,f2,t,f4,r⟩:=hf it Wl;have e1:(n:Int)-1-(i:Int)=-1:=by have:i=n:=l;lia
  have f:PySem.Heap.IsRevIter s.heap it a (-1):=e1▸st;exact PySem.wpAny_pyNext_rev_end (I.ok.hd B) f λh' M=>⟨rfl,I.turned (t':=s.toks) (λb o g e=>M b o g e) f0 f1 t f4 r⟩
 self:=λ_ _ _ _ _ st h=>PySem.wpAny_pyIter_revIter st h
def asG(K:Frag)(ta:TA):TI:=λY H R=>ta Y H λvs H1=>∃a xs,vs=[.ref a]/\lQ K H1 a xs/\R (Itv K a xs.length) H1
theorem alc{a:Expr}{ta:TA}{p:Pos}(j:Qjd)(hm:QiE)(m:PA X [a] ta)(hs:AC X a []):PI X tg (.Call (.Name "reversed" p) [a] [] pos) (asG X.K ta):=by
 intro pins s Y H R I h;refine Call_ (mX I j hm boot_reversed (tJ (dF QlU λus s1 zz=>?_) hs rfl));obtain⟨vs,H1,c,g,q1⟩:=zz;obtain⟨l,xs,e,i,q⟩:=q1;subst e;cases g with
 | cons r f=>
  cases f;cases r;obtain⟨its,d,p,hz⟩:=c.list i;refine PySem.call_reversed_list p.isList ?_;have hl:=d.length;have e0:Qp4=xs.length-1-(0:Int):=by grind
  have n:L2.Inv X pins Y H1 {s1 with heap:=s1.heap.push QsL}:=c.kept λb o e=>ia _ e;have st:PySem.Heap.IsRevIter (s1.heap.push QsL) s1.heap.objs.size l (xs.length-1-(0:Int)):=e0▸⟨_,jj _ rfl,rfl,rfl⟩;refine PySem.wpAny_pyIter_revIter st ?_;refine⟨ _,_,_,_,H1,rfl,n,abm l _ _,st,λb k=>?_,q⟩;have e:=by simpa using k
  subst e;exact c.Av (hI _) Qiz
variable{pr pc:Pos}{ds:BB}
theorem av.rev{ds:BB}(r:QnO):av K CL Z ds.reverse us.reverse:=by
 have go:∀{ds:BB} {us:B1} {es:BB} {ws:B1},av K CL Z ds us->av K CL Z es ws->av K CL Z (ds.reverse++es) (us.reverse++ws):=by
  intro ds us es ws r
  induction ds generalizing us es ws with
  | nil=>cases r;simp_all
  | cons d ds c=>
   cases r with
   | cons b a=>
    intro q;rw[pd,pd,h5,h5];exact c a (.cons b q)
 simpa using go r .nil
theorem ald(hm:QiE)(h:Ql4)(l:Qjd)(hs:QaA:=by exact bz rfl):oT X CL b tg (.Call (.Name "reversed" pr) [e] [] pc) U ds.reverse δ1:=by
 refine⟨_,alc l hm QaY hs,λH Z Y ts vs R S k=>h H Z Y ts vs _ S λv H1 Z1 j k1 d=>?_⟩;obtain⟨fp,gp,_,r,_,_⟩:=d.rep;cases r with
 | cons r _=>
  replace r:=r.GX;obtain⟨rfl,r⟩:=r;obtain⟨a,us,rfl,c,f⟩:=r.gR;have hlen:=f.length;refine⟨a,us,rfl,d.zh.seq c,k _ _ ⟨Z1,_,j,k1,d.pop,av.rev f,λi H2 s hi=>?_,λi H2 y H' s hi g=>?_,λH2 s=>?_⟩⟩
  .rw[rp]at hi;exact⟨We,us,s.seq c,rfl⟩
  .rw[rp]at hi;refine⟨g.1,?_⟩;rw[List.getElem?_reverse We];exact g.2 us (s.seq c)
  .rw[rp];exact hlen
variable{ds:BB}
def JJ(n:QaW)(h:U[i]? = some (some QdO)):bR X CL b QaF U QdN (U.set i (some QdN)):=by
 have:=vF (CL:=CL) (b:=b) (pos:=pos) n h
 rwa [T.bU,g6]at this
theorem jt.get:∀{fs:EQ} {gs:Bz} {f:Str} {d:D},jt K CL Z fs gs->fs.lookup f=some d->∃v,gs.lookup f=some v/\bC K CL Z d v
 | _,_,_,_,.nil,e=>by simp at e
 | _,_,f,d,.cons (x:=x) r t,e=>by
  rw[k4]at e ⊢;cases h:f==x with
  | true=>rw[h]at e;grind
  | false=>rw[h]at e;exact jt.get t e
noncomputable def oW(f:Str)(t:T):BS->BS
 | []=>[(f,t)]
 | (g,x)::r=>if g=f then(g,t)::r else(g,x)::oW f t r
theorem cJ.length{gs:Bz}(h:cJ K CL H Z fs gs fp):fs.length=gs.length:=
 cJ.ind (P:=λd v _=>d.length=v.length) rfl QhZ h
theorem cJ.put{f:Str}{g:BY}(q:bw K CL H Z t v g):∀{fs:BS} {gs:Bz} {fp:BY},cJ K CL H Z fs gs fp →
  ∃a b,cJ K CL H Z (oW f t fs) (oR f v gs) a/\b.Sublist fp/\a.Perm (g++b)
 | _,_,_,.nil=>⟨ _,[],.cons q .nil,mx _,List.Perm.refl _⟩
 | _,_,_,.cons (x:=x) (fp:=fp) (gp:=gp) r rs=>by
  rw[oW,oR];by_cases h:x=f
  .rw[ec h,ec h];exact⟨ _,gp,.cons q rs,wu _ _,List.Perm.refl _⟩
  .rw[bS h,bS h];obtain⟨p,c,h1,e,d⟩:=cJ.put q rs;refine⟨ _,_,.cons r h1,ox (mx _) e,(o9 fp d).trans ?_⟩;rw[<- h5,<- h5];exact l8.append_right c
theorem aV.YA{o:HO}{d gp f:BY}(hm:jd o=false)(S:Qar)(own:∀c∈fp++gp,Z c=none/\b.B c=none)(j:a∈fp++gp)
  (k:e9 K CL QbB Z U2 Y d) (h:aN K CL QbB Z tl us f) (pm:(d++f).Nodup) (sub:∀c∈d++f,c∈fp++gp) :
  aV K CL b QbB Z U2 Y tl us:=by
 have g:=own a j;refine⟨⟨_,_,k,h,pm,λc e=>own c (sub c e)⟩,λc u q=>?_,S.zz,λc u q=>?_,S.new,λc u q i=>?_,S.tab⟩
 .rw[aq (aJ q g.2)];exact S.bh c u q
 .rw[aq (aJ q g.1)];exact S.zh c u q
 .by_cases e:c=a
  .subst e;rw[aA]at q;grind
  .rw[aq e]at q;exact S.tp c u q i
variable{f:Str}{d:D}{fs:EQ}
def cI(i:QfI)(n:QgD)(h:cL X CL b e U Qa3 δ1)(hl:fs.lookup f=some d)(j:AS X e f:=by rfl) :
  cL X CL b Qgg U d δ1:=λH Z Y ts vs Q S k=>
 bY (Rr cA j) (h H Z Y ts vs _ S λv H' Z' z s m r=>by
  obtain⟨a,dx,gs,rfl,l,g⟩:=r.Eb;obtain⟨w,hw,o⟩:=g.get hl;exact⟨a,CL c,dx,gs,w,rfl,l,i,n,hw,k w H' Z' z s m o⟩)
def jv(j:QfI)(n:QgD)(h:bR X CL b e U (.sh Qa3) δ1)(hl:fs.lookup f=some d)(l:AS X e f:=by rfl) :
  bR X CL b Qgg U QaR δ1:=λH Z Y ts vs Q S k=>
 bY (Rr cA l) (h H Z Y ts vs _ S λv H' Z' z s g=>by
  obtain⟨fp,gp,_,r,_,_⟩:=g.rep;cases r with
  | cons r _=>
   replace r:=r.GX;obtain⟨rfl,r⟩:=r;obtain⟨a,dx,gs,rfl,m,i⟩:=r.Eb;obtain⟨w,hw,o⟩:=i.get hl;exact⟨a,CL c,dx,gs,w,rfl,g.zh _ _ m,j,n,hw,k w H' Z' z s (g.pop.push o)⟩)
def qr(K:Frag)(CL:BM){A:Type}(c:Str)(n:Nat)(arg:Qap)(Pre:Qae)(res:Qdu):Sp:=λvs H Q _=>
 ∃(W b:Hp) (a:A) (x dx:Addr) (us:B1),vs=.ref x::us/\b x=none/\b dx=none/\dx≠x/\H=upd (upd b dx QgZ) x Qt2 ∧
  ay W b/\(∀c o,b c=some o->jd o=true->W c=some o)/\av K CL W Qce us/\(arg a).length+1=n/\Pre a/\m5 CL W ∧
  ∀H' W' fp,ay b H'->ay W W'->ay W' H'->(∀c o,W' c=some o->W c=none->b c=none)->(∀c o,H' c=some o->jd o=true->W' c=some o) →
   bw K CL H' W' Qi9 Qdd fp->fp.Nodup->(∀c∈fp,W' c=none/\b c=none)->Q .non H'
variable{A:Type}{k:Nat}{f:Addr}{arg:Qap}{Pre:Qae}
def afT{res:Qdu}(a:A)(M:Mk X.K (CL c) f)(F:Qpi)(s:QgN)(hm:X.mg x=some QgJ)(v:Qgn)
  (h:QfV) (hn:Qi2) (t:Pre a) (z:T.cR QbN=true) (u:Qaz)
  (o:AD x:=by decide) (he:Qaw:=by exact bz rfl) (hpl:QaK:=by rfl) :
  bR X CL b QbW U Qi9 δ1:=λH Z Y ts vs Q S kk=>
 bY (JT M F s u hm v .nil D9 J6 o he hpl) (h H Z Y ts vs _ S λus H1 Z1 j k1 g r x dx p d ne=>by
  rw[hX];refine⟨H1,H1,a,x,dx,us,rfl,p,d,ne,rfl,.refl _,λ_ _ q _=>q,r,hn,t,g.N1,λH' W' fp i ww m nw tp rt nd own=>⟨rfl,?_⟩⟩;obtain⟨Z',l,y⟩:=g.back i g.zh ww m nw tp rt nd own (.inr (‹_›));exact kk _ H' Z' (j.trans l) (k1.trans i) y)
theorem abo{res:Qdu}(a:A)(M:Mk X.K (CL c) f)(F:Qpi)(r:QgN)(hm:X.mg x=some QgJ)(u:Qgn)
  (h:QhD) (hn:Qi2) (s:Pre a) (t:Qaz)
  (p:AD x:=by decide) (he:Qaw:=by exact bz rfl) (hpl:QaK:=by rfl) :
  bR X CL b QbW U Qi9 δ1:=λH Z Y ts vs Q S kk=>
 bY (JT M F r t hm u .nil D9 J6 p he hpl) (h H Z Y ts vs _ S λus H1 Z1 hl l k1 g x dx q i ne=>by
  rw[hX];have d:us.length=(arg a).length:=by grind
  have v:=g.drops (by simp[d]);refine⟨Z1,H1,a,x,dx,us,rfl,q,i,ne,rfl,g.zh,g.tp,g.Dq d,hn,s,g.RG,λH' W' fp j ww o nw tp rt nd own=>⟨rfl,?_⟩⟩;obtain⟨Z',m,y⟩:=v.back j QA ww o nw tp rt nd own Qal;exact kk _ H' Z' (l.trans m) (k1.trans j) y)
def Dr{mg:Bi}{base:Heap}{qual:Str}{N:At}{arg:Qap}{Pre:Qae}{res:Qdu}(F:Qdm)(S:Qdn)
  (J:∀(d7:Value) (l:Qaq) (outer:D2) (s:Qb) (H:Hp) (E:XK) (b:Bx) (a:A) (y:Addr),eL k Qu1->Pre a →
   cG (tF oS P w K mg base N qual Qa7 f d7 l outer s H E).Q8 CL b QbE (some Qt3::((arg a).map Qh4++List.replicate (N.length-((arg a).length+1)) none))
    {nx:=λU=>U[0]? = some (some (.pin y Qi9)),rt:=λ_ _=>False}) :
  dB P w K mg base oS Qao f fd ps (qr K CL c ps.length arg Pre res):=by
 refine Kc F S (λvs H Q E h=>?_) (λd7 l outer s H vs Q E _ G h=>?_)
 .obtain⟨W,j,a,y,dx,us,rfl,_,_,_,_,_,_,r,hl,_⟩:=h;rw[kq,<- r.length];exact hl
 .obtain⟨W,j,a,y,dx,us,rfl,m,n,ne,rfl,u,tp,r,hl,I,tb,kk⟩:=h;have old:∀{d:Addr} {o:HO},j d=some o->upd (upd j dx (.own y)) y Qt2 d=some o:=λ{d o} q=>by
   rw[aq (aJ q m),aq (aJ q n)];exact q
  refine⟨_,XQ,J d7 l outer s _ E ⟨j,W⟩ a y G I _ W _ [] [] _ ⟨⟨[y]++[],[],?_,.nil,Wl,λd hd=>?_⟩,λd o q=>old q,.refl _,λd o q=>old (u d o q),λd o q z=>?_,λd o q i=>?_,tb⟩ ⟨λU' Y' H' Z' s' g e=>?_,λt v H' Z' U' Y' s' g e=>e.elim,λ_ _ _ _ _ _ e=>e.elim,λ_ _ _ _ _ _ e=>e.elim⟩⟩
  .unfold L2.start;rw[ik,kq,l7,<- r.length];exact .cons (.pin (.ins aA .nil)) (jV _ r)
  .have:d=y:=by simpa using hd
   subst this;exact⟨J7 u m,m⟩
  .have D:W d=some o:=q;have p:W d=none:=z;rw[D]at p;cases p
  .by_cases h1:d=y
   .subst h1;rw[aA]at q;cases q;cases i
   .rw[aq h1]at q;by_cases B:d=dx
    .subst B;rw[aA]at q;cases q;cases i
    .rw[aq B]at q;exact tp d o q i
  .obtain⟨fp,gp,L,_,nd,own⟩:=g.rep;obtain⟨v,f1,f2,M,hv,C,rt,_,_⟩:=L.get e;subst C;replace rt:=rt.RC;obtain⟨rfl,rt⟩:=rt;refine kk H' Z' f2 g.bh g.zz g.zh g.new g.tp rt ?_ λd hd=>own d (by simp[hd]);have h1:=(kc.1 nd).1;exact(kc.1 (kc.1 h1).2.1).1
variable{body:CA}{ds Ao:BB}
theorem zj(g:Gx X)(P:Ee)(m:Nat)(h0:P m U)
  (hs:∀m U,P m U->∃p δ1,sN X CL b e U p δ1 ∧
   (p=true->cG X CL b body δ1 {nx:=λU2=>∃a,a<m/\P a U2,rt:=DD.rt,bk:=λU2=>cG X CL b dO U2 DD,ct:=λU2=>∃a,a<m/\P a U2})/\(p=false->cG X CL b dO δ1 DD)) :
  cG X CL b (.While e body [] pos::dO) U DD:=bK λH Z Y ts vs E S M=>
 mZ (aay g.xe q0 XQ) (by
  refine⟨λm Y H=>∃Z2 U2,ay Z Z2/\aV X.K CL b H Z2 U2 Y ts vs/\P m U2,⟨m,Z,U,.refl _,S,h0⟩,?_⟩;rintro m Y H ⟨Z2,U2,f,n,p2⟩;obtain⟨p,δ3,j,h1,k⟩:=hs m U2 p2;refine j H Z2 Y ts vs _ n λi Z3 d k3 h=>?_;cases p with
  | true=>
   refine⟨ _,λY' H' q=>q,?_⟩;refine h1 rfl i Z3 Y ts vs _ h ⟨λU' Y' H' Z' s' c ⟨a,l,q⟩=>⟨a,l,Z',U',f.trans Qm9,c,q⟩,λt v H' Z' U' Y' s' c q=>M.rt t v H' Z' U' Y' Qvr c q,
    λU' Y' H' Z' s' c q=>M.nx U' Y' H' Z' Qvr c q,λU' Y' H' Z' s' c ⟨a,l,q⟩=>⟨a,l,Z',U',f.trans Qm9,c,q⟩⟩
  | false=>
   exact M.nx δ3 Y i Z3 (f.trans d) h (k rfl))
def ao9(K:Frag):R2:=λx y H Q=>∃l b xs zs,x=.ref l/\y=.ref b/\lQ K H l xs/\lQ K H b zs/\xs.length+zs.length<=sizeLine/\∀p,H p=none->Q Qbl (upd H p QrF)
theorem Vx:yS X QeM (ao9 X.K):=by
 intro pins s Y H x y v u Q I k j h;obtain⟨l,b,xs,zs,rfl,rfl,o,p,hz,q⟩:=h;cases k;cases j;obtain⟨its,r,pl,_⟩:=I.list o;obtain⟨i,e,c,_⟩:=I.list p;have e1:=r.length;have e2:=e.length;obtain⟨⟨C,dd,z,sl⟩,f,m,n,hd⟩:=pl.isList;obtain⟨⟨B,d,w,a⟩,g,A,n2,hd2⟩:=c.isList;cases m;cases A;cases hd;cases hd2;refine concat_meets ⟨_,f,rfl⟩ ⟨_,g,rfl⟩ noFill_list_add seq_list_add PySem.F.slot_list_add PySem.F.entry_list_add (PySem.F.args_list_add_2 _ _)
  (list_addW l b _ _ n n2 dd d sl a WA) ⟨f,g,?_⟩
 have t:its.toArray++i.toArray=(its++i).toArray:=by simp
 rw[t];exact⟨.ref _,_,I.Lm (r.append e) Wp,rfl,q _ I.fresh⟩
theorem av.app{ds Ao:BB}{a:B1}(h:QfE)(b:av K CL Z Ao a):av K CL Z (ds++Ao) (vs++a):=
 av.ind (P:=λds vs=>av K CL Z (ds++Ao) (vs++a)) b (λr _ i=>.cons r i) h
def qO(h1:Ql1)(o:cL X CL b e2 δ1 (.lst Ao) U2)(i1:Qdt)(m:D.aY Ao=true)(hz:Qf0) :
  bR X CL b QdD U Qr9 U2:=λH Z Y ts vs Q S k=>
 bY (DX Vx cA cA) (h1 H Z Y ts vs _ S λv1 H1 Z1 i k1 r l=>o H1 Z1 Y ts vs _ r λv2 H2 Z2 h k2 f j=>by
  have a:=l.mono k2;obtain⟨_,_,rfl,s,g⟩:=a.gR;obtain⟨_,_,rfl,d,e⟩:=j.gR;refine⟨_,_,_,_,rfl,rfl,s,d,by rw[<- g.length,<- e.length];exact hz,λp n=>?_⟩;have rc:=av.app (av.jS f.tp i1 g) (av.jS f.tp m e);obtain⟨c,q⟩:=(aV.kU rc f).jU (g0:=[]) (by simp[g.length,e.length]) n;exact k _ _ _ QjQ Qf7 q)
def boot_min:bootBuiltins "min" = some Qum:=by decide +kernel
def afU{i j:Int}(g:Gx X)(hm:X.mg "min" = none)(e:Gl X "min")(h:mM X CL b [e1,e2] U [.int i,.int j] δ1)(hs:starEach [e1,e2] X.env=(false,eval e1 X.env)::starEach [e2] X.env:=by exact bz rfl)(hpl:(backTo pos (starEach [e2] X.env)).any (·.1)=false:=by rfl) :
  bR X CL b (.Call (.Name "min" pp) [e1,e2] [] pos) U (.sh Qqf) δ1:=λH Z Y ts vs Q S k=>
 bY (qi (Xs g.calm) e hm boot_min J6 (he:=hs) (hpl:=hpl)) (h H Z Y ts vs _ S λus H1 Z1 a k1 f r=>by
  cases r with
  | cons d r=>
   cases r with
   | cons c r=>
    cases r;rw[d.sc rfl,c.sc rfl];exact⟨i,j,rfl,k _ H1 Z1 a k1 (f.push Qbu)⟩)
structure Fm(X:Cx)(CL:BM)(x:Str)(k n:Nat){A:Type}(arg:Qap)(Pre:Qae)(res:Qdu):Prop where
 ex:∃f fd ps,Mk X.K (CL x) f/\dB X.prog X.w X.K X.mg X.base oS k f fd ps (qr X.K CL x n arg Pre res)/\X.mg x=some (.ref (CL x))/\Binds X.K fd ps []
 room:eL Qao X.A
structure Fq(X:Cx)(CL:BM)(c m:Str)(k n:Nat){A:Type}(arg:Qap)(Pre:Qae)(res:QaV):Prop where
 ex:∃f fd ps,Meth X.K (CL c) m f/\dB X.prog X.w X.K X.mg X.base oS k f fd ps QhI/\Binds X.K fd ps []
 room:eL k X.A
 cls:yU X.K (CL c)
noncomputable def Kl(N:At)(y:Addr)(c:Str)(ds:BB):BA:=some Qt3::(ds.map Qh4++List.replicate (N.length-(ds.length+1)) none)
section
variable{m:Str}{D:cY}
def mk_{arg:Qap}{Pre:Qae}{res:Qdu}(a:A)(F:QlV)(g:Qaz)(h:QfV)(d:Pre a)(i:T.cR QbN=true)(hn:Qi2:=by rfl)
  (c:AD x:=by decide) (he:Qaw:=by exact bz rfl) (hpl:QaK:=by rfl) :
  bR X CL b QbW U (.ins x QbN) δ1:=by
 obtain⟨f,fd,ps,M,j,m,b⟩:=F.ex;exact afT a M j F.room m b h hn d i g c he hpl
def NP{arg:Qap}{Pre:Qae}{res:Qdu}(a:A)(F:QlV)(g:Qaz)(h:QhD)(d:Pre a)(hn:Qi2:=by rfl)
  (c:AD x:=by decide) (he:Qaw:=by exact bz rfl) (hpl:QaK:=by rfl) :
  bR X CL b QbW U (.ins x QbN) δ1:=by
 obtain⟨f,fd,ps,M,i,m,b⟩:=F.ex;exact abo a M i F.room m b h hn d g c he hpl
end
def iP{f:Str}{d:α}{fs:List (Str×α)}:((f,d)::fs).lookup f=some d:=by simp
def cC{f g:Str}{d:α}{fs:List (Str×α)}(h:(f==g)=false):((g,d)::fs).lookup f=fs.lookup f:=by
 rw[k4,h]
def zk{f:Str}:oW f t []=[(f,t)]:=rfl
def dJ{f g:Str}{u:T}{fs:BS}(h:¬ g=f):oW f t ((g,u)::fs)=(g,u)::oW f t fs:=by
 rw[oW,bS h]
def IV{f:Str}{u:T}{fs:BS}:oW f t ((f,u)::fs)=(f,t)::fs:=by
 rw[oW,ec rfl]
variable{d:L3.D}
theorem zl(x:Int):∀l:AT,sZ Qd1 (l.map V.int)=decide Qka
 | []=>rfl
 | y::l=>by
  have a:=zl x l;unfold sZ at a ⊢;rw[ik,my,a];by_cases h:y=x
  .subst h;simp[ng]
  .have h':¬ x=y:=λe=>h e.symm;simp[ng,h,h']
theorem av.ints{K:Frag}{Z:Hp}:∀{l:AT} {vs:B1},av K CL Z QnY vs->vs=l.map V.int
 | [],_,r=>by
  have a:=r;cases a;rfl
 | y::l,_,r=>by
  have a:=r;cases a with
  | cons c b=>rw[c.sc rfl,av.ints b];rfl
theorem jw:∀l:AT,(l.map V.int).all wk=true
 | []=>rfl
 | y::l=>by rw[ik,List.all_cons,jw l];rfl
noncomputable def El(d:L3.D):Option BB:=match d with
 | .lst ds=>some ds
 | .tup ds=>some ds
 | _=>none
theorem bC.El{ds:BB}(r:QcN)(h:L3.El d=some ds):∃p us,v=.ref p/\(lQ K Z p us\/qh K Z p us)/\av K CL Z ds us:=by
 cases r with
 | tup b a=>cases h;exact⟨_,_,rfl,.inr b,a⟩
 | lst b a=>cases h;exact⟨_,_,rfl,.inl b,a⟩
 | non=>cases h
 | bl=>cases h
 | int=>cases h
 | str=>cases h
 | any=>cases h
 | val=>cases h
 | iC=>cases h
 | dct=>cases h
 | ins=>cases h
 | jN=>cases h
variable{l:AT}
def Ds{i:Int}(h1:QbI)(o:Qmu)(hd:L3.El d=some Qcx)(hm:QlX) :
  sN X CL b QhU U Qvs U2/\bR X CL b QhU U (.sh (.bl Qvs)) U2:=by
 constructor
 .intro H Z Y ts vs Q S k;refine y9 (vo IE cA cA hm) (h1 H Z Y ts vs _ S λv1 H1 Z1 f k1 n a=>o H1 Z1 Y ts vs _ n λv2 H2 Z2 c k2 m h=>?_);obtain⟨p,us,rfl,j,g⟩:=bC.El h hd;have e:=g.ints;subst e;refine⟨_,_,rfl,j,by rw[a.sc rfl];rfl,jw l,_,rfl,?_⟩;rw[a.sc rfl,zl];exact k H2 Z2 Qe9 Qaf m
 .intro H Z Y ts vs Q S k;refine bY (yT IE cA cA hm) (h1 H Z Y ts vs _ S λv1 H1 Z1 f k1 n a=>o H1 Z1 Y ts vs _ n λv2 H2 Z2 c k2 m h=>?_);obtain⟨p,us,rfl,j,g⟩:=bC.El h hd;have e:=g.ints;subst e;refine⟨_,_,rfl,j,by rw[a.sc rfl];rfl,jw l,?_⟩;rw[a.sc rfl,zl];exact k _ H2 Z2 Qe9 Qaf (m.push Qd6)
def Dt{i:Int}(h1:QbI)(o:Qmu)(hd:L3.El d=some Qcx)(hm:QhV) :
  sN X CL b Qeq U (!decide Qn8) U2/\bR X CL b Qeq U (.sh (.bl (!decide Qn8))) U2:=by
 constructor
 .intro H Z Y ts vs Q S k;refine y9 (vo lR cA cA hm) (h1 H Z Y ts vs _ S λv1 H1 Z1 f k1 n a=>o H1 Z1 Y ts vs _ n λv2 H2 Z2 c k2 m h=>?_);obtain⟨p,us,rfl,j,g⟩:=bC.El h hd;have e:=g.ints;subst e;refine⟨_,_,rfl,j,by rw[a.sc rfl];rfl,jw l,_,rfl,?_⟩;rw[a.sc rfl,zl];exact k H2 Z2 Qe9 Qaf m
 .intro H Z Y ts vs Q S k;refine bY (yT lR cA cA hm) (h1 H Z Y ts vs _ S λv1 H1 Z1 f k1 n a=>o H1 Z1 Y ts vs _ n λv2 H2 Z2 c k2 m h=>?_);obtain⟨p,us,rfl,j,g⟩:=bC.El h hd;have e:=g.ints;subst e;refine⟨_,_,rfl,j,by rw[a.sc rfl];rfl,jw l,?_⟩;rw[a.sc rfl,zl];exact k _ H2 Z2 Qe9 Qaf (m.push Qd6)
def Km{l:At}(h1:QlT)(n:Qmu)(hd:L3.El d=some (l.map .str))(hm:QhV) :
  sN X CL b Qeq U (!decide Qka) U2/\bR X CL b Qeq U (.sh (.bl (!decide Qka))) U2:=by
 constructor
 .intro H Z Y ts vs Q S k;refine y9 (vo lR cA cA hm) (h1 H Z Y ts vs _ S λv1 H1 Z1 f k1 m a=>n H1 Z1 Y ts vs _ m λv2 H2 Z2 c k2 j h=>?_);obtain⟨p,us,rfl,i,g⟩:=bC.El h hd;have e:=g.strs;subst e;refine⟨_,_,rfl,i,by rw[a.sc rfl];rfl,qN l,_,rfl,?_⟩;rw[a.sc rfl,Kh];exact k H2 Z2 Qe9 Qaf j
 .intro H Z Y ts vs Q S k;refine bY (yT lR cA cA hm) (h1 H Z Y ts vs _ S λv1 H1 Z1 f k1 m a=>n H1 Z1 Y ts vs _ m λv2 H2 Z2 c k2 j h=>?_);obtain⟨p,us,rfl,i,g⟩:=bC.El h hd;have e:=g.strs;subst e;refine⟨_,_,rfl,i,by rw[a.sc rfl];rfl,qN l,?_⟩;rw[a.sc rfl,Kh];exact k _ H2 Z2 Qe9 Qaf (j.push Qd6)
variable{ds:BB}
def aL:G9 X CL b [] U (([]:BB).map T.sh) U:=bG
def aj(h1:Qh6)(a:G9 X CL b es δ1 Qct U2)(hs:Qaw:=by exact bz rfl):G9 X CL b Qav U ((d::ds).map T.sh) U2:=aH h1 a hs
theorem lX(h:Ql0)(hl:QbL):bR X CL b Qjg U QdO δ1:=cu h Wp
def m9(l:At):D.aY (l.map L3.D.str)=true:=gU QcB _
def fC(h:Ql3):bR X CL b e U QdN δ1:=by
 have:=J9 h
 rwa [T.bU,g6]at this
noncomputable def jx(h:QaP)(q:t.bU=d):bR X CL b e U QaR δ1:=q▸J9 h
def afV(h:DD.bk U):cG X CL b (.Break pos::dO) U DD:=bK (abb h)
def alf(h:DD.ct U):cG X CL b (.Continue pos::dO) U DD:=bK (afL h)
noncomputable def Cj{d2:L3.D}(h:Qdr)(q:d=d2):cL X CL b e U d2 δ1:=q▸h
noncomputable def aQ{t2:T}(h:QaP)(q:t=t2):bR X CL b e U t2 δ1:=q▸h
structure Kn(Z H Z' H':Hp):Prop where
 z:ay Z Z'
 h:ay H H'
 zh:ay Z' H'
 new:∀a o,Z' a=some o->Z a=none->H a=none
 tp:∀a o,H' a=some o->jd o=true->Z' a=some o
theorem Kn.refl(zh:ay Z H)(tp:∀a o,H a=some o->jd o=true->Z a=some o):Kn Z H Z H:=⟨.refl _,.refl _,zh,λa o q z=>WA,tp⟩
theorem Kn.tup{p:Addr}(zh:ay Z H)(tp:∀a o,H a=some o->jd o=true->Z a=some o)(b:Qdq):Kn Z H (upd Z p Qbf) (upd H p Qbf):=by
 have c:=zh.free b;refine⟨ay.upd c,ay.upd b,λa o q=>?_,λa o q z=>?_,λa o q i=>?_⟩
 .by_cases e:a=p
  .subst e;rw[aA]at q ⊢;exact q
  .rw[aq e]at q ⊢;exact zh a o q
 .by_cases e:a=p
  .subst e;exact b
  .rw[aq e,z]at q;cases q
 .by_cases e:a=p
  .subst e;rw[aA]at q ⊢;exact q
  .rw[aq e]at q ⊢;exact tp a o q i
theorem aV.grow(S:Qar)(g:Kn Z H Z' H'):aV K CL b H' Z' U Y ts vs:=by
 obtain⟨fp,gp,e,r,nd,k⟩:=S.rep;have old:=λa c=>(hG.1 c).elim (e.there a) (r.there a);have keep:∀a∈fp++gp,H' a=H a:=λa c=>by
  obtain⟨o,q⟩:=old a c;rw[q];exact g.h a o q
 refine⟨⟨fp,gp,e.mono g.z (λa c=>keep a QkA),r.mono g.z (λa c=>keep a (hV _ c)),nd,λa c=>⟨?_,(k a c).2⟩⟩,S.bh.trans g.h,S.zz.trans g.z,g.zh,λa o q z=>?_,g.tp,S.tab⟩
 .cases q:Z' a with
  | none=>rfl
  | some o=>
   obtain⟨u,d⟩:=old a c;rw[g.new a o q (k a c).1]at d;cases d
 .cases e2:Z a with
  | none=>exact S.bh.free (g.new a o q e2)
  | some u=>
   have:=g.z a u e2;rw[q]at this;cases this;exact S.new a o e2 z
noncomputable def Vz(U:BA):Co->BB->BA
 | i::is,d::ds=>Vz Qgy is ds
 | _,_=>U
noncomputable def Em(Y:L2.St):Co->B1->L2.St
 | i::is,v::vs=>Em QeL is vs
 | _,_=>Y
theorem aV.sets{ps:BB}{ys:B1}:∀{is:Co} {U:BA} {Y:L2.St},aV K CL b H Z U Y ts vs->av K CL Z ps ys->(∀i∈is,i<U.length)->aV K CL b H Z Qop (Em Y is ys) ts vs:=by
 intro is
 induction is generalizing ps ys with
 | nil=>
  intro U Y S r _;cases ps<;>cases ys<;>exact S
 | cons i is c=>
  intro U Y S r hl;cases r with
  | nil=>exact S
  | cons r a=>exact c ((S.push r).set (hl i gF)) a (λj d=>by rw[rh];exact hl j QkE)
section
variable{ds:BB}
structure AO(X:Cx)(CL:BM)(b:Bx)(δ1:BA)(Y:L2.St)(ts:Bn)(vs:B1)(Z H:Hp)(ds:BB)(J:It)(H1:Hp):Prop where
 ex:∃Z1,ay Z Z1/\ay H H1/\aV X.K CL b H1 Z1 δ1 Y ts vs/\(∀i H2,ay Z1 H2->i<ds.length->J.go i H2) ∧
  (∀i Z2 H2 x H',ay Z1 Z2->ay Z2 H2->(∀a o,H2 a=some o->jd o=true->Z2 a=some o)->i<ds.length->J.n3 i H2 x H'->∃Z3 d,ds[i]? = some d/\Kn Z2 H2 Z3 H'/\bC X.K CL Z3 d x)/\(∀H2,ay Z1 H2->J.stop ds.length H2)
def r2(X:Cx)(CL:BM)(b:Bx)(tg e:Expr)(U:BA)(ds:BB)(δ1:BA):Prop:=
 ∃a,PI X tg e a/\∀(H Z:Hp) (Y:L2.St) (ts:Bn) (vs:B1) (R:QgE),aV X.K CL b H Z U Y ts vs->(∀J H1,AO X CL b δ1 Y ts vs Z H ds J H1->R J H1)->a Y H R
def VA(h:oT X CL b tg iter U ds δ1):r2 X CL b tg iter U ds δ1:=by
 obtain⟨f,pi,hw⟩:=h;refine⟨f,pi,λH Z Y ts vs R S k=>hw H Z Y ts vs R S λJ H1 zz=>?_⟩;obtain⟨Z1,us,a,k1,m,g,go,c,st⟩:=zz;refine k J H1 ⟨Z1,a,k1,m,go,λi Z2 H2 x H' s1 s2 tp hi j=>?_,st⟩;obtain⟨e,l⟩:=c i H2 x H' (s1.trans s2) hi j;subst e;obtain⟨d,hd,rd⟩:=g.XM l;exact⟨Z2,d,hd,.refl s2 tp,rd.mono s1⟩
def zi(X:Cx)(CL:BM)(tg:Expr)(is:Co)(parts:Qju):Prop:=
 ∃t:TG,PG X tg t/\∀(Z H:Hp) (d:D) (ps:BB) (x:V) (Y:L2.St) (Q:Quq),ay Z H->bC X.K CL Z d x->parts d=some ps->(∀ys,av X.K CL Z ps ys->Q (Em Y is ys) H)->t x Y H Q
noncomputable def part1(d:D):Option BB:=some [d]
noncomputable def part2:D->Option BB
 | .tup [a,c]=>some [a,c]
 | _=>none
theorem XU{d:D}{ps:BB}(h:part2 d=some ps):∃d1 d2,d=.tup [d1,d2]/\ps=[d1,d2]:=by
 unfold part2 at h;split at h
 .grind
 .cases h
theorem RL{d:D}{ps:BB}{x:V}{Q:Quq}(zh:ay Z H)(r:bC K CL Z d x)(e:part2 d=some ps)(k:∀ys,av K CL Z ps ys->Q (Em Y [i,j] ys) H):OM K 2 (L9 (NC i) (L9 (NC j) ON)) x Y H Q:=by
 obtain⟨d1,d2,rfl,rfl⟩:=XU e;obtain⟨_,_,rfl,f,a⟩:=r.lS;cases a with
 | cons c a=>
  cases a with
  | cons b a=>
   cases a;exact⟨_,_,rfl,ay.Dn zh f,rfl,_,_,rfl,_,_,rfl,rfl,k _ (.cons c (.cons b .nil))⟩
def En{px:Pos}(a:Qbm)(n:Qba):zi X CL Qe5 [i] part1:=
 ⟨ _,vn a n.hi n.loc n.hf,λZ H d ps x Y Q zh r e k=>by
  cases e;exact k [x] QnP⟩
def Du{y:Str}{px py pt:Pos}(a:Qbm)(c:QaU)(n:Qba)(m:Ln X j y)(hs:(assignEach [.Name x px,.Name y py] X.env).map (·.2)=assign Qe5 X.env::(assignEach [.Name y py] X.env).map (·.2):=by rfl)(f:(assignEach [.Name y py] X.env).map (·.2)=assign QfT X.env::(assignEach [] X.env).map (·.2):=by rfl)
  (hn:(assignEach [.Name x px,.Name y py] X.env).length=2:=by rfl) (b:(assignEach [.Name x px,.Name y py] X.env).findIdx? (·.1)=none:=by rfl):zi X CL (.Tuple [.Name x px,.Name y py] k pt) [i,j] part2:=
 ⟨ _,akj c (NF (vn a n.hi n.loc n.hf) (NF (vn a m.hi m.loc m.hf) afk f) hs) hn b,λZ H d ps x Y Q zh r e k=>RL zh r e k⟩
theorem afW{D:cY}(is:Co)(parts:Qnq)(P:Ee)(h:Qf2)(n:Qu2)(h0:Qec)(hl:∀j U,P j U->∀i∈is,i<U.length)
  (hs:∀j d U,ds[j]? = some d->P j U->∃ps,parts d=some ps/\cG X CL b dO Qop {nx:=P QR,rt:=D.rt,bk:=D.nx,ct:=P QR}) (hd:∀U,P ds.length U->D.nx U)
  (B:QhT) (C:QaU) (x:Qco:=by intro _;rfl) :
  Vr X CL b (.For tg iter dO [] pos) U D:=λH Z Y ts vs E S M=>by
 obtain⟨N,pi,hw⟩:=h;obtain⟨t,pg,n⟩:=n;refine mZ (Rn B C pi pg XQ x) (hw H Z Y ts vs _ S λJ H1 zz=>?_);obtain⟨Z1,f,k1,I,go,r,st⟩:=zz;refine⟨λj m Y H2=>m=ds.length-j/\j<=ds.length/\∃Z2 U2,ay Z1 Z2/\aV X.K CL b H2 Z2 U2 Y ts vs/\P j U2,⟨_,rfl,hY _,Z1,δ1,.refl _,I,h0⟩,?_⟩;rintro j m Y H2 ⟨rfl,O,Z2,U2,s,c,p2⟩;by_cases l:j<ds.length
 .refine .inr ⟨go j H2 QgF l,_,λY' H' h=>⟨ _,We,rfl,l,h⟩,λy H' u=>?_⟩;obtain⟨Z3,d,L,p,rd⟩:=r j Z2 H2 y H' s c.zh c.tp l u;obtain⟨ps,o,F⟩:=hs j d U2 L p2;have q:=c.grow p;refine n Z3 H' d ps y Y _ q.zh rd o λys g=>?_;have G:=q.sets g QjF;have s3:=s.trans p.z;exact F _ Z3 _ ts vs _ G ⟨λU' Y' H' Z' s' a k=>⟨Z',U',s3.trans s',a,k⟩,λt v H' Z' U' Y' s' a k=>M.rt t v H' Z' U' Y' Qsv a k,λU' Y' H' Z' s' a k=>M.nx U' Y' H' Z' Qsv a k,λU' Y' H' Z' s' a k=>⟨Z',U',s3.trans s',a,k⟩⟩
 .have e:j=ds.length:=by lia
  subst e;exact .inl ⟨st H2 QgF,M.nx U2 Y H2 Z2 (f.trans s) c (hd U2 p2)⟩
def RM{D:cY}{is:Co}{parts:Qnq}(g:Gx X)(a:Qu2)(P:Ee)(h:Qf2)(h0:Qec)(hl:∀j U,P j U->∀i∈is,i<U.length)
  (hs:∀j d U,ds[j]? = some d->P j U->∃ps,parts d=some ps/\cG X CL b body Qop {nx:=P QR,rt:=D.rt,bk:=λU2=>cG X CL b dO U2 D,ct:=P QR}) (hd:∀U,P ds.length U->cG X CL b dO U D) (c:Qco:=by intro _;rfl) :
  cG X CL b (.For tg iter body [] pos::dO) U D:=
 bK (afW is _ P h a h0 hl hs hd g.xe g.calm c)
end
structure lC(X:Cx)(scope:Scope)(xs:At)(Nc:At)(ix:Co):Prop where
 kind:scope.kind=.function
 AI:∀y∈scope.names,y.2 ≠ .cell
 nd:Nc.Nodup
 names:∀y∈scope.names,y.2=.local->scope.names.lookup y.1=some .local
 own:∀x∈xs,scope.names.lookup x=some .local
 frees:∀y∈scope.names,y.2=.free->scope.names.lookup y.1=some .free/\QpW
 hd:Nc=xs++ix.filterMap (X.N[·]?)
 q2:∀i∈ix,∃y,X.N[i]? = some y/\scope.names.lookup y=some .free
noncomputable def XW(Y:L2.St)(ix:Co)(os:Qg0):L2.St:=os++ix.map λi=>(Y[i]?).getD none
variable{xs:At}
theorem N4(sc:Qcp)(I:QE)(A:∀b∈fp,lA X pins H b/\b<s.heap.objs.size){h':Heap}{m:Bi}{tk:Nat}
  (hn:h'.Ns s.heap.objs.size m) (d:∀b o,s.heap.get? b=some o->h'.get? b=some o) :
  Inv Qqk [] (XW Y ix Qra) H {s with heap:=h',toks:=tk}:=by
 have frees:∀y∈scope.names,y.2=.free->∃c,X.env.cells.lookup y.1=some c:=λy K e=>I.ok.has y.1 (sc.frees y K e).2;have sub:∀{y:Str} {c:Addr},(d8 X.env scope.names []).lookup y=some c->X.env.cells.lookup y=some c:=λ{y c} e=>qL frees (λ_ _ z=>by cases z) e;have hlen:(XW Y ix Qra).length=Nc.length:=by
  have all:∀l:Co,(∀i∈l,∃y,X.N[i]? = some y/\scope.names.lookup y=some .free)->(l.filterMap (X.N[·]?)).length=l.length:=by
   intro l
   induction l with
   | nil=>intro _;rfl
   | cons i r J=>
    intro h;obtain⟨y,e,_⟩:=h i gF;rw[me,e];show _+1=_+1;rw[J λj D=>h j (hJ _ D)]
  unfold XW;rw[sc.hd,iq,iq,cq,ui,all ix sc.q2]
 have C0:s.heap.get? s.heap.objs.size=none:=Heap.get?_none_of_le (hI _);refine⟨⟨I.ok.mod,sc.kind,I.ok.glob,I.ok.blt,hI _,λy z c h1 f=>I.ok.inj y z c (sub h1) (sub f),λy K=>?_,λy c hf _=>(by cases (show false=true from hf)),I.ok.hd,I.ok.frames,.inl rfl,λb t=>⟨i2 (A b t).2,λy c e=>(A b t).1.2.2.2.2.1 y c Qhe⟩,I.bs,jq I.ok.mu I.sz,λb o e t=>?_,λb t hf=>?_,I.stack,I.Dj⟩,
  rfl,I.bare,Un.kept d,⟨m,hn,λi y v h1 f h3=>?_⟩,λy c e=>?_,I.ck.fresh (hI _),λy c e=>I.kR y c Qhe,λp Z=>absurd (show p∈([]:BC) from Z) Wl,I.ck.kept d,hlen⟩
 .
  have C:(relabel scope X.env).names.lookup y=some .cell\/(relabel scope X.env).names.lookup y=some .free:=K;cases e:scope.names.lookup y with
  | none=>
   have:=lN (env:=X.env) e;obtain q|q:=C<;>(rw[show(relabel scope X.env).names.lookup y=none from this]at q;cases q)
  | some k=>
   have q:=gS (env:=X.env) e;have d:k=.free:=by
    by_cases d:k=.free
    .exact d
    .have t:QmU=false:=by simpa using d
     rw[bS (by rw[t];simp)]at q;have W:k ≠ .cell:=λz=>by
      subst z;exact sc.AI _ (ph e) rfl
     obtain z|z:=C
     .rw[show(relabel scope X.env).names.lookup y=some k from q]at z;exact absurd (j2 z) W
     .rw[show(relabel scope X.env).names.lookup y=some k from q]at z;exact absurd (j2 z) d
   subst d;exact m8 e
 .
  rcases(A b t).1.2.2.2.1 with z|z
  .exact I.ok.Rh b o e z
  .exact absurd (lh (h9 e) (jq I.ok.mu z)) (u7 _)
 .obtain z|z:=fF.1 (I.JM b hf)
  .exact(A b t).1.2.1 z
  .exact(A b t).1.2.2.1 z
 .
  unfold XW at f;by_cases hi:i<xs.length
  .rw[Mo (by rw[ui];exact hi),M1,ec hi]at f;cases f
  .obtain⟨n,rfl⟩:∃n,i=xs.length+n:=⟨i-xs.length,We⟩;rw[MI (by rw[ui];lia),ui,Nat.add_sub_cancel_left,ib]at f;cases G:ix[n]? with
   | none=>rw[G]at f;cases f
   | some j=>
    rw[G]at f;have w:(Y[j]?).getD none=some v:=j2 f;have D:Y[j]? = some QaL:=by
     cases q:Y[j]? with
     | none=>rw[q]at w;cases w
     | some o=>rw[q]at w;exact congrArg some w
    obtain⟨g,B,x⟩:=sc.q2 j (i0 G);have O:Nc[xs.length+n]? = some g:=by
     have all:∀(l:Co) (i:Nat),(∀j∈l,∃y,X.N[j]? = some y/\scope.names.lookup y=some .free)->l[i]? = some j->(l.filterMap (X.N[·]?))[i]? = some g:=by
      intro l
      induction l with
      | nil=>intro i _ h;simp at h
      | cons a r J=>
       intro i h hi;obtain⟨ya,P,_⟩:=h a gF;rw[me,P];cases i with
       | zero=>
        simp at hi;subst hi;rw[B]at P;cases P;rfl
       | succ i=>exact J i (λj D=>h j (List.mem_cons_of_mem _ D)) (by simpa using hi)
     rw[sc.hd,MI We,Nat.add_sub_cancel_left];exact all ix n sc.q2 G
    have ey:g=y:=by
     have F:Nc[xs.length+n]? = some y:=h1;rw[O]at F;exact j2 F
    subst ey;have T:=(sc.frees (g,.free) (ph x) rfl).2;have R:rF X.env.scope g:=T.elim Qsa Qvh;obtain⟨m0,aa,M⟩:=I.loc;obtain⟨u,V,lk⟩:=M j g v B D R;refine⟨u,V,?_⟩;obtain⟨kk,_⟩|⟨_,c,hc,U⟩:=lk
    .obtain z|z:=T
     .rw[kk]at z;cases z
     .rw[kk]at z;cases z
    .obtain⟨S,E⟩:=m8 (env:=X.env) (cs:=[]) x;have:S=c:=by
      have:=sub E;rw[hc]at this;exact(j2 this).symm
     subst this;obtain⟨o,L,hd⟩:=U;refine .inr ⟨?_,S,E,o,d _ _ L,hd⟩;have q:=gS (env:=X.env) x;show(relabel scope X.env).names.lookup g=some .cell\/(relabel scope X.env).names.lookup g=some .free;rw[show(relabel scope X.env).names.lookup g=_ from q];split
     .exact .inl rfl
     .exact .inr rfl
 .obtain⟨v,o,L,hd⟩:=I.cell y c Qhe;exact⟨v,o,d _ _ L,hd⟩
def L4(X:Cx)(tg elt:Expr)(ifs:Cl)(n:Nat)(Y:L2.St)(ix:Co)(D:Addr)(N:Qj5)(e:V)(os:Qg0)(g:Hp):Prop:=
 ∃t:TG,PG X tg t/\t e (XW Y ix os) g λa f=>∃b,b.length=n/\a=XW Y ix b/\LB X ifs a f λok d=>
  if ok=true then sX X elt a d λy c=>∃acc,c D=some (.lst acc)/\acc.length<sizeLine/\N (upd c D (.lst (acc++[y]))) else N d
variable{it:Addr}{E:BN}
def Eo{J:It}{tn:QiO}{G:Addr->Hp->Prop}{RR:Qqp}
  (sc:Qcp) (hc:QaU) (I:QE) (l:Qrb) (st:tn 0 s.heap) (hf:∀b∈fp,lA X pins H b)
  (loop:∀D,H D=none->∃W:Nat->Nat->Hp->Prop,(∃m,W 0 m (upd H D Qdc))/\∀i m H2,W i m H2->(J.stop i H2/\G D H2) ∨
   (J.go i H2/\∃N:Hp->Prop,(∀H',N H'->∃m',m'<m/\W Qa5 m' H')/\∀L H3,J.n3 i H2 L H3->∀C s0 H0 f0 os,os.length=xs.length->L4 QrU tg elt ifs xs.length Y ix D N L os H3))
  (az:∀D C s' H',(∃m,s'.heap.Ns C m)->(∃o,s'.heap.get? C=some o/\∀v,o.data ≠ .cell v)->H' C=none->(C≠X.env.locals/\C∉X.fs/\X.hO.heap.objs.size<=C/\(∀y c,X.env.cells.lookup y=some c->c≠C)/\∀q∈X.pn++pins,q.1≠C)->(∀h',Heap.SameBut C s'.heap h'->Inv X pins Y H' {s' with heap:=h'})->G D H'->RR Qfm C QjP s') :
  wpAny Qr X.A Qjz (λacc O=>wpAny Qr X.A Qpd (λaa M=>
   codeAny Qr X.A (.compStart Qdy 0 Qbq acc {aa with scope:=relabel scope X.env}) (RR acc aa.locals) M) E O) E s:=by
 refine xc ?_;have F:Inv X pins Y Qhq {s with heap:=s.heap.push {cls:=.type "list",dict:=none,data:=.seq ([]:B2).toArray}}:=
  I.laid (t':=s.toks) Qmr (hI _) ⟨by show 0<=sizeLine;exact hY _,[],0,.nil,jj _ rfl⟩
 have hD:H s.heap.objs.size=none:=I.ck.fresh (hI _);obtain⟨W,⟨m0,w0⟩,turn⟩:=loop _ hD;have j:∀b∈fp,lA X pins Qhq b/\b<(s.heap.push {cls:=.type "list",dict:=none,data:=.seq ([]:B2).toArray}).objs.size:=λb a=>by
  obtain⟨f0,f1⟩:=hf b a;obtain⟨o,ho,_⟩:=l.obj 0 _ st b a;have iH:=h9 ho;refine⟨⟨by rw[aq (i2 iH)];exact f0,f1⟩,?_⟩;rw[y1];exact Nat.lt_succ_of_lt iH
 have S:tn 0 (s.heap.push {cls:=.type "list",dict:=none,data:=.seq ([]:B2).toArray}):=l.keep 0 _ _ st λb _ o e=>ia _ e;generalize ag:({s with heap:=s.heap.push {cls:=.type "list",dict:=none,data:=.seq ([]:B2).toArray}}:Shared)=s3 at F ⊢;have aw:s3.heap=s.heap.push {cls:=.type "list",dict:=none,data:=.seq ([]:B2).toArray}:=by rw[<- ag]
 rw[<- aw]at j S;refine wpAny_newFunctionEnv sc.AI (by intro y hy;simp at hy) (λh ba aT=>?_) sc.kind;have old:∀b o,s3.heap.get? b=some o->h.get? b=some o:=λb o e=>(aT.2 b QgT).trans Qdf;have J0:=N4 (tk:=s3.toks+([]:D1).length) sc F j ba old;have R:tn 0 h:=l.keep 0 _ _ S λb _ o e=>old b o e;have Z:∀s4:Shared,s4={s3 with heap:=h,toks:=s3.toks+([]:D1).length}->codeAny Qr X.A (.compLoop Qdy 0 Qbq QbT (compEnvC scope Qb7 s3.heap.objs.size X.env)) (RR QbT s3.heap.objs.size) s4:=by
  rintro s4 rfl;have f:∀{H':Hp},(∀b∈fp,H' b=none)->∀b∈fp,lA Qeh [] H' b:=λ{H'} hn b a=>by
   obtain⟨⟨f0,f1,f2,f3,f4,f5⟩,iH⟩:=j b a;refine⟨hn b a,i2 iH,λz=>?_,.inl a,λy c e=>f4 y c (qL (λy hy e=>I.ok.has y.1 (sc.frees y hy e).2) (λ_ _ z=>by cases z) e),λp hp=>absurd (show p∈([]:BC) from hp) Wl⟩;obtain q|q:=fF.1 (F.JM b z)
   .exact f1 q
   .exact f2 q
  refine Kd (λn s'=>∃i o H',o.length=xs.length/\Inv Qeh [] (XW Y ix o) H' s'/\tn i s'.heap/\(∀b∈fp,H' b=none)/\W i n H') ?_ m0 ⟨0,_,_,ui,J0,R,λb a=>(j b a).1.1,w0⟩;rintro n s5 ⟨i,o5,H5,af,I5,P,V,w5⟩;obtain⟨stop,g⟩|⟨go,N,hN,step⟩:=turn i n H5 w5
  .refine dF (l.done Qeh rfl rfl rfl hc i [] s5 _ H5 _ I5 (f V) P stop) λr s6 zz=>?_;obtain⟨hr,I6⟩:=zz;subst hr;obtain⟨m6,U,_⟩:=I6.loc;obtain⟨oc,bj,bo,ar,ax,_⟩:=id U;have k:=F.Av (hI s3.heap.objs.size) (H':=λ_=>none) rfl;refine az _ _ s6 H5 ⟨m6,U⟩ ⟨oc,ar,λv z=>by rw[ax]at z;cases z⟩ I6.free ⟨k.2.1,k.2.2.1,?_,k.2.2.2.2.1,k.2.2.2.2.2⟩ (λh' RN=>XR F (λb a=>(j b a).1) I6 RN) g;exact F.sz
  .refine dF (l.item Qeh rfl rfl rfl hc i [] s5 _ H5 _ I5 (f V) P go) λr s6 zz=>?_;obtain⟨u,hr,h6⟩:=zz;subst hr;refine dF h6 λ_ s7 zz=>?_;obtain⟨L,H7,I7,r7,y7,B,aI⟩:=zz;have bb:=I7.pinned (f aI) (l.obj _ _ B);obtain⟨t,hg,ht⟩:=step L _ y7 s3.heap.objs.size s3 Qhq fp o5 af;refine dF (hg _ s7 _ H7 L u _ bb r7 ht) λ_ s8 zz=>?_;obtain⟨bc,H8,I8,T,ae,e8,h8⟩:=zz;subst e8;refine dF (abd I8 h8 rfl) λok s9 zz=>?_;obtain⟨H9,I9,q9⟩:=zz;have again:∀{x:Hp} {sa:Qb},Inv Qeh ([]++DW fp s7.heap) (XW Y ix T) x sa->N x->∃m,m<n/\∃i o H',o.length=xs.length/\Inv Qeh [] (XW Y ix o) H' sa/\tn i sa.heap/\(∀b∈fp,H' b=none)/\W i m H':=λ{x sa} Ia na=>by
    obtain⟨m',hm,wa⟩:=hN x na;refine⟨m',hm,i+1,T,x,ae,Ia.tD,l.keep _ _ _ B λb a o e=>(Ia.pin (b,o) QtI).1,λb a=>?_,wa⟩;obtain⟨o,e,d⟩:=l.obj _ _ B b a;exact(Ia.pin (b,o) QtI).2.1
   cases ok with
   | false=>
    rw[bS km]at q9 ⊢;exact again I9 q9
   | true=>
    rw[ec rfl]at q9 ⊢;refine dF (q9 _ s9 I9) λv sa zz=>?_;obtain⟨y,x,Ia,ra,acc,C5,hlen,na⟩:=zz;refine dF (vq (X:=c6 X scope Nc s3.heap.objs.size s3 Qhq fp) _ sa _ x QbT [y] QbT [v] (λ_ Hb=>Hb=upd x s.heap.objs.size (.lst (acc++[y]))) Ia rfl (.cons ra .nil) ⟨_,acc,y,rfl,rfl,C5,hlen,rfl⟩) λ_ sb zz=>?_;obtain⟨_,Hb,Ib,_,eb⟩:=zz;subst eb;exact again Ib na
 exact codeAny_compStart_list (Z _ rfl) (l.self _ 0 _ _ _ R (Z _ rfl))
noncomputable def XY(ps:BB):BA:=ps.map λp=>some (.sh p)
theorem IW:∀{ys:B1} {os:Qg0} {pre r:L2.St},os.length=ys.length->Em (pre++(os++r)) (List.range' pre.length ys.length) ys=pre++(ys.map some++r)
 | [],os,pre,r,h=>by
  have:=List.length_eq_zero_iff.1 h;subst this;rfl
 | y::ys,os,pre,r,h=>by
  match os,h with
  | o::os,h=>
   show Em _ _ ys=_;have:=IW (pre:=pre++[some y]) (r:=r) (by simpa using h);simp_all
def afZ:∀{ps:BB} {ys:B1} {δc:BA} {a:L2.St},av K CL Z ps ys->e9 K CL H Z δc a []->e9 K CL H Z Qe8 (ys.map some++a) []:=λ{ps ys δc a} h e=>
 av.ind (P:=λps ys=>e9 K CL H Z Qe8 (ys.map some++a) []) e (λr _ i=>.cons (.sh r) i) h
section
variable{W1:Hp}{δc:BA}{J:It}{ds:BB}{p:Qhm}{g:D->T}{parts:Qju}
def qP(X:Cx)(CL:BM)(scope:Scope)(Nc:At)(n:Nat)(tg:Expr)(parts:Qju)(ifs:Cl)(elt:Expr)(δc:BA)(ds:BB)(p:Qhm)(g:D->T):Prop:=
 ∀C s0 a f0 b,zi QlL CL tg Qu3 parts/\∀d,d∈ds->∃ps,parts d=some ps/\ps.length=n/\HU QlL CL b ifs Qe8 (p d)/\(p d=true->bR QlL CL b elt Qe8 (g d) Qe8)
structure GW(K:Frag)(CL:BM)(H W1:Hp)(D:Addr)(l:Bn)(k:Nat)(H2 Z2:Hp)(Rb:B1)(fp:BY):Prop where
 a1:ay H H2
 a2:ay W1 Z2
 a3:ay Z2 H2
 a4:Z2 D=none
 a5:∀a o,Z2 a=some o->W1 a=none->H a=none
 a6:∀a o,H2 a=some o->jd o=true->Z2 a=some o
 a7:H2 D=some (.lst Rb)
 a8:aN K CL H2 Z2 l Rb fp
 a9:fp.Nodup
 b1:D∉fp
 b2:∀a∈fp,Z2 a=none/\H a=none
 b3:Rb.length<=k
theorem xx(S:Qf5)(zw:ay Z W1)(wh:ay W1 H)(tp:∀a o,H a=some o->jd o=true->W1 a=some o)
  (ba:∀H',e9 X.K CL H' W1 δc (ix.map λi=>(Y[i]?).getD none) []) (inner:qP X CL scope Nc n tg parts ifs elt δc ds p g)
  (aI:∀i H2,ay W1 H2->i<ds.length->J.go i H2)
  (hy:∀i Z2 H2 x H',ay W1 Z2->ay Z2 H2->(∀a o,H2 a=some o->jd o=true->Z2 a=some o)->i<ds.length->J.n3 i H2 x H'->∃Z3 d,ds[i]? = some d/\Kn Z2 H2 Z3 H'/\bC X.K CL Z3 d x)
  (nR:∀H2,ay W1 H2->J.stop ds.length H2) (hlen:QbL) (c:W1=Z\/∀d∈ds,(g d).clean=true) :
  ∀D,H D=none->∃W:Nat->Nat->Hp->Prop,(∃m,W 0 m (upd H D Qdc))/\∀i m H2,W i m H2->(J.stop i H2/\∃Z2,ay Z Z2/\ay H H2/\aV X.K CL b H2 Z2 U Y Qlj QoH) ∨
   (J.go i H2/\∃N:Hp->Prop,(∀H',N H'->∃m',m'<m/\W Qa5 m' H')/\∀xv k,J.n3 i H2 xv k->∀C s0 H0 f0 os,os.length=n->L4 QrU tg elt ifs n Y ix D N xv os k):=by
 intro D hD;have wD:W1 D=none:=wh.free hD;refine⟨λi m H2=>m=ds.length-i/\i<=ds.length/\∃Z2 Rb fp,GW X.K CL H W1 D (((ds.take i).filter p).map g) i H2 Z2 Rb fp,⟨ds.length,rfl,hY _,W1,[],[],ay.upd hD,.refl _,wh.trans (ay.upd hD),wD,λa o q z=>?_,λa o q i=>?_,aA,.nil,lr,Wl,Wl,Wl⟩,?_⟩
 .rw[q]at z;cases z
 .by_cases f:a=D
  .subst f;rw[aA]at q;cases q;cases i
  .rw[aq f]at q;exact tp a o q i
 .rintro i m H2 ⟨rfl,hi,Z2,Rb,fp,hh,R,zh,zD,nw,I,E,T,nd,nD,own,bc⟩;by_cases iH:i<ds.length
  .refine .inr ⟨aI i H2 (R.trans zh) iH,λH'=>∃Z2 Rb fp,GW X.K CL H W1 D (((ds.take Qa5).filter p).map g) Qa5 H' Z2 Rb fp,λH' h=>⟨ds.length-Qa5,We,rfl,iH,h⟩,λxv k y C s0 H0 f0 os Ng=>?_⟩;obtain⟨Z3,d,hd,w,rd⟩:=hy i Z2 H2 xv k R zh I iH y;have O:∀a,Z2 a=none->(∃o,H2 a=some o)->Z3 a=none:=λa e ⟨o,e2⟩=>by
    cases q:Z3 a with
    | none=>rfl
    | some u=>rw[w.new a u q e]at e2;cases e2
   have ae:∀a o,Z3 a=some o->W1 a=none->H a=none:=λa o q z=>by
    cases e:Z2 a with
    | none=>exact hh.free (w.new a o q e)
    | some u=>
     have:=w.z a u e;rw[q]at this;cases this;exact nw a o e z
   have l:aN X.K CL k Z3 (((ds.take i).filter p).map g) Rb fp:=T.mono w.z λa f=>by
    obtain⟨o,e⟩:=T.there a f;rw[e];exact w.h a o e
   have B:∀a∈fp,Z3 a=none/\H a=none:=λa f=>⟨O a (own a f).1 (T.there a f),(own a f).2⟩;have G:Z3 D=none:=O D zD ⟨_,E⟩;have j:k D=some (.lst Rb):=w.h D _ E;have s:=hh.trans w.h;have A:=R.trans w.z;have V:=w.zh;have aw:=w.tp;clear own nw T zD E hh R zh I w O;have Hg:d∈ds:=i0 hd;have Aq:ds.take Qa5=ds.take i++[d]:=by rw[rk,hd];rfl
   obtain⟨ij,Nh⟩:=inner C s0 H0 f0 ⟨k,Z3⟩;obtain⟨ps,az,hpl,it,ie⟩:=Nh d Hg;obtain⟨t,pg,ht⟩:=ij;refine⟨t,pg,ht Z3 k d ps xv _ _ V rd az λys aa=>?_⟩;have M:ys.length=n:=by rw[<- aa.length];exact hpl
   have es:Em (XW Y ix os) Qu3 ys=XW Y ix Qsw:=by
    have:=IW (ys:=ys) (os:=os) (pre:=[]) (r:=ix.map λi=>(Y[i]?).getD none) (by rw[Ng,M]);rw[M]at this;exact this
   refine⟨ys.map some,by rw[cq];exact M,es,?_⟩;rw[es];have S0:aV X.K CL ⟨k,Z3⟩ k Z3 Qe8 Qvt [] []:=
    ⟨⟨[],[],afZ aa ((ba k).mono A λa f=>by cases f),.nil,lr,λa f=>by cases f⟩,.refl _,.refl _,V,λa o q z=>(by have z':Z3 a=none:=z;rw[show Z3 a=some o from q]at z';cases z'),aw,(S.RG.mono zw).mono A⟩
   refine it.sem S0 λH4 Z4 P L S4=>?_;have bb:∀a∈fp,H4 a=k a:=λa f=>by
    obtain⟨o,e⟩:=l.there a f;rw[e];exact L a o e
   have ar:∀a,Z3 a=none->(∃o,k a=some o)->Z4 a=none:=λa e ⟨o,e2⟩=>by
    cases q:Z4 a with
    | none=>rfl
    | some u=>
     have:=S4.new a u q e;rw[show k a=none from this]at e2;cases e2
   cases hp:p d with
   | false=>
    refine XD ⟨Z4,Rb,fp,s.trans L,A.trans P,S4.zh,ar D G ⟨_,j⟩,λa o q z=>?_,S4.tp,L D _ j,?_,nd,nD,λa f=>⟨ar a (B a f).1 (l.there a f),(B a f).2⟩,We⟩
    .cases e:Z3 a with
     | none=>exact s.free (S4.new a o q e)
     | some u=>
      have:=P a u e;rw[q]at this;cases this;exact ae a o e z
    .rw[Aq,oI,y6 (by simp[hp]),uu,hX];exact l.mono P bb
   | true=>
    refine XF ((ie hp) H4 Z4 Qvt [] [] _ S4 λyv H5 Z5 z5 k5 S5=>⟨Rb,k5 D _ (L D _ j),We,?_⟩);obtain⟨f1,g1,e1,r1,af,ag⟩:=S5.rep;cases r1 with
    | @cons _ _ _ _ fy fn ry rn=>
     cases rn;rw[hX]at af ag;have ax:fy.Nodup:=(kc.1 af).2.1;have F:∀a∈fy,Z5 a=none/\k a=none:=λa f=>ag a (hV _ f);have RP:∀a,Z3 a=none->(∃o,k a=some o)->Z5 a=none:=λa e ⟨o,e2⟩=>by
      cases q:Z5 a with
      | none=>rfl
      | some u=>
       have:=S5.new a u q e;rw[show k a=none from this]at e2;cases e2
     have yD:∀a∈fy,a≠D:=λa f e=>by
      subst e;rw[(F a f).2]at j;cases j
     have bj:H5 D=some (.lst Rb):=k5 D _ (L D _ j);have sD:ay H (upd H5 D (.lst (Rb++[yv]))):=λa o q=>by
      rw[aq (aJ q hD)];exact k5 a o (L a o (s a o q))
     refine⟨Z5,Rb++[yv],fp++fy,sD,A.trans (P.trans z5),λa o q=>?_,RP D G ⟨_,j⟩,λa o q z=>?_,λa o q im=>?_,aA,?_,?_,?_,λa f=>?_,?_⟩
     .rw[aq (aJ q (RP D G ⟨_,j⟩))];exact S5.zh a o q
     .cases e:Z3 a with
      | none=>exact s.free (S5.new a o q e)
      | some u=>
       have:=z5 a u (P a u e);rw[q]at this;cases this;exact ae a o e z
     .by_cases f:a=D
      .subst f;rw[aA]at q;cases q;cases im
      .rw[aq f]at q;exact S5.tp a o q im
     .rw[Aq,oI,y5 hp,uu,h7];refine aN.app (l.mono (P.trans z5) λa f=>?_) (by
       have:=aN.cons (fp:=fy) (gp:=[]) (ry.mono QA λa f=>aq (yD a f)) (aN.nil (H:=upd H5 D (.lst (Rb++[yv]))) (Z:=Z5))
       rwa [hX]at this)
      have:a≠D:=λe=>nD (e▸f);rw[aq this];obtain⟨o,e⟩:=l.there a f;rw[e];exact k5 a o (L a o e)
     .refine kc.2 ⟨nd,ax,λa f a' aT e=>?_⟩;subst e;obtain⟨o,e⟩:=l.there a f;rw[(F a aT).2]at e;cases e
     .intro h;obtain h|h:=hG.1 h
      .exact nD h
      .exact yD D h rfl
     .obtain h|h:=hG.1 f
      .exact⟨RP a (B a h).1 (l.there a h),(B a h).2⟩
      .exact⟨(F a h).1,s.free (F a h).2⟩
     .rw[iq,kv];lia
  .have e:i=ds.length:=by lia
   subst e;refine .inl ⟨nR H2 (R.trans zh),?_⟩;rw[ka]at T;obtain⟨Z',z',S'⟩:=S.back (H':=H2) (W:=W1) (W':=Z2) (t:=.lst ((ds.filter p).map g)) (v:=.ref D) (fp:=D::fp) hh zw R zh nw I (.lst E T) (kn.2 ⟨nD,nd⟩) (λa f=>by
    obtain h|h:=fF.1 f
    .subst h;exact⟨zD,hD⟩
    .exact own a h) (c.imp id λc=>by
     rw[qk];exact Ei λd hd=>c d (js.1 hd).1)
   exact⟨Z',z',hh,S'⟩
end
variable{δc:BA}{ds:BB}{p:Qhm}{g:D->T}{parts:Qju}
def mR{J:It}{tn:QiO}{H1:Hp}{RR:Qqp}
  (sc:Qcp) (G:QaU) (C:AO X CL b δ1 Y ts vs Z H ds J H1) (I:L2.Inv X pins Y H1 s) (M:Qrb) (st:tn 0 s.heap) (hf:∀b∈fp,lA X pins H1 b)
  (L:(δc=zb δ1 ix/\∀d∈ds,(g d).clean=true)\/δc=Ej δ1 ix) (inner:Qht) (hlen:QbL)
  (l:∀D C s' H' Z',(∃m,s'.heap.Ns C m)->(∃o,s'.heap.get? C=some o/\∀v,o.data ≠ .cell v)->H' C=none->(C≠X.env.locals/\C∉X.fs/\X.hO.heap.objs.size<=C/\(∀y c,X.env.cells.lookup y=some c->c≠C)/\∀q∈X.pn++pins,q.1≠C)->(∀h',Heap.SameBut C s'.heap h'->L2.Inv X pins Y H' {s' with heap:=h'})->ay Z Z'->ay H H'->aV X.K CL b H' Z' δ1 Y Qlj QoH->RR Qfm C QjP s') :
  wpAny Qr X.A Qjz (λacc h=>wpAny Qr X.A Qpd (λk f=>
   codeAny Qr X.A (.compStart Qdy 0 Qbq acc {k with scope:=relabel scope X.env}) (RR acc k.locals) f) E h) E s:=by
 obtain⟨Z1,x,k1,a,go,n,j⟩:=C.ex;have lp:∀D,H1 D=none->∃W:Nat->Nat->Hp->Prop,(∃m,W 0 m (upd H1 D Qdc))/\∀i m H2,W i m H2->(J.stop i H2/\∃Z2,ay Z1 Z2/\ay H1 H2/\aV X.K CL b H2 Z2 δ1 Y Qlj QoH) ∨
   (J.go i H2/\∃N:Hp->Prop,(∀H',N H'->∃t,t<m/\W Qa5 t H')/\∀r u,J.n3 i H2 r u->∀C s0 P f0 os,os.length=xs.length->L4 (c6 X scope Nc C s0 P f0) tg elt ifs xs.length Y ix D N r os u):=by
  obtain⟨e,cl⟩|e:=L
  .subst e;exact xx a a.zh QA QtJ (zc a ix) inner (λi H2 s=>go i H2 QnI) (λi Z2 H2 y H' s=>n i Z2 H2 y H' QnI) (λH2 s=>j H2 QnI) hlen (.inr cl)
  .subst e;exact xx a QA a.zh a.tp (N2 a ix) inner go n j hlen Qal
 exact Eo sc G I M st hf lp λD C s' H' m io B ch ci ⟨Z',z,F,O⟩=>l D C s' H' Z' m io B ch ci (x.trans z) (k1.trans F) O
def kY(sc:Qcp)(I:Qbb):closureFor scope X.env=pure Qb7:=
 oV λy a e=>I.ok.has y.1 (sc.frees y a e).2
def Ep(sc:Qcp)(i:QaU)(h:Qf2)(j:(δc=zb δ1 ix/\∀d∈ds,(g d).clean=true)\/δc=Ej δ1 ix)(inner:Qht)(hlen:QbL)
  (hs:Qco:=by intro _;rfl):bR X CL b Qdy U QfX δ1:=λH Z Y ts vs Q S k pins s I=>by
 obtain⟨r,pi,hw⟩:=h;refine y2 rfl hs Qkl sc.kind sc.names ?_;refine dF (pi pins s Y H _ I (hw H Z Y ts vs _ S λJ H1 C=>C)) λv s1 h1=>dF h1 λf s2 zz=>?_;obtain⟨it,fp,tn,J,H1,e,q,l,st,hf,C⟩:=zz;subst e;refine mR sc i C q l st hf j inner hlen λD u s' H' Z' m io t ch ci a c n=>?_;obtain⟨m,hn⟩:=m;exact⟨m,hn,λh' o=>⟨.ref D,H',ci h' o,rfl,k _ H' Z' a c n⟩⟩
variable{y:Str}
def Ko{E:Ends}{D' a:Addr}{s':Qb}{py:Pos}(H:Qbm)(hi:X.N[i]? = some y)(D:Qnl)(h:AM X y)(m:∃m,s'.heap.Ns a m)(io:∃r,s'.heap.get? a=some r/\∀v,r.data ≠ .cell v)(C:H' a=none)
  (ch:a≠X.env.locals/\a∉X.fs/\X.hO.heap.objs.size<=a/\(∀y c,X.env.cells.lookup y=some c->c≠a)/\∀q∈X.pn++pins,q.1≠a) (ci:∀h',Heap.SameBut a s'.heap h'->L2.Inv X pins Y H' {s' with heap:=h'}) (q:E.nx Qvu H') :
  compPost Qr X.A X.xe Qe3 QqJ QgQ a QjP s':=by
 obtain⟨m,hn⟩:=m;obtain⟨o,s,B⟩:=io;have u:L2.Inv X pins Y H' s':=ci s'.heap (.refl ..);have L:L2.Inv X (pins++[(a,o)]) Y H' s':=u.Dl λq g=>by
  obtain z|z:=hG.1 g
  .exact u.pin q (hV _ z)
  .have e:q=(a,o):=by simpa using z
   subst e;exact⟨s,C,ch.1,ch.2.1,B⟩
 show wpAny _ X.A (assign QfT X.env QgQ) _ _ s';have F:PG X QfT (NC i):=vn H hi D h;refine dF (F _ s' Y H' QgQ QgQ (λd x=>d=Y.set i Qsx/\x=H') L rfl ⟨rfl,rfl⟩) λ_ p zz=>?_;obtain⟨d,x,l,I,k⟩:=zz;subst I;subst k;obtain⟨j,f,_⟩:=l.pin (a,o) (hV _ (hV _ Wl));refine⟨m,hn.at' λo' t=>by rw[s]at t;cases t;exact j,λh' J=>?_⟩;have K:L2.Inv X pins Qvu _ p:=l.Dl λq g=>l.pin q (hV _ (hZ _ g));have n:=K.turned (it:=a) (h':=h') (t':=p.toks) (λb o G e=>(J.2 b G).trans e) f ch.1.symm.symm (.inr ch.2.2.1) ch.2.2.2.1 ch.2.2.2.2;exact⟨_,_,n,q⟩
def af1{D:cY}{py a:Pos}(i:Nat)(sc:Qcp)(q:QaU)(h:Qf2)(r:(δc=zb δ1 ix/\∀d∈ds,(g d).clean=true)\/δc=Ej δ1 ix)(inner:Qht)(hlen:QbL)
  (k:D.nx (δ1.set i (some QfX))) (hl:Qb5) (t:Qbm) (hi:X.N[i]? = some y) (n:Qnl) (c:AM X y)
  (B:swapsWith Qdy (some QfT) a.line X.env=pure true)
  (hs:Qco:=by intro _;rfl):Vr X CL b (.Assign [.Name y py] Qdy a) U D:=λH Z Y ts vs E S M pins s I=>by
 obtain⟨F,pi,hw⟩:=h;rw[exec_Assign_Name_used _ _ _ _ B];refine cz (yY (cz ?_));show wpAny _ X.A (do let _ ← comprehension Qdy scope X.env _ Qjz false QuQ Qe3) _ _ s;refine cz (i8 (y2 (use:=some QkH) (Q:=λ_ s'=>SP X pins E .next s') rfl hs Qkl sc.kind sc.names ?_) (λ_ s' o=>hL (hL o)) λ_ _ e=>e);refine dF (pi pins s Y H _ I (hw H Z Y ts vs (λJ H1=>AO X CL b δ1 Y ts vs Z H ds J H1) S λJ H1 C=>C)) λv s1 h1=>dF h1 λl s2 zz=>?_;obtain⟨it,fp,tn,J,H1,e,z,u,st,hf,C⟩:=zz;subst e;refine mR (RR:=λacc C=>compPost Qr X.A X.xe Qe3 QqJ acc C) sc q C z u st hf r inner hlen λD' K s' H' Z' m io j ch ci f G x=>?_;exact Ko t hi n c m io j ch ci (M.nx _ _ _ Z' f (x.set hl) k)
variable{pos':Pos}
def aln{D:cY}(c:Gx X)(n:Qba)(sc:Qcp)(h:Qf2)
  (e:(δc=zb δ1 ix/\∀d∈ds,(g d).clean=true)\/δc=Ej δ1 ix) (inner:Qht) (hlen:QbL) (k:cG X CL b dO (δ1.set i (some QfX)) D) (hl:Qb5)
  (a:swapsWith QkT Qei pos.line X.env=pure true\/swapsWith QkT Qei pos.line X.env=pure false) (hs:Qco:=by intro _;rfl) :
  cG X CL b (.Assign [.Name x pos'] QkT pos::dO) U D:=by
 obtain a|a:=a
 .exact bK (af1 i sc c.calm h e inner hlen k hl c.nd n.hi n.loc n.hf a hs)
 .exact bK (Ka i (Ep sc c.calm h e inner hlen hs) k hl c.nd n.hi n.loc a n.hf)
noncomputable def NU(scope:Scope)(xs a:At):Bool:=
 scope.kind == .function&&xs.all (λy=>scope.names.lookup y==some .local)&&a.all Qqa&&decide ((xs++a).Nodup) &&
  scope.names.all λy=>y.2 != .cell&&(y.2 != .local || scope.names.lookup y.1==some .local)&&(y.2 != .free || QpX)
theorem Kp{d:At}(c:x2 X ix d)(ok:NU scope xs d=true):lC X scope xs (xs++d) ix:=by
 unfold NU at ok;simp only[kx,oD,pE,p3]at ok;obtain⟨⟨⟨⟨h1,l⟩,h⟩,g⟩,b⟩:=ok;have j:∀y∈d,X.env.kindOf y=some .cell\/X.env.kindOf y=some .free:=by
  clear h g b
  induction c with
  | nil=>intro y a;cases a
  | cons n k r f=>
   intro y a;obtain e|a:=fF.1 a
   .subst e;exact k
   simp_all
 refine⟨h1,λy a e=>?_,g,λy a e=>?_,l,λy a e=>?_,?_,λi hi=>?_⟩
 .have:=(b y a).1.1;rw[e]at this;simp at this
 .have:=(b y a).1.2;rw[e]at this;simpa using this
 .have:=(b y a).2;simp_all
 .congr 1;clear h g b j
  induction c with
  | nil=>rfl
  | cons n k r f=>rw[me,n.hi,<- f]
 .clear g b j
  induction c with
  | nil=>cases hi
  | @cons m y ix ys n k r f=>
   obtain e|hi:=fF.1 hi
   .subst e;exact⟨y,n.hi,h y gF⟩
   .exact f Qvf hi
variable{C:Addr}
def Er(h1:Nc[i]? = some x)(a:QhO)(hd:AD x:=by decide)(iO:AE x:=by decide):Ln QbJ i x:=
 ⟨YO h1 a hd iO,.inl QlO,.inr QlO⟩
def Ite(K:Frag)(a:Addr):It:=
 ⟨λi H=>∃xs x,lQ K H a xs/\xs[i]? = some x,λi H x H'=>∃T y,H T=none/\x=.ref T/\(∀xs,lQ K H a xs->xs[i]? = some y)/\H'=upd H T (.tup [.int i,y]),λi H=>∃xs,lQ K H a xs/\xs.length<=i⟩
theorem IX{o:HO}(I:Qbb)(fp:QgO)(new:dD X.prog X.w QbB s.heap a o):L2.Inv X pins Y QbB s:=by
 have hn:=fp.1;refine I.step (ch:=[a]) (λb f=>?_) (λb o _ _ _ e _=>e) (λb o _ _ _ e _=>⟨ _,e⟩) (λb o d _ n=>by rw[aq λz=>d (by simp[z])];exact n)
  (λb o _ e=>⟨o,e⟩) (λb xs e=>aq Qff▸e) (λb o u e=>aq Qff▸e) (λb ps e=>⟨#[],by rw[aq Qff,e];simp⟩) (λm hm=>hm) (λb u e=>?_) I.bare
 .have e:=by simpa using f
  subst e;exact⟨fp.2.2.2.1,fp.2.1,fp.2.2.2.2.1,fp.2.2.2.2.2⟩
 .by_cases z:b=a
  .subst z;rw[aA]at e;grind
  .rw[aq z]at e;exact(I.ck b u e).yQ (λ_ _ _ q=>q) (λc q=>aq QcG▸q) (λc xs q=>aq QcG▸q) λc z q=>aq QcG▸q
def XZ{t':Nat}{h':Heap}{S:BY}(I:Qbb)(hf:∀b∈S,lA X pins H b)(k:∀b o,b∉S->s.heap.get? b=some o->h'.get? b=some o):L2.Inv X pins Y H {s with heap:=h',toks:=t'}:=by
 have n:∀b u,H b=some u->b∉S:=λb u e z=>by rw[(hf b z).1]at e;cases e
 refine I.step (ch:=S) (λb f=>?_) (λb o _ _ a e _=>k b o a e) (λb o _ _ a e _=>⟨_,k b o a e⟩) Qs8 (λb o a e=>⟨o,k b o a e⟩) QtT Qgr (λb ps e=>⟨#[],by rw[e];simp⟩) (λm hm=>?_) (λb u e=>?_) I.bare
 .obtain⟨_,f1,_,h,f4,g⟩:=hf b f;exact⟨h,f1,f4,g⟩
 .obtain⟨o,es,ep,d,r⟩:=hm;exact⟨o,es,ep,k _ o (λz=>(hf _ z).2.1 rfl) d,r⟩
 .exact(I.ck b u e).yQ (λc v a q=>k c v (by obtain z|z:=a<;>first|(rw[z];exact n b u e)|exact n c _ z) q) QcC λ_ _ q=>q
variable{elts:Cl}{kk:Nat}{pt:Pos}
theorem X3(a e it:Addr)(F:e≠it):Turn P w K QiF (Ite K a) [e,it] e (λi h=>(∃old,PySem.IsEnum h e it i old)/\h.IsListIter it a i) where
 mem:=by simp
 obj:=λi h st b f=>by
  obtain⟨⟨old,he⟩,hit⟩:=st;obtain z|z:=fF.1 f
  .subst z;exact⟨_,he,λv z=>by
    have J:Data.fields _=Data.cell v:=z;cases J⟩
  .have z:b=it:=by simpa using z
   subst z;obtain⟨o,e,c,d⟩:=hit;exact⟨o,e,λv z=>by rw[d]at z;cases z⟩
 keep:=λi h h' st k=>by
  obtain⟨⟨old,he⟩,hit⟩:=st;exact⟨⟨old,k e Wl _ he⟩,hit.at λo q=>k it Wl o q⟩
 item:=by
  intro X C hw D G i pins s Y H E I hf st t;subst C hw D;obtain⟨xs,x,l,r⟩:=t;obtain⟨its,n,p,hz⟩:=I.list l;obtain⟨u,N,L⟩:=n.get r;obtain⟨⟨old,he⟩,hit⟩:=st;have fe:=hf e Wl;have fi:=hf it Wl;have g:H s.heap.objs.size=none:=I.ck.fresh (hI _);have V:=I.Av (hI s.heap.objs.size) g;refine PySem.wpAny_pyNext_enum_item he hit p.isList (x:=u) (by simpa using N) F λh' O N5 T hsz R=>⟨_,rfl,?_⟩;refine PySem.wpAny_letOwnedTupleGo_enum O λm y j=>?_;replace j:Heap.SameBut e h' m:=j;have eT:e<s.heap.objs.size:=h9 he;have keep:∀b o,b≠e->b≠it->s.heap.get? b=some o->m.get? b=some o:=λb o h1 U q=>(j.2 b h1).trans (R b o h1 U q);have B:m.get? s.heap.objs.size=some {cls:=.type "tuple",data:=.seq #[.int i s.toks,u]}:=(j.2 _ (Nat.ne_of_gt eT)).trans T;have I1:L2.Inv X pins Y H {s with heap:=m,toks:=s.toks+1}:=XZ (S:=[e,it]) I hf λb o f=>keep b o (λz=>f (by simp[z])) λz=>f (by simp[z]);have I':=IX (a:=s.heap.objs.size) (o:=.tup [.int i,x]) I1 V ⟨ke (bB QaG),[.int i s.toks,u],.cons ⟨s.toks,rfl⟩ (.cons L .nil),⟨_,B,rfl,_,rfl⟩⟩;have ei:((i+1:Nat):Int)=(i:Int)+1:=by lia
  refine⟨.ref s.heap.objs.size,_,I',rfl,⟨_,x,g,rfl,λys M=>by rw[I.DU M l];exact r,rfl⟩,⟨⟨u,by rw[ei];exact y⟩,N5.at λo q=>(j.2 it (la F)).trans q⟩,λb f=>?_⟩;have A:=hf b f;obtain⟨o,Xm,_⟩:∃o,s.heap.get? b=some o/\True:=by
   obtain z|z:=fF.1 f
   .subst z;exact⟨_,he,trivial⟩
   .have z:b=it:=by simpa using z
    subst z;obtain⟨o,q,_⟩:=hit;exact⟨o,q,trivial⟩
  rw[aq (i2 (h9 Xm))];exact A.1
 done:=by
  intro X C hw D G i pins s Y H E I hf st t;subst C hw D;obtain⟨xs,l,r⟩:=t;obtain⟨its,n,p,hz⟩:=I.list l;obtain⟨⟨old,he⟩,hit⟩:=st;obtain⟨f0,f1,f2,Z,f4,W⟩:=hf it Wl;have hl:=n.length;exact PySem.wpAny_pyNext_enum_end (I.ok.hd G) he hit p.isList WE λh' eb=>⟨rfl,I.turned (t':=s.toks) (λb o f e=>eb b o f e) f0 f1 Z f4 W⟩
 self:=λ_ _ _ _ _ st h=>by
  obtain⟨⟨old,he⟩,_⟩:=st;exact PySem.wpAny_pyIter_enum he h
def apc(K:Frag)(ta:TA):TI:=λY H R=>ta Y H λvs H1=>∃a xs,vs=[.ref a]/\lQ K H1 a xs/\R (Ite K a) H1
theorem af2{a:Expr}{ta:TA}{p:Pos}(j:Qnr)(hm:QmF)(m:PA X [a] ta)(hs:AC X a []):PI X QiF (.Call (.Name "enumerate" p) [a] [] pos) (apc X.K ta):=by
 intro pins s Y H R I h;refine Call_ (mX I j hm boot_enumerate (tJ (dF QlU λus s1 zz=>?_) hs rfl));obtain⟨vs,H1,c,f,q1⟩:=zz;obtain⟨l,xs,e,g,q⟩:=q1;subst e;cases f with
 | cons r d=>
  cases d;cases r;obtain⟨its,o,p,hz⟩:=c.list g;refine PySem.call_enumerate_list p.isList λh' he hit hsz i=>?_;have n:=c.kept (t':=s1.toks) i;refine PySem.wpAny_pyIter_enum he ?_;refine⟨ _,_,_,_,H1,rfl,n,X3 l _ _ (Nat.succ_ne_self _),⟨⟨_,he⟩,hit⟩,λb k=>?_,q⟩;obtain z|z:=fF.1 k
  .subst z;exact c.Av (mi _) (c.ck.fresh (mi _))
  .have z:=by simpa using z
   subst z;exact c.Av (hI _) Qiz
noncomputable def Es(ds:BB):BB:=(List.range ds.length).map λ(i:Nat)=>.tup [.int i,ds.getD i .non]
def IY(ds:BB):(Es ds).length=ds.length:=by simp[Es]
def X4{ds:BB}{d:D}(h:ds[i]? = some d):(Es ds)[i]? = some (.tup [.int i,d]):=by
 have hi:=(ko.1 h).1;unfold Es;rw[ib,ue hi];show some (D.tup _)=_;rw[i4,h];rfl
variable{ds:BB}
theorem af3(hm:QmF)(h:Ql4)(p:Qnr)(hs:QaA:=by exact bz rfl):r2 X CL b QiF Qql U (Es ds) δ1:=by
 refine⟨_,af2 p hm QaY hs,λH Z Y ts vs R S k=>h H Z Y ts vs _ S λv H1 Z1 m k1 g=>?_⟩;obtain⟨fp,gp,_,r,_,_⟩:=g.rep;cases r with
 | cons r _=>
  replace r:=r.GX;obtain⟨rfl,r⟩:=r;obtain⟨a,us,rfl,c,j⟩:=r.gR;have hl:=j.length;refine⟨a,us,rfl,g.zh.seq c,k _ _ ⟨Z1,m,k1,g.pop,λi H2 s hi=>?_,λi Z2 H2 x H' s1 s2 tp hi n=>?_,λH2 s=>?_⟩⟩
  .rw[IY]at hi;have f:i<us.length:=hl▸hi;exact⟨us,_,s.seq c,iB f⟩
  .obtain⟨T,y,q,rfl,o,rfl⟩:=n;obtain⟨d,hd,rd⟩:=j.XM (o us ((s1.trans s2).seq c));have l:=Kn.tup (xs:=[.int i,y]) s2 tp q;exact⟨_,_,X4 hd,l,.tup (qh.of aA) (.cons Qbu (.cons ((rd.mono s1).mono l.z) .nil))⟩
  .rw[IY];exact⟨us,s.seq c,by simp_all ⟩
noncomputable def insI(x:Int):AT->AT
 | []=>[x]
 | y::l=>if x<=y then x::y::l else y::insI x l
def sortI:AT->AT
 | []=>[]
 | x::l=>insI x (sortI l)
theorem insI_perm(x:Int):∀l,(insI x l).Perm (x::l)
 | []=>.refl _
 | y::l=>by
  rw[insI];split
  .exact .refl _
  .exact((insI_perm x l).cons y).trans (.swap x y l)
theorem sortI_perm:∀l,(sortI l).Perm l
 | []=>.refl _
 | x::l=>(insI_perm x _).trans ((sortI_perm l).cons x)
def g8{x:Int}:x∈sortI l↔x∈l:=(sortI_perm l).mem_iff
def mS(l:AT):(sortI l).length=l.length:=(sortI_perm l).length_eq
theorem Ck(x:Int):∀{l:AT},l.Pairwise (· <= ·)->(insI x l).Pairwise (· <= ·)
 | [],_=>oC _ _
 | y::l,h=>by
  rw[insI];obtain⟨h1,a⟩:=l5.1 h;split
  .rename_i e;refine l5.2 ⟨λz hz=>?_,h⟩;obtain rfl|hz:=fF.1 hz
   .exact e
   .exact Int.le_trans e (h1 z hz)
  .refine l5.2 ⟨λz hz=>?_,Ck x a⟩;obtain rfl|hz:=fF.1 ((insI_perm x l).mem_iff.1 hz)
   .lia
   simp_all
theorem jy:∀l,(sortI l).Pairwise (· <= ·)
 | []=>.nil
 | x::l=>Ck x (jy l)
theorem Cm:∀{a b:AT},a.Perm b->a.Pairwise (· <= ·)->b.Pairwise (· <= ·)->a=b
 | [],b,p,_,_=>(List.nil_perm.1 p).symm
 | x::a,[],p,_,_=>absurd p.length_eq Wl
 | x::a,y::b,p,f,d=>by
  obtain⟨a1,a2⟩:=l5.1 f;obtain⟨b1,b2⟩:=l5.1 d;have e:x=y:=by
   have h1:=p.mem_iff.1 gF;have c:=p.mem_iff.2 gF;obtain e|h1:=fF.1 h1
   .exact e
   .obtain e|c:=fF.1 c
    .exact e.symm
    .exact Int.le_antisymm (a1 y c) (b1 x h1)
  subst e;rw[Cm (List.Perm.cons_inv p) a2 b2]
def Et{z:AT}(p:z.Perm l)(s:z.Pairwise (· <= ·)):z=sortI l:=Cm (p.trans (sortI_perm l).symm) s (jy l)
theorem qQ:∀{us:B2} {ns:AT},IntsAre us ns->Vals Qcz us
 | _,_,.nil=>.nil
 | _,_,.cons n t r=>.cons ⟨t,rfl⟩ (qQ r)
theorem Kq:tE X Qiw (λxs H Q=>∃p ns,xs=[.ref p]/\lQ X.K H p QnZ/\ns.length<64/\∀l,H l=none->Q Qfi (upd H l (.lst ((sortI ns).map .int)))):=by
 intro pins s Y H xs us Q I r h;obtain⟨p,ns,rfl,d,hl,q⟩:=h;obtain⟨u,rfl,b⟩:=vals1 r;cases b;obtain⟨its,a,pl,hz⟩:=I.list d;have hlen:=a.length;rw[cq]at hlen;refine sorted_ints pl.isList (intsAre_of a) We λout c a1 a2 a3=>?_;obtain⟨e,he⟩:=sortedAll_at _ its out;have e2:=Et a2 a3;subst e2;refine⟨.ref _,_,I.laid Qrh (mi _) (show dD _ X.w _ _ _ Qfn from⟨?_,_,e,qQ a1,?_⟩),rfl,q _ Qmz⟩
 .rw[cq,mS];simp_all
 omega
def qR:bootBuiltins "sorted" = some Qiw:=by decide +kernel
theorem AQ(h:av K CL Z QnY us):us=l.map V.int:=by
 refine av.ind (P:=λds us=>∀l,ds=l.map D.int->us=l.map V.int) ?_ ?_ h l rfl
 .simp_all
 .intro d v ds vs r _ i l e;cases l with
  | nil=>cases e
  | cons a l=>
   injection e with e1 e2;subst e1;rw[i l e2];cases r;rfl
theorem ints_rep{K:Frag}{Z:Hp}:∀(l:AT),av K CL Z QnY (l.map V.int)
 | []=>.nil
 | _::l=>.cons Qbu (ints_rep l)
def qS(hm:QiT)(h:Qs0)(hl:l.length<64)(j:Qjv)(hs:QaA:=by exact bz rfl):bR X CL b (.Call QmG [e] [] pos) U (.lst (((sortI l).map D.int).map T.sh)) δ1:=λH Z Y ts vs Q S k=>
 bY (qi Kq j hm qR QaY (he:=hs)) (h H Z Y ts vs _ S λv H1 Z1 d k1 n r=>by
  obtain⟨a,us,rfl,g,f⟩:=r.gR;have:=AQ f;subst this;refine⟨a,l,rfl,g,hl,λp i=>?_⟩;obtain⟨c,m⟩:=(aV.kU (ints_rep _) n).jU (g0:=[]) Wl i;exact k _ _ _ d Qcf m)
def RQ:typeLookup QqZ "__len__" = pure none:=by kernel_rfl
def abx:typeLookup QqZ "__length_hint__" = pure (some (.builtin "list_reverseiterator.__length_hint__")):=by kernel_rfl
variable{A:Qaq}
def aby{l:Addr}{i:Int}{Q:Qme}(e:s.heap.IsRevIter it l i)(h:Q false s):wpAny Qad A (Builtin.List.listLengthHint Qbq) Q E s:=by
 unfold Builtin.List.listLengthHint;refine cz (u3 e.typeIs RQ ?_);refine cz (u3 e.typeIs abx ?_);generalize c:("list_reverseiterator.__length_hint__":String)=d
 wp_delta
 rw[show splitId d=some ("list_reverseiterator","__length_hint__") from by subst c;decide +kernel];subst c;refine cz (wpAny_isInstance (T:="list_reverseiterator") (b:=true) e.typeIs (by rw[isSubtype_type];kernel_rfl) ?_);refine wpAny_ite_split (λa=>absurd a Wk) (λ_=>?_);refine wpAny_ite_split (λ_=>?_) (λa=>absurd Wf a);refine wpAny_ite_split (λa=>absurd a Wf) (λ_=>?_);exact hL h
variable{items:Ch}
theorem RT{l:Addr}(D:Qdl)(n:QkW)(hl:Qmv)(C:l≠it)(hlen:QiC)(S:Addr)(res:Value)(c₀:Nat)
  (y:s.heap.get? S=some {cls:=.type "list",data:=.seq #[] c₀}) (d:S≠it) (k:S≠l)
  (E:∀h' tk m g,(∀b o,b≠S->b≠it->s.heap.get? b=some o->h'.get? b=some o)->h'.get? S=some {cls:=.type "list",dict:=none,data:=.seq m g,slots:=#[]} →
   ItemsOf (λi v=>items[items.size-1-i]? = some v) m items.size->R (.ok (.ret res)) {s with heap:=h',toks:=tk}) :
  wpAny Qad A.in1 (Builtin.List.listExtendWith (.ref S) Qbq res)
   (λfin s'=>match fin with | .done f=>R (.ok f) s' | .again g=>g.quiet=true/\codeAny (model prog w) A g R s') (λe s'=>R (.error e) s') s:=by
 have W:=(Walks.listRev (prog:=prog) (w:=w) (A:=A.in1) D it l C items).toS;have u:S∉[it,l]:=λh=>by
  obtain e|h:=fF.1 h
  .exact d e
  .exact k (hU.1 h)
 have e0:(items.size:Int)-1=(items.size:Int)-1-((0:Nat):Int):=by lia
 have key:∀(h:Heap) (c₁ tk:Nat),(∀b o,b≠S->s.heap.get? b=some o->h.get? b=some o) →
   h.get? S=some {cls:=.type "list",data:=.seq #[] c₁}->codeAny Qad A (.builtin "list.extend.loop" ⟨[.ref S,.ref it,res],[]⟩) R {s with heap:=h,toks:=tk}:=by
  intro h c₁ tk r c;have hit:h.IsRevIter it l ((items.size:Int)-1-((0:Nat):Int)):=e0▸n.at λo q=>r it o (la d) q;have p:h.IsList l items:=hl.at λo q=>r l o (la k) q;refine codeAny_extend_loopS W hlen S u res items.size 0 _ #[] c₁ rfl (hY _) ⟨hY _,hit,p⟩ c (ItemsOf.nil _) λs' m g hm x J=>?_;rw[Moved.eq_with hm];refine E s'.heap s'.toks m g (λb o j t e=>hm.heap b o (λz=>?_) (r b o j e)) x J;obtain I|z:=fF.1 z
  .exact j I
  .exact t (hU.1 z)
 unfold Builtin.List.listExtendWith;refine cz (wpAny_typeOf (T:="list_reverseiterator") n.typeIs ?_);have h1:Builtin.List.listSameRef (.ref S) Qbq=false:=by simp[Builtin.List.listSameRef,d]
 have H:(Value.type "list_reverseiterator" == Value.type "list")=false:=by decide
 have G:(Value.type "list_reverseiterator" == Value.type "tuple")=false:=by decide
 simp only[h1,H,G,wb,nh,l6];refine cz (wpAny_pyIter_revIter n ?_);refine cz (rq (aby n ?_));refine wpAny_ite_split (λ_=>?_) (λ_=>hL ⟨plainId_quiet F.plain_extend_loop _,key _ c₀ _ (λb o _ e=>e) y⟩);refine cz (wpAny_rule ?_);refine cz ?_;show wpAny _ _ (updateSeq S (·.push .none) >>= λ_=>updateSeq S (·.pop)) _ _ _;refine cz (wpAny_updateSeq y rfl ?_);have B:=uj (Obj.mapSeq (·.push Value.none)) y rfl;refine wpAny_updateSeq (hz:=by seq_fits) B rfl ?_;have a:=uj (Obj.mapSeq (·.pop)) B rfl;refine hL ⟨plainId_quiet F.plain_extend_loop _,key _ _ _ (λb o j e=>?_) a⟩;exact(wq _ _ (la j)).trans ((wq _ _ (la j)).trans e)
def Hh{l:Addr}(t:Qdl)(p:QkW)(hl:Qmv)(n:l≠it)(hlen:QiC)(S:Addr)
  (m:s.heap.get? S=some {cls:=.type "list",data:=.seq #[]}) (d:S≠it) (c:S≠l)
  (u:∀h' tk g a,(∀b o,b≠S->b≠it->s.heap.get? b=some o->h'.get? b=some o)->h'.get? S=some {cls:=.type "list",dict:=none,data:=.seq g a,slots:=#[]} →
   ItemsOf (λi v=>items[items.size-1-i]? = some v) g items.size->R (.ok (.ret .none)) {s with heap:=h',toks:=tk}) :
  wpAny Qad A.in1 (Builtin.«list.__init__» ⟨[.ref S,.ref it],[]⟩)
   (λfin s'=>match fin with | .done f=>R (.ok f) s' | .again a=>a.quiet=true/\codeAny (model prog w) A a R s') (λe s'=>R (.error e) s') s:=by
 refine cz ?_;unfold Builtin.List.listItems;refine cz (wpAny_seqItems m rfl (hL ?_));refine cz (wpAny_updateSeq m rfl ?_);have x:=uj (Obj.mapSeq (λ_=>(#[]:Ch))) m rfl;have X5:∀b o,b≠S->s.heap.get? b=some o->(s.heap.update S (Obj.mapSeq (λ_=>(#[]:Ch)))).get? b=some o:=
  λb o h e=>(wq _ _ (la h)).trans e
 refine cz (wpAny_letGo ?_);refine RT t (p.at λo q=>X5 it o (la d) q) (hl.at λo q=>X5 l o (la c) q) n hlen S .none _ x d c λh' tk g a r k y=>?_;exact u h' tk g a (λb o h j e=>r b o h j (X5 b o h e)) k y
def Hi{Q:BN}{l:Addr}(p:Qdl)(h:QkW)(hl:Qmv)(k:l≠it)(hlen:QiC)
  (hQ:∀h' tk d g,(∀b o,b≠it->s.heap.get? b=some o->h'.get? b=some o) →
   h'.get? s.heap.objs.size=some {cls:=.type "list",dict:=none,data:=.seq d g,slots:=#[]}->ItemsOf (λi v=>items[items.size-1-i]? = some v) d items.size->Q QbT {s with heap:=h',toks:=tk}) :
  wpAny Qad A (call Qgp [.ref it]) Q E s:=by
 refine callType_codes (Q₁:=λobj a=>obj=.ref s.heap.objs.size/\a={s with heap:=s.heap.push _}) F.called_list (F.typeCall_list_1 _) F.entry_list_init
  (code_list_new _ ⟨rfl,rfl⟩) λobj a c=>?_
 obtain⟨rfl,rfl⟩:=c;have j:(s.heap.push _).get? s.heap.objs.size=some {cls:=.type "list",data:=.seq #[]}:=jj _ rfl;have hit:it<s.heap.objs.size:=by obtain⟨o,e,_⟩:=h;exact h9 e
 have m:l<s.heap.objs.size:=by obtain⟨o,e,_⟩:=hl;exact h9 e
 refine⟨⟨_,j,rfl⟩,F.args_list_init_2 _ _,Hh (A:=A.in1) p (h.at λo q=>ia _ q) (hl.at λo q=>ia _ q) k hlen _ j (Nat.ne_of_gt hit) (Nat.ne_of_gt m) λh' tk d g n f t=>?_⟩;exact⟨rfl,hQ h' tk d g (λb o r e=>n b o QgT r Qdf) f t⟩
theorem X6{acc:Ch}(h:ItemsOf (λi v=>items[items.size-1-i]? = some v) acc items.size):acc.toList=items.toList.reverse:=by
 obtain⟨h1,b⟩:=h;apply Hn;intro j;by_cases a:j<items.size
 .rw[List.getElem?_reverse (‹_›)];simp_all
 simp_all
theorem Vals.rev:∀{xs:B1} {us:B2},Vals xs us->Vals xs.reverse us.reverse
 | [],_,.nil=>.nil
 | _::_,_,.cons r a=>by
  rw[pd,pd];exact Vals.append (Vals.rev a) QnP
def tLR(K:Frag)(ta:TA):TE:=λY H Q=>ta Y H λvs H1=>∃a xs,vs=[.ref a]/\lQ K H1 a xs/\∀l,H1 l=none->Q Qfi (upd H1 l Qur)
def RV{x:Expr}{ta:TA}{p q:Pos}(B:QaU)(i:QfH)(F:QfG)(g:Qjd)(d:QiE)(C:PA X [x] ta)(hs:AC X x [])
  (t:starEach [.Call Qlp [x] [] pq] X.env=(false,eval QsM X.env)::starEach [] X.env):PE X (.Call (.Name "list" p) [.Call Qlp [x] [] pq] [] pos) (tLR X.K ta):=by
 intro pins s Y H Q I h;refine pf (mX I i F aW ?_ Wk Wk);refine tJ ?_ t rfl;rw[t];show wpAny _ _ (spliced ((false,eval QsM X.env)::backTo pos Qt4)) _ _ s;refine Calls.spliced_cons ?_;refine Call_ (mX I g d boot_reversed (tJ (dF (C pq pins s Y H _ I h) λus s1 zz=>?_) hs rfl));obtain⟨vs,H1,a,y,q1⟩:=zz;obtain⟨l,xs,e,z,q⟩:=q1;subst e;cases y with
 | cons r v=>
  cases v;cases r;obtain⟨its,m,p,hz⟩:=a.list z;have f:=m.length;refine PySem.call_reversed_list p.isList ?_;refine Calls.spliced_nil ?_;have D:l<s1.heap.objs.size:=by obtain⟨o,e,_⟩:=p.isList;exact h9 e
  have st:PySem.Heap.IsRevIter (s1.heap.push Qhw) s1.heap.objs.size l ((its.toArray.size:Int)-1):=⟨_,jj _ rfl,rfl,rfl⟩;refine Hi (s:={s1 with heap:=s1.heap.push Qhw}) (a.ok.hd B) st (p.isList.at λo q=>ia _ q) (i2 D) (by rw[nq,<- f];exact hz) λh' tk c n A k G=>?_;have hsz:(s1.heap.push Qhw).objs.size=s1.heap.objs.size+1:=y1 ..;have j:h'.get? Qtm=some {cls:=.type "list",dict:=none,data:=.seq c n,slots:=#[]}:=hsz▸k;have E:c.toList=its.reverse:=by simpa using X6 G
  show EP X pins Y Q (.ref (s1.heap.push Qhw).objs.size) _;rw[hsz];refine⟨.ref Qtm,_,a.laid (t':=tk) (λb u e=>A b u QgT Qdf) (mi _) (show dD X.prog X.w _ _ _ Qur from⟨by rw[rp];exact hz,its.reverse,n,Vals.rev m,?_⟩),rfl,q _ QtK⟩;have e2:c=its.reverse.toArray:=by rw[<- E]
  rw[<- e2];exact j
variable{ds:BB}
def Eu(g:Gx X)(q:QfG)(a:QiE)(h:Qds)(hi:Qdt)(f:QfH)(d:Qjd)(hs:QaA:=by exact bz rfl)
  (p:starEach [.Call Qmf [e] [] pr] X.env=(false,eval (.Call Qmf [e] [] pr) X.env)::starEach [] X.env:=by exact bz rfl):bR X CL b (.Call (.Name "list" pp) [.Call Qmf [e] [] pr] [] pos) U (.lst (ds.reverse.map T.sh)) δ1:=λH Z Y ts vs Q S k=>
 bY (RV g.calm f q d a QaY hs p) (h H Z Y ts vs _ S λv H1 Z1 m k1 j r=>by
  obtain⟨_,_,rfl,n,i⟩:=r.gR;refine⟨_,_,rfl,n,λl hl=>?_⟩;obtain⟨c,o⟩:=(aV.kU (av.rev (av.jS j.tp hi i)) j).jU (g0:=[]) (by simp[i.length]) hl;exact k _ _ _ m Qcf o)
theorem jW{β:Type}{f:α->β}{l:Q8}{d:β}(h:(l.map f)[j]? = some d):∃x,d=f x/\l[j]? = some x/\x∈l/\j<l.length/\l.drop j=x::l.drop QR/\l.take QR=l.take j++[x]:=by
 rw[ib]at h;cases a:l[j]? with
 | none=>rw[a]at h;cases h
 | some x=>
  rw[a]at h;cases h;have b:=(ko.1 a).1;have e:=(ko.1 a).2;exact⟨x,rfl,rfl,i0 a,b,by rw[wt b,e],by rw[rk,a];rfl⟩
noncomputable def D.N6:L3.D->L3.D
 | .tup (a::_)=>a
 | d=>d
noncomputable def D.at2:L3.D->L3.D
 | .tup (_::a::_)=>a
 | d=>d
def X7(f:α->L3.D)(z:α)(l:Q8):Es Qdb=(List.range l.length).map λ(i:Nat)=>L3.D.tup [.int i,f Qoq]:=by
 unfold Es;rw[cq];apply ow;intro i hi;have hi:=lx.1 hi;have:(l.map f).getD i .non=f Qoq:=by
  rw[i4,i4,ib,iB hi];rfl
 rw[this]
def N7{f:α->L3.D}{l:Q8}(z:α)(hm:QmF)(h:bR X CL b e U (.sh (.lst Qdb)) δ1)(a:Qnr)(hs:QaA:=by exact bz rfl) :
  r2 X CL b QiF Qql U ((List.range l.length).map λ(i:Nat)=>L3.D.tup [.int i,f Qoq]) δ1:=by
 have:=af3 (elts:=elts) (kk:=kk) (pt:=pt) (pr:=pr) (pc:=pc) hm h a hs
 rwa [X7 f z l]at this
theorem Cp:∀(l r:AT),PyData.eqvAll (D.gT (l.map L3.D.int)) (D.gT (r.map L3.D.int))=decide (l=r)
 | [],[]=>rfl
 | [],_::_=>rfl
 | _::_,[]=>rfl
 | x::l,y::r=>by
  rw[ik,ik,D.gT,D.gT,PyData.eqvAll,Cp l r,D.toPy,D.toPy,PyData.eqv];by_cases e:x=y
  .subst e;simp
  simp_all
def N8(l r:AT):tM QiW (.lst (r.map .int))=decide (l=r):=by
 unfold tM;rw[D.toPy,D.toPy,PyData.eqv,Cp]
variable{ds:BB}
def apg(K:Frag):R2:=λx y H Q=>∃l k xs,x=.ref l/\y=.int k/\lQ K H l xs /\ -(2 ^ 63)<=k/\k<2 ^ 63/\xs.length*k.toNat<=sizeLine ∧
 ∀p,H p=none->Q Qbl (upd H p (.lst (List.replicate k.toNat xs).flatten))
theorem af4:yS X QuS (apg X.K):=by
 intro pins s Y H x y v u Q I j i h;obtain⟨l,k,xs,rfl,rfl,p,h1,w,hz,q⟩:=h;cases j;obtain⟨t,rfl⟩:=i;obtain⟨its,r,pl,_⟩:=I.list p;have hl:=r.length;obtain⟨⟨C,dd,z,sl⟩,e,o,n,hd⟩:=pl.isList;cases o;cases hd;have hlen:its.toArray.size*k.toNat<=sizeLine:=by simp_all
 have c:¬ its.toArray.size*k.toNat > (2 ^ 63-1) / 8:=by
  have:(sizeLine:Nat)<=(2 ^ 63-1) / 8:=by decide
  lia
 have b:¬ (!Builtin.List.listFitsIndex k)=true:=by
  rw[fitsIndex_both h1 w];grind
 have A:¬ Builtin.List.listTooLong (its.toArray.size*k.toNat)=true:=by
  rw[D7 hlen];grind
 have d:List.foldl (λg f=>g++f) #[] (List.replicate (if its.toArray.isEmpty=true then 0 else k.toNat) its.toArray)=(List.replicate k.toNat its).flatten.toArray:=by
  have f0:=λm=>by
   have:=foldl_rep its m [];rw[rr]at this;exact this
  rw[f0];cases its with
  | nil=>simp
  | cons a B=>rw[bS Wl]
 refine wpAny_binaryOp_repeat_ref (T:="list") (U:="int") Wk ⟨_,e,rfl⟩ (λs'=>typeIs_int s' k t) noFill_list_mul F.fills_int_mul F.slot_int_rmul repeat_list F.slot_int_index.lookup
  (rg F.slot_int_rmul (typeIs_int s k t) F.entry_int_rmul (F.args_int_rmul_2 _ _) (lm_int_rmul_list_any k t l its.toArray n dd sl)
   ⟨e,rfl,⟨_,e,rfl⟩,rg F.slot_list_mul ⟨_,e,rfl⟩ F.entry_list_mul (F.args_list_mul_2 _ _) (lm_list_mul_any l its.toArray n dd sl k t b c A) ⟨e,?_⟩⟩)
 rw[d];exact⟨.ref _,_,I.Lm (r.rep k.toNat) (by rw[len_rep,Nat.mul_comm];exact hz),rfl,q _ I.fresh⟩
theorem av.rep{K:Frag}{Z:Hp}{ds:BB}{vs:B1}(r:QfE):∀k:Nat,av K CL Z (List.replicate k ds).flatten (List.replicate k vs).flatten
 | 0=>.nil
 | k+1=>av.app r (av.rep r k)
theorem af6{k:Int}(h1:Ql1)(m:QfF)(i1:Qdt)(k1:-(2 ^ 63)<=k)(k2:k<2 ^ 63)(hz:ds.length*k.toNat<=sizeLine) :
  bR X CL b Qss U (.lst ((List.replicate k.toNat ds).flatten.map T.sh)) U2:=λH Z Y ts vs Q S kk=>
 bY (DX af4 cA cA) (h1 H Z Y ts vs _ S λv1 H1 Z1 h q1 o j=>m H1 Z1 Y ts vs _ o λv2 H2 Z2 g d e i=>by
  have a:=j.mono d;obtain⟨_,_,rfl,q,f⟩:=a.gR;cases i with
  | int=>
   refine⟨_,_,_,rfl,rfl,q,k1,k2,f.length▸hz,λp l=>?_⟩;have rc:=av.rep (av.jS e.tp i1 f) k.toNat;obtain⟨c,n⟩:=(aV.kU rc e).jU (g0:=[]) (by rw[cq,rc.length]) l;exact kk _ _ _ QdZ (q1.trans Qox) n)
theorem av.PM{K:Frag}{Z:Hp}:∀l:At,av K CL Z (l.map .str) QnX
 | []=>.nil
 | x::l=>.cons Qa4 (av.PM l)
end L3
namespace L3
open PySem PySem.Spec PyProof.Rows L2 PySem.Builtin PySem.Builtin.Str
variable{X:Cx}{CL:BM}{b:Bx}{e o:Expr}{U δ1 U2:BA}{pos apos:Pos}
theorem Vals.strsFrom:∀(k:Nat) (l:At),Vals QnX (strsFrom k l)
 | _,[]=>.nil
 | k,x::l=>.cons ⟨_,rfl⟩ (Vals.strsFrom Qao l)
noncomputable def Kr(x y:Str):Bool:=!(y.length==0) && !(decide (x.length<y.length) || decide (strKind x<strKind y)) && !(occurrences x y 0 x.length (x.length+1)).isEmpty
noncomputable def splitM(x y:Str):At:=partsBetween x (occurrences x y 0 x.length (x.length+1)) y.length
def alp:V->B1->Hp->VK->Prop:=λx vs H Q=>∃z y,x=.str z/\vs=[.str y]/\Kr z y=true/\z.length<=sizeLine/\(splitM z y).length<=sizeLine/\∀p,H p=none->Q Qbl (upd H p (.lst ((splitM z y).map V.str)))
def abA:IH X "str.split" alp:=by
 intro pins s Y H x vs v us Q I b c h;obtain⟨z,y,rfl,rfl,ck,hz,a,q⟩:=h;obtain⟨t,rfl⟩:=b;obtain⟨u,rfl,d⟩:=c.one;obtain⟨t',rfl⟩:=d;unfold Kr at ck;simp only[kx,u6]at ck;obtain⟨⟨h1,f⟩,e⟩:=ck;refine rg F.slot_str_split (typeIs_str _ _ _) F.entry_str_split (F.args_str_split_2 _ _) (meets_str_split_sep z y t t' f h1 e hz a) ?_;exact⟨.ref _,_,I.Lm (its:=strsFrom s.toks (splitM z y)) (Vals.strsFrom _ _) (by rw[cq];exact a),rfl,q _ I.fresh⟩
def abB{z y:Str}{l:At}(h1:cL X CL b o U (.str z) δ1)(n:cL X CL b e δ1 (.str y) U2)(ck:Kr z y=true)(hz:z.length<=sizeLine)(hl:splitM z y=l)(m:l.length<=sizeLine)
  (q:attributeBase o "split" X.env QnL=eval o X.env:=by rfl)
  (h:AB X pos e:=by rfl)
  (a:QrV:=by rfl) (hs:QaA:=by exact bz rfl) :
  bR X CL b (.Call (.Attribute o "split" apos) [e] [] pos) U (.lst ((l.map L3.D.str).map T.sh)) U2:=λH Z Y ts vs Q S k=>
 bY (IG PySem.F.plainAttrs_str PySem.F.slot_str_split PySem.F.type_str_split abA cA QaY q h a hs rfl)
  (h1 H Z Y ts vs _ S λv1 H1 Z1 g k1 t j=>by
   have e1:=j.sc rfl;subst e1;refine⟨rfl,n H1 Z1 Y ts vs _ t λv2 H2 Z2 f k2 s i=>?_⟩;have e2:=i.sc rfl;subst e2;subst hl;refine⟨z,y,rfl,rfl,ck,hz,m,λp d=>?_⟩;have rc:av X.K CL Z2 ((splitM z y).map L3.D.str) ((splitM z y).map V.str):=av.PM _;obtain⟨c,r⟩:=(aV.kU rc s).jU (g0:=[]) Wl d;exact k _ _ _ QgU Qf7 r)
end L3
namespace L3
open PySem PySem.Spec PyProof.Rows L2
variable{X:Cx}{CL:BM}{b:Bx}{U:BA}{pos pp:Pos}{x:Str}{k n:Nat}{A:Type}
def c0{arg:Qap}{Pre:Qae}{res:QaV}(a:A)(F:Qf4)(i:Qaz)(l:arg a=[])(h:Pre a)(j:Qnd)(hn:QcO:=by rfl)
  (g:AD x:=by decide):bR X CL b (.Call QaO [] [] pos) U QbN U:=by
 obtain⟨f,fd,ps,r,m,kk,o⟩:=F.ex;intro H Z Y ts vs Q S k;refine bY (aaG r F.room i m kk o .nil D9 g) ?_;refine⟨H,a,.refl _,λ_ _ q _=>q,by rw[l];exact .nil,hn,h,S.N1,λv H' W' fp c ww e nw tp rt nd own=>?_⟩;obtain⟨Z',d,p⟩:=S.back c S.zh ww e nw tp rt nd own (.inr j);exact k v H' Z' d c p
noncomputable def AU:Key->D
 | .inl i=>.int i
 | .inr x=>.str x
noncomputable def xA(kvs:CS)(k:Key):Option D:=(kvs.find? λa=>decide Qhi).map (·.2)
noncomputable def wB(kvs:CS)(k:Key)(d:D):CS:=
 if QfR=true then kvs.map QpM else kvs++[(k,d)]
variable{K:Frag}{H Z:Hp}{Y:L2.St}{ts:Bn}{vs:B1}{v:V}{gs:CO}{d:D}{kvs:CS}
theorem bP.length{kvs:CS}(h:Qgx):kvs.length=gs.length:=
 bP.ind (P:=λkvs gs=>kvs.length=gs.length) rfl QhZ h
theorem bP.keys{kvs:CS}(h:Qgx):kvs.map (·.1)=gs.map (·.1):=
 bP.ind (P:=λkvs gs=>kvs.map _=gs.map _) rfl (λ{x _ _ _ _} _ _ i=>congrArg _ i) h
theorem bP.val{k:Key}:∀{kvs:CS} {gs:CO},bP K CL Z kvs gs->(xA kvs k=none/\jc gs k=none)\/∃d v,xA kvs k=some d/\jc gs k=some v/\bC K CL Z d v
 | _,_,.nil=>.inl ⟨rfl,rfl⟩
 | _,_,.cons (x:=x) (d:=d) (v:=v) h r=>by
  by_cases e:x=k
  .exact .inr ⟨d,v,by simp[xA,e],mY e,h⟩
  .obtain⟨h1,a⟩|⟨d',v',h1,a,b⟩:=bP.val r
   .exact .inl ⟨by simpa [xA,e] using h1,by rw[kT e];exact a⟩
   .exact .inr ⟨d',v',by simpa [xA,e] using h1,by rw[kT e];exact a,b⟩
theorem bP.any{k:Key}:∀{kvs:CS} {gs:CO},bP K CL Z kvs gs->QfR=(gs.any λa=>decide Qhi)
 | _,_,.nil=>rfl
 | _,_,.cons _ r=>by rw[my,my,bP.any r]
theorem bP.l4{k:Key}(q:QcN):∀{kvs:CS} {gs:CO},bP K CL Z kvs gs->bP K CL Z (kvs.map QpM) (gs.map QpL)
 | _,_,.nil=>.nil
 | _,_,.cons (x:=x) h r=>by
  rw[ik,ik];by_cases e:x=k
  .rw[ec e,ec e];exact .cons q (bP.l4 q r)
  .rw[bS e,bS e];exact .cons h (bP.l4 q r)
theorem bP.snoc{k:Key}(q:QcN):∀{kvs:CS} {gs:CO},bP K CL Z kvs gs->bP K CL Z (kvs++[(k,d)]) Qor
 | _,_,.nil=>.cons q .nil
 | _,_,.cons h r=>.cons h (bP.snoc q r)
theorem bP.put{k:Key}(q:QcN)(r:Qgx):bP K CL Z (wB kvs k d) QmV:=by
 unfold wB putK;rw[r.any];split
 .exact r.l4 q
 .exact r.snoc q
theorem bC.key{k:Key}(r:bC K CL Z (AU k) v):v=kV k:=by
 cases k with
 | inl i=>exact r.sc rfl
 | inr x=>exact r.sc rfl
theorem af7(k:Key):bC K CL Z (AU k) (kV k):=by
 cases k with
 | inl i=>exact .int i
 | inr x=>exact .str x
theorem zm{Z:Hp}:∀ks:CI,av K CL Z Qoy QmB
 | []=>.nil
 | k::ks=>.cons (af7 k) (zm ks)
theorem aV.alq{p:Addr}(S:Qar)(d:Qdq):ay H QiK/\aV K CL b QiK Z U Y (.iC []::ts) Qe6:=by
 obtain⟨fp,gp,e,r,nd,k⟩:=S.rep;have f:=S.zh.free d;have sh:ay H QiK:=ay.upd d;have keep:∀a∈fp++gp,a≠p:=λa c=>by
  have:∃o,H a=some o:=by
   obtain h|h:=hG.1 c
   .exact e.there a h
   .exact r.there a h
  obtain⟨o,q⟩:=this;exact aJ q d
 refine⟨sh,⟨⟨fp,_,e.mono QA Qep,.cons (.iC aA .nil) (r.mono QA λa c=>aq (keep a (by simp[c]))),?_,λa c=>?_⟩,S.bh.trans sh,S.zz,S.zh.trans sh,S.new,λa o q i=>?_,S.tab⟩⟩
 .refine(pw).nodup_iff.2 QhE
 .obtain h|h:=fF.1 ((pw).mem_iff.1 c)
  .subst h;exact⟨f,S.bh.free d⟩
  .exact k a h
 .by_cases c:a=p
  .subst c;rw[aA]at q;cases q;cases i
  .rw[aq c]at q;exact S.tp a o q i
variable{i:Nat}
theorem aV.alr(k:Key)(S:Qrc)(hi:U[i]? = some (some Qc7)) :
  ∃a gs,Y[i]? = some Qof/\H a=some (.dK gs)/\gs.length=kvs.length/\aV K CL b Qvk Z (U.set i Qsb) Y ts vs:=by
 obtain⟨fp,gp,e,r,nd,kk⟩:=S.rep;obtain⟨v0,f1,f2,j,hv,l,rt,put,_⟩:=e.get hi;subst l;cases rt with
 | @iC a gs _ p rs=>
  cases r with
  | @cons _ _ _ _ q g q1 n=>
   replace q1:=q1.GX;obtain⟨rfl,q1⟩:=q1;have ne:∀c∈(f1++j)++g,c≠a:=λc f e=>by
    subst e;have o:((f1++([c]++j))++([]++g)).Perm (c::((f1++j)++g)):=by simp
    exact(kn.1 (o.nodup_iff.1 nd)).1 f
   refine⟨a,gs,hv,p,rs.length.symm,?_⟩;have m:bw K CL Qvk Z _ _ [a]:=.iC aA (rs.put q1);have e2:=put QA (λc f=>aq (ne c (by
    obtain h|h:=hG.1 f
    .simp[h]
    .simp[h]))) m
   rw[iI hv]at e2;exact S.YA rfl kk Wl e2 (n.mono QA λc f=>aq (ne c (by simp[f]))) nd λc f=>f
def Ew(B:QaU):tE X Qgp (λxs H Q=>∃p kvs,xs=[.ref p]/\H p=some Qbt/\∀l,H l=none->Q Qfi (upd H l (.lst ((kvs.map (·.1)).map kV)))):=by
 intro pins s Y H xs us Q I r h;obtain⟨p,kvs,rfl,v,q⟩:=h;obtain⟨u,rfl,n⟩:=vals1 r;cases n;obtain⟨z,hd,ws,rel,dd⟩:=RE I.ck v;obtain⟨ep,D⟩:=dd.dictAt;refine PySem.W.kdl_call (PySem.W.kdl_dict (knd:=ez X.prog X.w) (kvs:=ws) (ep:=ep) hd) (I.ok.hd B) D (by rw[<- rel.length];exact z) λh' tk a C A e f=>?_;have hl:a.toList.length=ws.length:=by rw[HA];exact f.1
 have hv:Vals ((kvs.map (·.1)).map kV) a.toList:=by
  rw[rel.keys];have gen:∀(l:QtX) (m:B2),m.length=l.length->(∀(j:Nat) (x:Value),m[j]? = some x->∃k y,l[j]? = some (k,y)/\(ez X.prog X.w).is k x=true)->Vals ((l.map (·.1)).map kV) m:=by
   intro l
   induction l with
   | nil=>intro m hm _;cases m with
    | nil=>exact .nil
    | cons _ _=>simp at hm
   | cons p l o=>
    intro m hm d;cases m with
    | nil=>simp at hm
    | cons x m=>
     obtain⟨k,y,e1,e2⟩:=d 0 x rfl;simp at e1;subst e1;refine .cons ?_ (o m (by simpa using hm) λj g b=>by simpa using d QR g (by simpa using b));obtain⟨i,t,h1,c⟩|⟨i,t,h1,c⟩:=eK e2
     .subst h1 c;exact⟨t,rfl⟩
     .subst h1 c;exact⟨t,rfl⟩
  exact gen ws a.toList hl λj x b=>f.2 j x (by rw[<- Array.getElem?_toList];exact b)
 refine⟨.ref s.heap.objs.size,_,I.laid (t':=tk) A (Nat.le_refl _) (show dD X.prog X.w _ h' _ (.lst ((kvs.map (·.1)).map kV)) from⟨by simpa using z,a.toList,C,hv,by simpa using e⟩),rfl,q _ (I.ck.fresh (Nat.le_refl _))⟩
section
variable{δ1 U2:BA}{e e1 e2:Expr}{d:L3.D}{D:cY}{ps:Pos}{dO:CA}{kvs:QmW}{k:Key}
def Ks:bR X CL b QeI U (.iC []) U:=λH Z Y ts vs Q S kk=>bY aaW λp a=>by
 obtain⟨c,d⟩:=S.alq a;exact kk _ _ Z QA c d
theorem RW(k:Key)(s:QaQ)(n:QaW)(h:Qh6)(p:cL X CL b e2 δ1 (AU k) δ1)(h1:δ1[i]? = some (some Qc7))(hl:kvs.length<=1000000)(kk:cG X CL b dO (δ1.set i Qsb) D)
  (hs:swapsWith e (some (.Subscript QaO e2 ps)) pos.line X.env=pure false:=by rfl) :
  cG X CL b (.Assign [.Subscript QaO e2 ps] e pos::dO) U D:=bK λH Z Y ts vs E S M=>
 mZ (Vp We Qet cA cA hs) (h H Z Y ts vs _ S λv H1 Z1 j k1 f=>by
  obtain⟨v0,e0,_⟩:=f.look h1;refine⟨v0,e0,p H1 Z1 Y _ _ _ f λv2 H2 Z2 g k2 r l=>?_⟩;obtain⟨a,gs,c,o,m,q⟩:=r.alr k h1;rw[e0]at c;cases c;exact⟨a,_,rfl,l.key▸NW.k o (by rw[m];exact nk hl Wk),M.nx _ Y _ Z2 (j.trans g) q kk⟩)
def af8(k:Key)(p:QaQ)(h1:cL X CL b e1 U Qc7 δ1)(m:cL X CL b e2 δ1 (AU k) U2)(e:xA kvs k=some d)(hs:G7 e2:=by exactλ_ _=>rfl):cL X CL b QbU U d U2:=λH Z Y ts vs Q S kk=>
 bY QnQ (h1 H Z Y ts vs _ S λv H1 Z1 g k1 o j=>m H1 Z1 Y ts vs _ o λv2 H2 Z2 f k2 n i=>by
  cases j with
  | @iC a gs _ l h=>
   have c:=h.mono k2;rcases c.val (k:=k) with⟨h0,_⟩|⟨d',v',h0,hv,rd⟩
   .rw[e]at h0;cases h0
   .rw[e]at h0;cases h0;refine⟨a,v',rfl,?_,kk v' H2 Z2 QgU Qaf n rd⟩;rw[i.key,<- hv];exact vX.k (k2 _ _ l))
def Oa(a:Qgx):(jc gs k).isSome=(xA kvs k).isSome:=by
 rcases a.val (k:=k) with⟨h0,h1⟩|⟨d',v',h0,h1,_⟩
 .rw[h0,h1];rfl
 .rw[h0,h1];rfl
theorem Ku(k:Key)(m:QaQ)(h1:QsN)(i:Qsy)(hm:QlX) :
  sN X CL b QhU U (xA kvs k).isSome U2:=λH Z Y ts vs Q S kk=>
 y9 (DT (akP We cA cA) hm) (h1 H Z Y ts vs _ S λv H1 Z1 d k1 l g=>i H1 Z1 Y ts vs _ l λv2 H2 Z2 c k2 j f=>by
  cases f with
  | @iC a gs _ h e=>
   refine⟨a,jc gs k,rfl,by rw[g.key];exact vX.k h,_,rfl,?_⟩;rw[Oa e];exact kk H2 Z2 Qox Qaf j)
theorem af9(k:Key)(m:QaQ)(h1:QsN)(i:Qsy)(hm:QhV) :
  sN X CL b Qeq U (!(xA kvs k).isSome) U2:=λH Z Y ts vs Q S kk=>
 y9 (DT (XI We cA cA) hm) (h1 H Z Y ts vs _ S λv H1 Z1 d k1 l g=>i H1 Z1 Y ts vs _ l λv2 H2 Z2 c k2 j f=>by
  cases f with
  | @iC a gs _ h e=>
   refine⟨a,jc gs k,rfl,by rw[g.key];exact vX.k h,_,rfl,?_⟩;rw[Oa e];exact kk H2 Z2 Qox Qaf j)
def abC(g:Gx X)(hm:QfG)(h:cL X CL b e U Qc7 δ1)(i:QfH)(hs:QaA:=by exact bz rfl):bR X CL b Qk6 U (.lst (((kvs.map (·.1)).map AU).map T.sh)) δ1:=λH Z Y ts vs Q S k=>
 bY (mP (Ew g.calm) i hm aW QaY (he:=hs)) (h H Z Y ts vs _ S λv H1 Z1 d k1 n r=>by
  cases r with
  | @iC a gs _ j f=>
   refine⟨a,gs,rfl,j,λl hl=>?_⟩;rw[<- f.keys];obtain⟨c,m⟩:=(aV.kU (zm _) n).jU (g0:=[]) Wl hl;exact k _ _ _ d Qcf m)
end
variable{t:T}{w:V}{f c:Str}{fs2:BS}
theorem cJ.Fs{c:BY}(rt:bw K CL H Z t v c):∀{b:BS} {gs:Bz} {fp:BY},cJ K CL H Z (b++(f,.sh Qfl)::fs2) gs fp->∃a,cJ K CL H Z (b++(f,t)::fs2) gs a/\a.Perm (fp++c)
 | [],_,_,r=>by
  cases r with
  | @cons _ _ v' _ _ f1 gp h r=>
   replace h:=h.GX;obtain⟨rfl,h⟩:=h;cases h;exact⟨ _,.cons rt r,l8⟩
 | (y,u)::b,_,_,r=>by
  cases r with
  | @cons _ _ v' _ _ f1 gp h r=>
   obtain⟨a,d,p⟩:=cJ.Fs rt r;refine⟨ _,.cons h d,?_⟩;rw[h5];exact p.append_left f1
theorem aV.Fs{j:BS}(S:aV K CL b H Z U Y (.ins c (j++(f,.sh Qfl)::fs2)::t::ts) (w::v::vs)):aV K CL b H Z U Y (.ins c (j++(f,t)::fs2)::ts) (w::vs):=by
 obtain⟨fp,gp,e,r,nd,k⟩:=S.rep;cases r with
 | @cons _ _ _ _ g1 g2 q o=>
  cases o with
  | @cons _ _ _ _ g3 g n m=>
   obtain⟨a,dx,gs,h,rfl,rfl,u,l⟩:=q.Eb;obtain⟨i,d,p⟩:=cJ.Fs n l;have pm:(fp++((a::i)++g)).Perm (fp++((a::h)++(g3++g))):=by
    refine o9 fp ?_;rw[<- h5];refine List.Perm.append_right g ?_;simp_all
   exact⟨⟨fp,_,e,.cons (.ins u d) m,pm.nodup_iff.2 nd,λc s=>k c (pm.mem_iff.1 s)⟩,S.bh,S.zz,S.zh,S.new,S.tp,S.tab⟩
def IF(X:Cx)(CL:BM)(b:Bx)(es:Cl)(U:BA)(dv:V->BB)(t:T)(U':BA):Prop:=
 ∀(H Z:Hp) (Y:L2.St) (ts:Bn) (vs:B1) (Q:EO),aV X.K CL b H Z U Y ts vs →
  (∀us H' Z' v,ay Z Z'->ay H H'->aV X.K CL b H' Z' U' Y Qb4 QaT->av X.K CL H' (dv v) us->Q us H')->G8 X es Y H Q
theorem T.Ex{f:Str}{v:V}{fs2:BS}(b:T.cR fs2=true):∀{a:BS},T.cR a=true->T.cR (a++(f,.sh Qfl)::fs2)=true
 | [],_=>‹_›
 | (x,t)::a,h=>by
  rw[T.cR,kx]at h;rw[l7,T.cR,h.1,T.Ex b h.2];rfl
variable{δ1 U2:BA}{e:Expr}{es:Cl}{ds:BB}{d:D}{dv:V->BB}
def abE(h:QaP)(r:QtG)(hs:Qoo:=by rfl):IF X CL b Qav U (λv=>.val v::ds) t U2:=λH Z Y ts vs Q S k=>
 RD Qus (h H Z Y ts vs _ S λv H1 Z1 c k1 g=>r H1 Z1 Y _ _ _ g λus H2 Z2 a k2 f d=>k _ H2 Z2 v QcE Qaf f (.cons Qfl d))
def Ob(h:Qdr)(r:IF X CL b es δ1 dv t U2)(hs:Qoo:=by rfl):IF X CL b Qav U (λv=>d::dv v) t U2:=λH Z Y ts vs Q S k=>
 RD Qus (h H Z Y ts vs _ S λv H1 Z1 c k1 j g=>r H1 Z1 Y ts vs _ j λus H2 Z2 v2 a k2 i f=>k _ H2 Z2 v2 QcE Qaf i Qti)
variable{arg:Qap}{Pre:Qae}
theorem mkP{res:Qdu}(a:V->A){d:BS}(F:QlV)(z:Qaz)(h:IF X CL b Qav U dv t δ1)(G:∀v,arg (a v)=dv v)(w:∀v,Pre (a v))(i:∀v,res (a v)=d++(f,.sh Qfl)::fs2)(B:T.cR d=true)(E:T.cR fs2=true)(hn:∀v,(arg (a v)).length+1=n:=by exactλ_=>rfl)
  (s:AD x:=by decide) (he:Qaw:=by exact bz rfl) (hpl:QaK:=by rfl) :
  bR X CL b QbW U (.ins x (d++(f,t)::fs2)) δ1:=λH Z Y ts vs Q S kk=>by
 obtain⟨I,fd,ps,M,D,hm,C⟩:=F.ex;exact bY (JT M D F.room z hm C .nil D9 J6 s he hpl) (h H Z Y ts vs _ S λus H1 Z1 v m k1 g r y dx u c ne=>by
  rw[hX];refine⟨H1,H1,a v,y,dx,us,rfl,u,c,ne,rfl,.refl _,λ_ _ q _=>q,Wp,hn v,w v,g.N1,λH' W' fp j ww p nw tp rt nd own=>⟨rfl,?_⟩⟩;obtain⟨Z',o,l⟩:=g.back j g.zh ww p nw tp rt nd own (.inr (by rw[i];exact T.Ex E B));rw[i]at l;exact kk _ H' Z' (m.trans o) (k1.trans j) l.Fs)
theorem Kv(bs:Qhn):(List.range bs.length).any (λi=>bs.getD i true)=bs.any id:=by
 induction bs with
 | nil=>rfl
 | cons x bs a=>
  rw[kq,List.range_succ_eq_map,my,List.any_map];have:((λi=>(x::bs).getD i true)∘Nat.succ)=λi=>bs.getD i true:=rfl;rw[this,a];rfl
def abF{bs:Qhn}{its:B2}(r:Vals (bs.map V.bl) its){v:Value}(h:its.toArray[i]? = some v):v=.bool (bs.getD i true):=by
 have h':=by simpa using h
 have hl:=r.length;have hi:=hl▸(ko.1 h').1;obtain⟨u,c,b⟩:=r.get (iB hi);rw[h']at c;cases c;have a:=by simpa using hi
 have e:bs.getD i true=bs[i]:=by simp[a]
 rw[e];rw[List.getElem_map]at b;exact b
def X8(j:QaU):tE X Qut (λxs H Q=>∃(p:Addr) (bs:Qhn),xs=[.ref p]/\lQ X.K H p (bs.map V.bl)/\Q (.bl (bs.any id)) H):=by
 intro pins s Y H xs us Q I r h;obtain⟨p,bs,rfl,f,q⟩:=h;obtain⟨u,rfl,c⟩:=vals1 r;cases c;obtain⟨its,a,pl,hz⟩:=I.list f;have hl:=pl.isList;have d:p<s.heap.objs.size:=by obtain⟨o,e,_⟩:=id hl;exact h9 e
 have hlen:its.toArray.size=bs.length:=by rw[nq,<- a.length,cq]
 refine call_any_walk (wpAny_pyIter_list hl ⟨_,_,_,_,_,_,λi=>bs.getD i true,rfl,Walks.list (A:=X.A.in1) (I.ok.hd j) _ p (i2 d) _,⟨⟨_,jj _ rfl,rfl,rfl⟩,hl.at λo e=>ia _ e⟩,λi v s Q E k hQ=>?_,λh' tk g=>?_⟩)
 .rw[abF a k];exact w1 hQ
 .rw[hlen,Kv];refine⟨.bl _,H,I.kept (λb o e=>g b o (λz=>?_) Qdf),rfl,q⟩;have:=hU.1 z;subst this;exact absurd (h9 e) (u7 _)
def X9:bootBuiltins "any" = some Qut:=by decide +kernel
theorem Oc{K:Frag}{CL:BM}{H:Hp}:∀{l:Qhn} {us:B1},av K CL H (l.map D.bl) us->us=l.map V.bl
 | [],_,r=>by
  have a:=r;cases a;rfl
 | y::l,_,r=>by
  have a:=r;cases a with
  | cons c b=>rw[c.sc rfl,Oc b];rfl
variable{l:Qhn}
def als(g:Gx X)(hm:X.mg "any" = none)(h:cL X CL b e U (.lst (l.map .bl)) δ1)(i:Gl X "any")(hs:QaA:=by exact bz rfl):bR X CL b (.Call (.Name "any" pp) [e] [] pos) U (.sh (.bl (l.any id))) δ1:=λH Z Y ts vs Q S k=>
 bY (qi (X8 g.calm) i hm X9 QaY (he:=hs)) (h H Z Y ts vs _ S λv H1 Z1 c k1 j r=>by
  obtain⟨a,us,rfl,f,d⟩:=r.gR;have:=Oc d;subst this;exact⟨a,l,rfl,f,k _ H1 Z1 c k1 (j.push Qd6)⟩)
namespace Rv
def Yb:PySem.Slot "reversed" "__init__" "object.__init__":=
 .of (owner:="object") (n:="__init__") (by rw[typeLookup_type,builtinLookup_eq_fast];kernel_rfl) Wf Wf Wf
  (by first|exact .inl Wf|exact .inr Wf) (by rw[isSubtype_type];kernel_rfl)
noncomputable def called:TypeCalled "reversed" "reversed.__new__" "object.__init__":=
 ⟨Wf,Wf,⟨_,_,PySem.F.mro_reversed⟩,PySem.F.made_reversed,Wf,PySem.F.sub_reversed_self,Yb⟩
noncomputable def obj(t:Addr)(i:Int):Obj:={cls:=.type "reversed",data:=.fields #[.ref t,rawInt i]}
def Is(h:Heap)(a t:Addr)(i:Int):Prop:=∃o,h.get? a=some o/\o.cls=.type "reversed" /\ o.data=.fields #[.ref t,rawInt i]
theorem Is.at{h h':Heap}{a t:Addr}{i:Int}(x:Is h a t i)(e:∀o,h.get? a=some o->h'.get? a=some o):Is h' a t i:=let ⟨o,b,r⟩:=x;⟨o,e _ b,r⟩
end Rv
def abG(l q:Addr)(xs ys:Ch)(n m:Nat)(e:Do)(sq:Da)(i:Qps)(b:xs.size<=sizeLine)(a:Quu) :
  PySem.Meets (Builtin.«list.extend» ⟨[.ref l,.ref q],[]⟩) (λ_ R s=>s.heap.get? l=some {cls:=.type "list",dict:=none,data:=.seq xs n,slots:=#[]}/\s.heap.get? q=some {cls:=.type "tuple",dict:=e,data:=.seq ys m,slots:=sq} ∧
   R Qsz {s with heap:=s.heap.update l QrG,toks:=s.toks}):=
 PySem.Meets.of_wp λprog w A R s h=>by
  obtain⟨f,g,d,tk,os⟩:=s;obtain⟨hl,c,h⟩:=h;have f1:=AutoSeq1.idx_int;have k:=AutoSeq1.sub_list_list;have f4:=AutoSeq1.sub_tuple_list;have j:=AutoSeq1.sub_list_tuple;have hz:(xs++ys).size<=sizeLine+1:=by
   rw[Array.size_append];exact a
  wp_walk using QpQ,wpAny_loadPart' hl,wpAny_loadPart' c
  exact⟨_,rfl,h⟩
def PH(K:Frag):V->B1->Hp->VK->Prop:=λx vs H Q=>∃l q xs zs,x=.ref l/\vs=[.ref q]/\H l=some Qbs/\qh K H q zs/\xs.length+zs.length<=sizeLine/\Q .non Qvv
theorem agb:zt X "list.extend" (PH X.K):=by
 intro pins s Y H x vs v us Q I d f h;obtain⟨l,q,xs,zs,rfl,rfl,b,j,hz,k⟩:=h;cases d;obtain⟨u,rfl,g⟩:=f.one;cases g;obtain⟨z,its,n,r,hl,e⟩:=I.FV b;obtain⟨c,a,⟨⟨w,d2,m,s2⟩,e2,p,n2,hd2⟩,t⟩:=I.tuple j;cases p;cases hd2;have i:=a.length;have hsz:its.toArray.size+c.toArray.size<=sizeLine:=by grind
 have o:¬ (!its.toArray.isEmpty&&Builtin.List.listTooLong QqO)=true:=by
  rw[D7 hsz,we];decide
 refine rg F.slot_list_extend ⟨_,e,rfl⟩ F.entry_list_extend QrW (abG l q _ _ n n2 d2 s2 o WA We) ⟨e,e2,?_⟩;refine⟨.non,_,I.FX b e Wl (r.append a) ?_,rfl,k⟩;simp_all
variable{δ3:BA}{e1 e2:Expr}{ds Ao:BB}{p2:Pos}
theorem aV.tO{d:L3.D}(S:Qrc):bC K CL Z d v:=by
 obtain⟨fp,gp,e0,a,nd,e⟩:=S.rep;cases a with
 | cons q1 c=>
  obtain⟨rfl,r⟩:=q1.GX;exact r
def qT{lo hi:QfB}{l h:Cc}(h1:Ql2)(hw:¬ (HT.jR ds.length 0 l=0/\HT.jR ds.length ds.length h=ds.length))(y:Qt0)(x:Qt1) :
  bR X CL b Qk1 U (.sh (.tup (cutD ds l h))) δ3:=λH Z Y ts vs Q S k=>by
 obtain⟨t2,f,t⟩:=y;obtain⟨t3,d,s⟩:=x;refine bY (NQ akE cA f d) (h1 H Z Y ts vs _ S λv H1 Z1 q k1 C=>t H1 Z1 Y _ _ _ C λH2 Z2 o k2 B=>s H2 Z2 Y _ _ _ B λD Z3 n k3 g=>?_);have r:=g.tO;obtain⟨_,_,rfl,u,i⟩:=r.lS;refine⟨_,_,rfl,ay.Dn g.zh u,by rw[<- i.length];exact hw,λp w=>?_⟩;have rc:=i.cut l h;obtain⟨a,c,A⟩:=(aV.kU rc g.pop).AF (by simp[rc.length]) w;obtain⟨z,m,j⟩:=A.AA;rw[T.bU,g6]at j;exact k _ _ z (q.trans (o.trans (n.trans (a.trans m)))) QqI j
theorem abH(h1:Qh2)(q:Qlb)(n1:ds≠[])(n2:Ao≠[])(hz:Qf0) :
  bR X CL b QdD U Qmm U2:=λH Z Y ts vs Q S k=>
 bY (DX Vl cA cA) (h1 H Z Y ts vs _ S λv1 H1 Z1 l k1 t=>q H1 Z1 Y _ _ _ t λv2 H2 Z2 j k2 d=>by
  have m:=d.tO;have n:=d.pop.tO;obtain⟨_,_,rfl,u,h⟩:=n.lS;obtain⟨_,_,rfl,e,f⟩:=m.lS;have e1:=h.length;have e2:=f.length;refine⟨_,_,_,_,rfl,rfl,ay.Dn d.zh u,ay.Dn d.zh e,λz=>n1 (y3 (by rw[e1,z];rfl)),We,λz=>absurd (y3 (by rw[e2,z];rfl)) n2,λ_ p o=>?_⟩;have rc:=av.app h f;obtain⟨a,c,s⟩:=(aV.kU rc d.pop.pop).AF (by simp[rc.length,e1,e2]) o;obtain⟨r,i,g⟩:=s.AA;rw[T.bU,g6]at g;exact k _ _ r (l.trans QsZ) Qf7 g)
variable{ι:Nat->Nat}
noncomputable def turned(ι:Nat->Nat)(i j:Nat):Nat->Nat:=λk=>if i<=k/\k<j then ι (i+j-1-k) else ι k
def Kw{a c:AT}(p:a.Perm c)(s:a.Pairwise (· ≥ ·)):a=(sortI c).reverse:=by
 have h:=Et ((List.reverse_perm a).trans p) (List.pairwise_reverse.2 (s.imp λh=>h));rw[<- h,List.reverse_reverse]
def tSR(K:Frag)(t:TA):TE:=λY H Q=>t Y H λvs H1=>∃p ns,vs=[.ref p]/\lQ K H1 p QnZ/\ns.length<64/\∀l,H1 l=none->Q Qfi (upd H1 l (.lst ((sortI ns).reverse.map .int)))
theorem RX{t:TA}{p p1:Pos}{kj:Nat}(l:Qjv)(hm:QiT)(m:PA X [e] t)(hs:QaA) :
  PE X (.Call (.Name "sorted" p) [e] [⟨some "reverse",.Constant Qgs kj p1,p2⟩] pos) (tSR X.K t):=by
 intro pins s Y H Q I h;have k:PK X [⟨some "reverse",.Constant Qgs kj p1,p2⟩] _:=Vi SH aaI;refine pf (mX I l hm qR ?_);refine callWith_kw (dF QlU λus s1 zz=>?_) (by rw[hs];rfl) (by rw[hs];rfl) rfl rfl;obtain⟨vs,H1,o,g,q1⟩:=zz;refine dF (k pos pins s1 Y H1 (λzs H2=>zs=[.bl true]/\H2=H1) o ⟨rfl,rfl⟩) λws s2 zz=>?_;obtain⟨zs,H2,a,c,e1,e2⟩:=zz;subst e1;subst e2;obtain⟨u,rfl,f⟩:=c.one;cases f;obtain⟨q,ns,rfl,j,hl,kk⟩:=q1;obtain⟨v,rfl,d⟩:=g.one;cases d;obtain⟨its,b,pl,hz⟩:=a.list j;have hlen:=b.length;rw[cq]at hlen;refine sorted_ints_rev pl.isList (intsAre_of b) We λout i a1 a2 a3=>?_;obtain⟨n,he⟩:=sortedAll_at s2.heap its out;have e3:=Kw a2 a3;subst e3;refine⟨.ref (s2.heap.objs.size+1),_,a.laid (t':=s2.toks) Qrh (mi _) (show dD X.prog X.w _ _ _ Qfn from⟨?_,out.toList,n,qQ a1,?_⟩),rfl,kk _ QtK⟩
 .rw[cq,rp,mS];simp_all
 .simpa using he
variable{p1:Pos}{kj:Nat}
def RZ{l:AT}(hm:QiT)(h:Qs0)(hl:l.length<64)(j:Qjv)(hs:QaA:=by exact bz rfl) :
  bR X CL b (.Call QmG [e] [⟨some "reverse",.Constant Qgs kj p1,p2⟩] pos) U (.lst (((sortI l).reverse.map .int).map T.sh)) δ1:=λH Z Y ts vs Q S k=>
 bY (RX j hm QaY hs) (h H Z Y ts vs _ S λv H1 Z1 d k1 n r=>by
  obtain⟨a,us,rfl,g,f⟩:=r.gR;have:=AQ f;subst this;refine⟨a,l,rfl,g,hl,λp i=>?_⟩;obtain⟨c,m⟩:=(aV.kU (ints_rep _) n).jU (g0:=[]) Wl i;exact k _ _ _ d Qcf m)
def xp(hi:X.N[i]? = some x)(h:X.env.scope.names.lookup x=some .local)(hf:X.fn x=true)(hd:AD x:=by decide)(a:AE x:=by decide):Ln X i x:=⟨⟨hi,.inl h,hd,a⟩,.inl h,.inl hf⟩
def mkC(hi:X.N[i]? = some x)(h:X.env.scope.names.lookup x=some .cell)(hf:X.fn x=true)(hd:AD x:=by decide)(a:AE x:=by decide):Ln X i x:=⟨⟨hi,.inr Qfg,hd,a⟩,.inr h,.inl hf⟩
variable{P:Qah}{mg:Bi}{fd:QaN}
def IZ{w:World}{base:Heap}{f:Addr}{ps:At}{sp:Sp}(G:dB P w K mg base oS k f fd ps sp)(m:mg x=some Qaj)(q:Qgm)(b:Binds K fd ps []) :
  ∃f fd ps,dB P w K mg base oS k f fd ps sp/\mg x=some Qaj/\keepIn K Qaj=true/\Binds K fd ps []:=⟨_,_,_,G,m,q,b⟩
variable{δc:BA}{scope:Scope}{y:Str}{Nc:At}{ix:Co}{elt iter:Expr}{ifs:Cl}{px pc:Pos}{p:L3.D->Bool}{g:L3.D->T}
def Fn(sc:QfJ):lC X scope [y] Nc ix:=⟨sc.kind,sc.AI,sc.nd,sc.names,(λx a=>by rw[hU]at a;subst a;exact sc.own),sc.frees,sc.hd,sc.q2⟩
noncomputable def KA(sc:QfJ)(h:QqK)(h1:AD y)(c:AE y):qP X CL scope Nc [y].length (.Name y px) part1 ifs elt δc ds p g:=λC s0 b f0 a=>
 ⟨En sc.nd (Er (by rw[sc.hd];rfl) sc.own h1 c),λd hd=>⟨[d],rfl,rfl,(h C s0 b f0 a d hd).1,(h C s0 b f0 a d hd).2⟩⟩
def nS(sc:QfJ)(a:QaU)(h:QqP)(c:(δc=zb δ1 ix/\∀d∈ds,(g d).clean=true)\/δc=Ej δ1 ix)(inner:QqK)(hlen:QbL)
  (hs:Qco:=by intro _;rfl) (h1:AD y:=by decide) (e:AE y:=by decide):bR X CL b QpA U QfX δ1:=
 Ep (Fn sc) a (VA h) c (KA sc inner h1 e) hlen hs
variable{dO:CA}{pos':Pos}
def Ey{D:cY}{gg:L3.D->T}(g:Gx X)(n:Qba)(sc:QfJ)(h:QqP)(a:(δc=zb δ1 ix/\∀d∈ds,(gg d).clean=true)\/δc=Ej δ1 ix)(inner:Block X CL scope Nc ifs elt δc ds p gg)
  (hlen:QbL) (k:cG X CL b dO (δ1.set i (some (.lst ((ds.filter p).map gg)))) D) (hl:Qb5)
  (e:swapsWith QkQ Qei pos.line X.env=pure true\/swapsWith QkQ Qei pos.line X.env=pure false) (hs:Qco:=by intro _;rfl)
  (h1:AD y:=by decide) (c:AE y:=by decide):cG X CL b (.Assign [.Name x pos'] QkQ pos::dO) U D:=
 aln g n (Fn sc) (VA h) a (KA sc inner h1 c) hlen k hl e hs
variable{d:L3.D}
def aB(n:Qba)(h:U[i]? = some QdK:=by rfl):cL X CL b QaF U d U:=au (v_ n.1 h)
structure VD(X:Cx):Prop where
 g:Gx X
 u:X.A.units+64<cLine
noncomputable abbrev bE:NameKind:=.globalImplicit
noncomputable abbrev b9:NameKind:=.local
def g9{N P:At}{sc:Scope}(h1:sc.kind=.function:=by rfl)(f:sc.isCoroutine=false:=by rfl)(e:sc.isGenerator=false:=by rfl)(d:N.Nodup:=by decide +kernel)(c:N.take P.length=P:=by rfl)(b:∀x∈P,sc.names.lookup x=some .local\/sc.names.lookup x=some .cell:=by decide +kernel)(a:∀y∈sc.names,y.2 ≠ .free:=by decide +kernel):cO N P sc:=⟨h1,f,e,d,c,b,a⟩
def bX{m:Nat}{arg:Qap}{Pre:Qae}{res:QaV}(F:∃f fd ps,dB X.prog X.w X.K X.mg X.base oS k f fd ps QhI/\X.mg x=some Qaj/\keepIn X.K Qaj=true/\Binds X.K fd ps [])(r:eL m X.A)(h:k<=m:=by decide):Fc X CL x k n arg Pre res:=⟨F,r.mono h⟩
variable{H' Z':Hp}{U':BA}{Y':L2.St}{tl:Bn}{us:B1}{y:Addr}
theorem aV.apk(S:Qar)(hi:U[i]? = some (some (.pin y t))):Y[i]? = some Qns/\aV K CL b H Z Qng Y ts vs:=by
 obtain⟨fp,gp,e,r,nd,k⟩:=S.rep;obtain⟨v0,f1,f2,c,hv,a,rt,put,_⟩:=e.get hi;subst a;replace rt:=rt.RC;obtain⟨rfl,rt⟩:=rt;have e2:=put QA Qcc rt;rw[iI hv]at e2;exact⟨hv,⟨⟨_,gp,e2,r,nd,k⟩,S.bh,S.zz,S.zh,S.new,S.tp,S.tab⟩⟩
noncomputable def tP(H:Hp)(gp:BY):Hp:=λc=>if c∈gp then none else H c
def jz{gp:BY}{c:Addr}(h:c∉gp):tP H gp c=H c:=bS h
def qU{gp:BY}{c:Addr}(h:c∈gp):tP H gp c=none:=ec h
def jX{gp:BY}{c:Addr}{o:HO}(h:tP H gp c=some o):c∉gp/\H c=some o:=by
 by_cases a:c∈gp
 .rw[qU a]at h;cases h
 .rw[jz a]at h;exact⟨a,h⟩
theorem aV.cut(S:Qq6)(hl:tl.length=us.length):∃gp,aN K CL H Z tl us gp/\gp.Nodup/\aV K CL b Qkm Z U Y ts vs:=by
 obtain⟨fp,g,e,r,nd,k⟩:=S.rep;obtain⟨g1,g2,rfl,j,i⟩:=aN.split hl r;have f:(fp++QcI).Perm (g1++(fp++g2)):=by
  rw[<- h5,<- h5];exact l8.append_right g2
 have d:=kc.1 (f.nodup_iff.1 nd);have ne:∀c∈fp++g2,c∉g1:=λc a h=>d.2.2 c h c a rfl;have own:∀c∈g1,Z c=none/\b.B c=none:=λc a=>k c (hV _ Qkz);refine⟨g1,j,d.1,⟨⟨fp,g2,e.mono QA (λc a=>jz (ne c Qkz)),i.mono QA (λc a=>jz (ne c (hV _ a))),d.2.1,λc a=>k c (f.mem_iff.2 (hV _ a))⟩,λc o q=>?_,S.zz,λc o q=>?_,S.new,λc o q im=>S.tp c o (jX q).2 im,S.tab⟩⟩
 .rw[jz (λh=>by rw[(own c h).2]at q;cases q)];exact S.bh c o q
 .rw[jz (λh=>by rw[(own c h).1]at q;cases q)];exact S.zh c o q
variable{fp:BY}
theorem aV.apl{W':Hp}(S:Qar)(k:QcM)(ww:ay Z W')(l:ay W' H')(new:∀a o,W' a=some o->Z a=none->H a=none)
  (tp:∀a o,H' a=some o->jd o=true->W' a=some o) (r:aN K CL H' W' tl us fp) (nd:fp.Nodup) (own:∀a∈fp,W' a=none/\H a=none):aV K CL b H' W' U Y (tl++ts) (us++vs):=by
 obtain⟨f0,g0,e0,g,f,k0⟩:=S.rep;have old:∀a∈f0++g0,∃o,H a=some o:=λa d=>(hG.1 d).elim (e0.there a) (g.there a);have keep:∀a∈f0++g0,H' a=H a:=λa d=>by
  obtain⟨o,e⟩:=old a d;rw[e];exact k a o e
 have j:(f0++(fp++g0)).Perm (fp++(f0++g0)):=by
  rw[<- h5,<- h5];exact l8.append_right g0
 have wn:∀a∈f0++g0,W' a=none:=λa d=>by
  cases q:W' a with
  | none=>rfl
  | some o=>
   obtain⟨u,e⟩:=old a d;rw[new a o q (k0 a d).1]at e;cases e
 refine⟨⟨f0,fp++g0,e0.mono ww (λa d=>keep a QkC),aN.app r (g.mono ww λa d=>keep a (hV _ d)),?_,λa d=>?_⟩,S.bh.trans k,S.zz.trans ww,l,λa o q z=>?_,tp,S.tab⟩
 .refine j.nodup_iff.2 (kc.2 ⟨nd,f,λa d c m e=>?_⟩);subst e;obtain⟨o,q⟩:=old a m;rw[(own a d).2]at q;cases q
 .obtain h|h:=hG.1 (j.mem_iff.1 d)
  .exact⟨(own a h).1,J7 S.bh (own a h).2⟩
  .exact⟨wn a h,(k0 a h).2⟩
 .cases i:Z a with
  | none=>exact J7 S.bh (new a o q i)
  | some u=>
   exact S.new a u i z
def Fh:Bn->Bn->Prop
 | [],[]=>True
 | .sh d::l,.sh e::m=>d=e/\Fh l m
 | .pin x _::l,.pin z _::m=>x=z/\Fh l m
 | _,_=>False
def Keeps(U:BA)(ol:Bn):Prop:=∀(j:Nat) (y:Addr) (t:T),ol[j]? = some (T.pin y t)->U[j]? = some (some (T.pin y t))
theorem Keeps.tail{o:FC}{d:T}{ol:Bn}(k:Keeps (o::U) (d::ol)):Keeps U ol:=λj y t h=>k QR y t h
theorem e9.outs{W W':Hp}(ww:ay W W'):∀{al ol:Bn} {vs:B1} {g0:BY} {U:BA} {Y:L2.St} {fp:BY},Fh al ol->aN K CL H W al vs g0->e9 K CL H' W' U Y fp->Keeps U ol->∃g,aN K CL H' W' ol vs g/\g.Sublist fp:=by
 intro al
 induction al with
 | nil=>
  intro ol vs g0 U Y fp b i _ _;cases i;cases ol with
  | nil=>exact⟨[],.nil,List.nil_sublist _⟩
  | cons _ _=>cases b
 | cons a al f=>
  intro ol vs g0 U Y fp b i re k;cases i with
  | cons r rs=>
  cases ol with
  | nil=>cases a<;>cases b
  | cons o ol=>
  cases a with
  | sh d=>
   cases o with
   | sh e=>
    obtain⟨h1,c⟩:=b;subst h1;replace r:=r.GX;obtain⟨rfl,r⟩:=r;cases re with
    | nil=>
     obtain⟨g,q,s⟩:=f c rs (.nil (H:=H') (Z:=W')) (λj y t h=>by have:=k QR y t h;simp at this);exact⟨[]++g,.cons Qm3 q,s⟩
    | skip re=>
     obtain⟨g,q,s⟩:=f c rs re k.tail;exact⟨[]++g,.cons Qm3 q,s⟩
    | cons rt re=>
     obtain⟨g,q,s⟩:=f c rs re k.tail;exact⟨[]++g,.cons Qm3 q,s.trans (wu _ _)⟩
   | _=>cases b
  | pin x t0=>
   cases o with
   | pin z t=>
    obtain⟨h1,c⟩:=b;subst h1;have h0:=k 0 x t rfl;replace r:=r.RC;obtain⟨rfl,r⟩:=r;cases re with
    | nil=>simp at h0
    | skip re=>simp at h0
    | cons rt re=>
     simp at h0;subst h0;obtain⟨g,q,s⟩:=f c rs re k.tail;replace rt:=rt.RC;obtain⟨rfl,rt⟩:=rt;exact⟨_,.cons (.pin rt) q,ox (mx _) s⟩
   | _=>cases b
  | _=>cases o<;>cases b
noncomputable def oX(N:At)(al:Bn):BA:=al.map some++List.replicate (N.length-al.length) none
theorem tQ:∀{al:Bn} {vs:B1} {gp:BY} (n:Nat),aN K CL H Z al vs gp->e9 K CL H Z (al.map some++List.replicate n none) Qq7 gp
 | _,_,_,n,.nil=>jV (ds:=[]) (vs:=[]) n .nil
 | _,_,_,n,.cons r t=>.cons r (tQ n t)
def vt(K:Frag)(CL:BM)(n:Nat)(arg:Qbv)(Pre:Qae)(res:QaV)(out:Qbv):Sp:=λvs H Q _=>
 ∃(W:Hp) (a:A) (gp:BY),ay W Qkm/\(∀c o,H c=some o->jd o=true->W c=some o)/\aN K CL H W Qce vs gp/\gp.Nodup/\(arg a).length=n/\Pre a/\m5 CL W ∧
  ∀v H' W' fp,ay Qkm H'->ay W W'->ay W' H'->(∀c o,W' c=some o->W c=none->tP H gp c=none)->(∀c o,H' c=some o->jd o=true->W' c=some o) →
   aN K CL H' W' (res a::out a) QaT fp->fp.Nodup->(∀c∈fp,W' c=none/\tP H gp c=none)->Q v H'
def Y1{w:World}{base:Heap}{qual:Str}{st:Stmt}{f:Addr}{N ps:At}{arg:Qbv}{Pre:Qae}{res:QaV}{out:Qbv}(F:Qdm)(S:Qdn)(B:∀a,Pre a->Fh Qce Qfr)
  (J:∀(d7:Value) (l:Qaq) (outer:D2) (s:Qb) (H:Hp) (E:XK) (b:Bx) (a:A),eL k Qu1->Pre a →
   cG (tF oS P w K mg base N qual Qa7 f d7 l outer s H E).Q8 CL b QbE Qjp {nx:=λU=>res a=.sh .non/\Keeps U Qfr,rt:=λt U=>t=res a/\Keeps U Qfr}) :
  dB P w K mg base oS Qao f fd ps (vt K CL ps.length arg Pre res out):=by
 refine Kc F S (λvs H Q E h=>?_) (λd7 l outer s H vs Q E _ I h=>?_)
 .obtain⟨W,a,gp,_,_,r,_,hl,_⟩:=h;rw[<- r.length];exact hl
 .obtain⟨W,a,gp,u,tp,r,nd,hl,m,tb,kk⟩:=h;have wn:∀c∈gp,W c=none:=λc i=>by
   cases q:W c with
   | none=>rfl
   | some o=>exact absurd i (jX (u c o q)).1
  refine⟨_,XQ,J d7 l outer s H E ⟨tP H gp,W⟩ a I m H W _ [] [] _ ⟨⟨gp,[],?_,.nil,by rw[hX];exact nd,λc i=>?_⟩,λc o q=>(jX q).2,.refl _,λc o q=>(jX (u c o q)).2,λc o q z=>?_,tp,tb⟩ ⟨λU' Y' H' Z' s' d e=>?_,λt v H' Z' U' Y' s' d e=>?_,λ_ _ _ _ _ _ e=>e.elim,λ_ _ _ _ _ _ e=>e.elim⟩⟩
  .unfold oX L2.start;rw[<- r.length];exact tQ _ r
  .rw[hX]at i;exact⟨wn c i,qU i⟩
  .have D:W c=some o:=q;have p:W c=none:=z;rw[D]at p;cases p
  .obtain⟨e1,e2⟩:=e;obtain⟨fp,L,re,y,n,own⟩:=d.rep;obtain⟨g,q,j⟩:=e9.outs d.zz (B a m) r re e2;have G:=(kc.1 n).1;exact kk .non H' Z' ([]++g) d.bh d.zz d.zh d.new d.tp (.cons (by rw[e1];exact .sh .non) q) (G.sublist j) λc i=>own c (hZ _ (j.subset i))
  .obtain⟨e1,e2⟩:=e;subst e1;obtain⟨fp,L,re,y,n,own⟩:=d.rep;obtain⟨g,q,j⟩:=e9.outs d.zz (B a m) r re e2;cases y with
   | @cons _ _ _ _ f1 f2 C M=>
    have sub:(g++f1).Sublist (fp++QkB):=ox j Qri;have pm:(f1++g).Perm (g++f1):=l8;exact kk v H' Z' (f1++g) d.bh d.zz d.zh d.new d.tp (.cons C q) (pm.nodup_iff.2 (n.sublist sub)) λc i=>own c (sub.subset (pm.mem_iff.1 i))
def Jn(Y:L2.St):Co->BY->Prop
 | [],[]=>True
 | i::is,y::ys=>Y[i]? = some Qns/\Jn Y is ys
 | _,_=>False
def I0:Bn->BY->Bn->Prop
 | [],[],[]=>True
 | .sh _::ol,ys,ns=>I0 ol ys ns
 | .pin y t::ol,z::ys,n::ns=>y=z/\(n=t\/n=.pin y t)/\I0 ol ys ns
 | _,_,_=>False
noncomputable def x5:BA->Co->Bn->BA
 | U,i::is,n::ns=>x5 Quv is ns
 | U,_,_=>U
theorem aV.as1:∀{ol:Bn} {us:B1} {is:Co} {ys:BY} {ns:Bn} {U:BA},aV K CL b H Z U Y (ol++ts) (us++vs)->ol.length=us.length->Jn Y is ys->I0 ol ys ns->(∀i∈is,i<U.length)->aV K CL b H Z (x5 U is ns) Y ts vs:=by
 intro ol
 induction ol with
 | nil=>
  intro us is ys ns U S hl c a hi;cases us with
  | cons _ _=>cases hl
  | nil=>
   cases ys with
   | cons _ _=>cases a
   | nil=>
    cases is with
    | cons _ _=>cases c
    | nil=>
     rw[x5.eq_def];exact S
 | cons o ol h=>
  intro us is ys ns U S hl c a hi;cases us with
  | nil=>cases hl
  | cons u us=>
  cases o with
  | sh d=>exact h S.pop Quw c a hi
  | pin y t=>
   cases ys with
   | nil=>cases a
   | cons z ys=>
   cases ns with
   | nil=>cases a
   | cons n ns=>
   cases is with
   | nil=>cases c
   | cons i is=>
   obtain⟨h1,hn,a⟩:=a;subst h1;obtain⟨f,c⟩:=c;have k:u=.ref y:=by
    obtain⟨_,_,_,r,_,_⟩:=S.rep;cases r with
    | cons r _=>cases r;rfl
   subst k;have e:=hi i gF;have g:=S.set e;rw[iI f]at g;have m:aV K CL b H Z Quv Y (ol++ts) (us++vs):=by
    obtain rfl|rfl:=hn
    .have:=(g.apk (HH e)).2
     rwa [List.set_set]at this
    .exact g
   exact h (U:=U.set i (some n)) m Quw c a λj l=>by rw[rh];exact hi j (hJ _ l)
  | _=>cases a
section
variable{D:cY}{is:Co}{fx:BY->Prop}{al:BY->Bn}
def R0(X:Cx)(CL:BM)(b:Bx)(e:Expr)(U:BA)(t:T)(U':BA):Prop:=
 ∀(H Z:Hp) (Y:L2.St) (ts:Bn) (vs:B1) (Q:VK),aV X.K CL b H Z U Y ts vs->(∀v H' Z',ay Z Z'->aV X.K CL b H' Z' U' Y Qb4 QaT->Q v H')->sX X e Y H Q
theorem bR.m(h:QaP):R0 X CL b e U t δ1:=λH Z Y ts vs Q S k=>h H Z Y ts vs Q S λv H' Z' z _ a=>k v H' Z' z a
def abK(h:Qdv)(k:D.nx δ1)(hs:Qk3:=by rfl):Vr X CL b (.Expr e pos) U D:=λH Z Y ts vs E S M=>mZ (yR cA hs) (h H Z Y ts vs _ S λv H1 Z1 a c=>M.nx δ1 Y H1 Z1 a c.pop k)
def age(i:Nat)(h:Qdv)(k:Qtj)(hl:Qb5:=by decide)(d:Qbm:=by assumption)(hi:X.N[i]? = some x:=by rfl)(c:Qdi:=by first|exact .inl rfl|exact .inr rfl)
  (hs:Qdx:=by rfl) (hf:Qdj:=by first|exact .inl rfl|exact .inr rfl|assumption):Vr X CL b Qlx U D:=λH Z Y ts vs E S M=>
 mZ QtH (h H Z Y ts vs _ S λv H1 Z1 a f=>M.nx _ _ H1 Z1 a (f.set hl) k)
def TMv(X:Cx)(CL:BM)(b:Bx)(es:Cl)(U:BA)(is:Co)(fx:BY->Prop)(al:BY->Bn)(U':BA):Prop:=
 ∀(H Z:Hp) (Y:L2.St) (ts:Bn) (vs:B1) (Q:EO),aV X.K CL b H Z U Y ts vs →
  (∀ys us H' Z',ys.length=is.length->Jn Y is ys->fx ys->us.length=(al ys).length->ay Z Z'->ay H H'->aV X.K CL b H' Z' U' Y ((al ys).reverse++ts) QdG->Q us H')->G8 X es Y H Q
noncomputable def T.isRef:T->Bool
 | .lst _=>true
 | .ins _ _=>true
 | .iC _=>true
 | .dct _=>true
 | _=>false
theorem aV.alv(S:Qb9)(h:t.isRef=true):∃y,v=.ref y/\aV K CL b H Z U Y (.pin y t::ts) (.ref y::vs):=by
 obtain⟨fp,gp,e,r,nd,k⟩:=S.rep;cases r with
 | cons r rs=>
  cases r with
  | sh r=>cases h
  | tup r _=>cases h
  | pin r=>cases h
  | jN r _ _=>cases h
  | lst r q=>exact⟨_,rfl,⟨⟨fp,_,e,.cons (.pin (.lst r q)) rs,nd,k⟩,S.bh,S.zz,S.zh,S.new,S.tp,S.tab⟩⟩
  | ins r q=>exact⟨_,rfl,⟨⟨fp,_,e,.cons (.pin (.ins r q)) rs,nd,k⟩,S.bh,S.zz,S.zh,S.new,S.tp,S.tab⟩⟩
  | iC r q=>exact⟨_,rfl,⟨⟨fp,_,e,.cons (.pin (.iC r q)) rs,nd,k⟩,S.bh,S.zz,S.zh,S.new,S.tp,S.tab⟩⟩
  | dct r q=>exact⟨_,rfl,⟨⟨fp,_,e,.cons (.pin (.dct r q)) rs,nd,k⟩,S.bh,S.zz,S.zh,S.new,S.tp,S.tab⟩⟩
def alw(g:Gx X)(n:Qba)(h:Qdv)(k:Qlh)(hl:Qb5:=by exact hT rfl)(hs:Qdx:=by rfl) :
  cG X CL b QhK U D:=bK (age i h k hl g.nd n.hi n.loc hs n.hf)
def Kx(h:Qdv)(k:cG X CL b dO δ1 D)(hs:Qk3:=by rfl):cG X CL b (.Expr e pos::dO) U D:=bK (abK h k hs)
end
theorem R1{c f:Value}(l:B2)(h:TriplesOk l)(e:codeAmong pos (l++[rawInt pos'.line,rawInt pos'.col,c])=some f):codeAmong pos l=some f\/f=c:=by
 fun_induction TriplesOk l with
 | case1=>
  simp[codeAmong,rawInt]at e;simp_all
 | case2 a t b u x rest g=>
  simp only[l7,codeAmong]at e ⊢;split at e
  .rename_i d;rw[ec d];exact .inl e
  .rename_i d;rw[bS d];exact g h e
 | case3 l h1 i=>exact h.elim
def x4(f:Addr)(q:Str)(ps:Qkc)(body:Expr)(sc:Scope)(cl:Qj1)(c:Addr):Heap->Prop:=λh=>
 ∃pm a,h.get? f=some (kla_obj "<lambda>" q ps body sc cl pm c a)
structure x3(X:Cx)(CL:BM)(x q:Str):Prop where
 code:∃c,X.env.code=.ref c/\CodeHd X.base c (CL x)
 blt:∃bm o,X.mg "__builtins__" = some (.ref bm)/\bm≠builtinsNs/\bm≠mainGlobals/\X.base.get? bm=some o/\o.cls=.type "module" /\ o.dict=some builtinsNs/\o.data=.plain
 qual:X.env.qual++"<lambda>" = q
 tab:IK x=true/\CL x≠0/\NZ x=q
variable{pins:BC}{s:Qb}{q:Str}{params:Qkc}{body:Expr}
def alx{Q:BN}(L:x3 X CL x q)(I:Qbb)(p:H (CL x)=some (.tabs q))(Nx:∀y∈scope.names,y.2=.free->∃c,X.env.cells.lookup y.1=some c)
  (N:Qsc)
  (k:∀f c H' s',L2.Inv X pins Y H' s'->ay H H'->H' f=some Qk0->H' c=some Qcm->(∀b o,H' b=some o->jd o=true->H b=some o)->Q Qaj s') :
  wpAny Qr X.A (eval (.Lambda params body scope pos) X.env) Q X.xe s:=by
 obtain⟨c,S,hd⟩:=L.code;obtain⟨bm,ob,b1,b2,b3,Z,b5,b6,b7⟩:=L.blt;obtain⟨ps,J,tr,cs⟩:=I.ck _ _ p;have P:∀{b:Addr} {o:Obj},X.base.get? b=some o->b≠CL x:=λ{b o} e z=>by
  have:=(I.bs _ _ e).2;rw[z,p]at this;cases this
 have R:s.heap.Ns mainGlobals X.mg:=by
  obtain⟨o,es,ep,e,r⟩:=I.mod.glob;exact⟨o,es,ep,I.bk _ _ e,r⟩
 have F:mainGlobals≠CL x:=by
  obtain⟨o,_,_,e,_⟩:=I.mod.glob;exact P e
 have T:s.heap.BuiltinsAt X.mg (CL x):=⟨bm,ob,b1,b2,b3,P Z,I.bk _ _ Z,b5,b6,b7⟩;refine PySem.W.kla_eval N ?_;rw[L.qual];cases hf:codeAmong pos ps.toList with
 | none=>
  refine PySem.W.kla_makeFunction (oV Nx) I.ok.glob R S (hd.keeps I.bk) J tr hf F T λg i h' tk D B iH M m=>?_;obtain⟨c₂,oc,vs,t,e2,E,G,hv⟩:=M;cases e2;have hn:H g=none:=I.ck.fresh B;have l:∀{b:Addr},H b=none->b≠CL x:=λ{b} e z=>by rw[z,p]at e;cases e
  have ne':∀{b:Addr} {o:Obj},s.heap.get? b=some o->b≠g:=λ{b o} e=>i2 (lh (h9 e) B);have cP:CL x≠g:=ne' J;have un:Un X.fs [] H (upd H g Qcm) s.heap h':=by
   refine⟨λb o e n _ _=>D b o (l n) e,λb o e n _ _=>⟨o.slots,D b o (l n) e⟩,λb o e n _=>by rw[aq (ne' e)];exact n,λb o e _=>?_,λb xs e=>by rw[aq Qff];exact e,λb o u e=>by rw[aq Qff];exact e,λb ps e=>⟨#[],by rw[aq Qff,e];simp⟩⟩;by_cases z:b=CL x
   .exact⟨_,z▸m⟩
   .exact⟨o,D b o z e⟩
  have ck:sY X.prog X.w (upd H g Qcm) h':=λb u e=>by
   by_cases z:b=g
   .subst z;rw[aA]at e;cases e;exact⟨oc,vs,t,E,G,hv⟩
   .rw[aq z]at e;by_cases h:b=CL x
    .subst h;rw[p]at e;cases e;refine⟨_,m,?_,λpos' K U=>?_⟩
     .rw[Array.toList_append];exact TriplesOk_snoc _ _ _ _ tr
     .rw[Array.toList_append]at U;obtain q1|q1:=R1 _ tr U
      .obtain⟨c3,e3,V⟩:=cs pos' K q1;exact⟨c3,e3,by rw[aq (aJ V hn)];exact V⟩
      .exact⟨g,q1,aA⟩
    .refine(I.ck b u e).yQ (λd v Q7 r=>D d v ?_ r) (λd r=>by rw[aq (aJ r hn)];exact r) (λd xs r=>by rw[aq (aJ r hn)];exact r) λd z r=>by rw[aq (aJ r hn)];exact r
     rintro rfl;obtain w|w:=Q7
     .exact h w.symm
     .rw[p]at w;cases w
  have I1:=I.un (t':=tk) un ck;have f1:(upd H g Qcm) h'.objs.size=none:=ck.fresh (hI _);have O:=I1.laid (t':=tk) (a:=h'.objs.size) (o:=.ext QpY) (h':=h'.push Qpc)
   (λb u e=>ia _ e) (hI _) ⟨⟨_,_,jj _ rfl⟩,⟨_,jj _ rfl⟩,λh1 h2 ⟨pm,ct,e⟩ kk=>⟨pm,ct,kk _ e⟩⟩
  refine k _ g _ _ O (λb o e=>?_) aA ?_ λb o e im=>?_
  .have j:=aJ e hn;have h:b≠h'.objs.size:=λz=>by
    rw[<- z,aq j,e]at f1;cases f1
   rw[aq h,aq j];exact e
  .rw[aq (i2 iH),aA]
  .by_cases h:b=h'.objs.size
   .subst h;rw[aA]at e;cases e;cases im
   .rw[aq h]at e;by_cases j:b=g
    .subst j;rw[aA]at e;cases e;cases im
    .rw[aq j]at e;exact e
 | some K=>
  obtain⟨g,rfl,C⟩:=cs pos K hf;refine PySem.W.kla_makeFunctionHit (oV Nx) I.ok.glob R S (hd.keeps I.bk) J tr hf T λi h' tk hk hsz=>?_;have O:=I.laid (t':=tk) (a:=h'.objs.size) (o:=.ext QpY) (h':=h'.push Qpc)
   (λb u e=>ia _ (hk _ _ e)) hsz ⟨⟨_,_,jj _ rfl⟩,⟨_,jj _ rfl⟩,λh1 h2 ⟨pm,ct,e⟩ kk=>⟨pm,ct,kk _ e⟩⟩
  have f1:H h'.objs.size=none:=I.ck.fresh hsz;refine k _ g _ _ O (λb o e=>by rw[aq (aJ e f1)];exact e) aA (by rw[aq (aJ C f1)];exact C) λb o e im=>?_;by_cases h:b=h'.objs.size
  .subst h;rw[aA]at e;cases e;cases im
  .rw[aq h]at e;exact e
def Cq(X:Cx)(A:Qaq)(q:Str)(scope:Scope)(Nc:At)(f c:Addr)(s:Qb)(H:Hp):Cx where
 prog:=X.prog
 w:=X.w
 K:=X.K
 mg:=X.mg
 base:=X.base
 A:=A.deeper (envX q scope s.heap.objs.size f Qfj Qb7)
 N:=Nc
 hO:=s
 ip:=H
 env:=envX q scope s.heap.objs.size f Qfj Qb7
 outer:=X.stack
 stack:=envX q scope s.heap.objs.size f Qfj Qb7::X.stack
 ex:=[]
 fn:=λ_=>false
 calm:=true
 pn:=[]
 xe:=λ_ _=>False
variable{A:Qaq}{f c:Addr}
def Yc(sc:g7 X scope x Nc ix)(I:Qbb)(hA:Qu4)(hh:Qdl){h':Heap}{tk:Nat}{u:Value}(r:QcL)
  (hn:h'.Ns s.heap.objs.size (λy=>([(x,u)]:D1).reverse.lookup y)) (D:∀b o,s.heap.get? b=some o->h'.get? b=some o) :
  L2.Inv Qf1 [] (AJ Y ix QaL) H {s with heap:=h',toks:=tk}:=by
 have frees:∀y∈scope.names,y.2=.free->∃c,X.env.cells.lookup y.1=some c:=λy J e=>I.ok.has y.1 (sc.frees y J e).2;have sub:∀{y:Str} {c:Addr},(d8 X.env scope.names []).lookup y=some c->X.env.cells.lookup y=some c:=λ{y c} e=>qL frees (λ_ _ z=>by cases z) e;have hlen:(AJ Y ix QaL).length=Nc.length:=by
  have all:∀l:Co,(∀i∈l,∃y,X.N[i]? = some y/\scope.names.lookup y=some .free)->(l.filterMap (X.N[·]?)).length=l.length:=by
   intro l
   induction l with
   | nil=>intro _;rfl
   | cons i r F=>
    intro h;obtain⟨y,e,_⟩:=h i gF;rw[me,e];show _+1=_+1;rw[F λj B=>h j (hJ _ B)]
  unfold AJ;rw[sc.hd,kq,kq,cq,all ix sc.q2]
 have nil:∀b:Addr,b∉(Cq X A q scope Nc f c s H).ex:=λb z=>absurd (show b∈([]:BY) from z) Wl;refine⟨⟨I.ok.mod,sc.kind,rfl,rfl,hI _,λy z c h1 k=>I.ok.inj y z c (sub h1) (sub k),λy J=>?_,λy c hf _=>(by cases (show false=true from hf)),λ_=>hh,Around.frames_deeper hA,.inr ⟨rfl,rfl⟩,λb M=>absurd M (nil b),I.bs,jq I.ok.mu I.sz,λb o _=>nil b,λb M=>absurd M (nil b),I.stack,I.Dj⟩,
  rfl,I.bare,Un.kept D,⟨_,hn,λi y w h1 k h3=>?_⟩,λy c e=>?_,I.ck.fresh (hI _),λy c e=>I.kR y c Qhe,λp Z=>absurd (show p∈([]:BC) from Z) Wl,I.ck.kept D,hlen⟩
 .have G:scope.names.lookup y=some .cell\/scope.names.lookup y=some .free:=J;obtain z|z:=G
  .exact absurd rfl (sc.AI _ (ph z))
  .exact m8 z
 .unfold AJ at k;cases i with
  | zero=>
   have d:some QaL=some (some w):=k;cases d;have e:y=x:=by
    have g:Nc[0]? = some y:=h1;rw[sc.hd]at g;exact(j2 g).symm
   subst e;refine⟨u,r,.inl ⟨sc.own,?_⟩⟩;simp
  | succ i=>
   rw[MW,ib]at k;cases E:ix[i]? with
   | none=>rw[E]at k;cases k
   | some j=>
    rw[E]at k;have d:(Y[j]?).getD none=some w:=j2 k;have B:Y[j]? = some (some w):=by
     cases q:Y[j]? with
     | none=>rw[q]at d;cases d
     | some o=>rw[q]at d;exact congrArg some d
    obtain⟨n,t,m⟩:=sc.q2 j (i0 E);have O:Nc[i+1]? = some n:=by
     have all:∀(l:Co) (i:Nat),(∀j∈l,∃y,X.N[j]? = some y/\scope.names.lookup y=some .free)->l[i]? = some j->(l.filterMap (X.N[·]?))[i]? = some n:=by
      intro l
      induction l with
      | nil=>intro i _ h;simp at h
      | cons a r F=>
       intro i h hi;obtain⟨ya,P,_⟩:=h a gF;rw[me,P];cases i with
       | zero=>
        simp at hi;subst hi;rw[t]at P;cases P;rfl
       | succ i=>exact F i (λj B=>h j (List.mem_cons_of_mem _ B)) (by simpa using hi)
     rw[sc.hd,MW];exact all ix i sc.q2 E
    have ey:n=y:=by
     have g:Nc[i+1]? = some y:=h1;rw[O]at g;exact j2 g
    subst ey;have T:=(sc.frees (n,.free) (ph m) rfl).2;have R:rF X.env.scope n:=T.elim Qsa Qvh;obtain⟨m0,aa,L⟩:=I.loc;obtain⟨V,W,lk⟩:=L j n w t B R;refine⟨V,W,?_⟩;obtain⟨kk,_⟩|⟨_,c',hc,U⟩:=lk
    .obtain z|z:=T
     .rw[kk]at z;cases z
     .rw[kk]at z;cases z
    .obtain⟨S,C⟩:=m8 (env:=X.env) (cs:=[]) m;have:S=c':=by
      have:=sub C;rw[hc]at this;exact(j2 this).symm
     subst this;obtain⟨o,K,hd⟩:=U;exact .inr ⟨.inr m,S,C,o,D _ _ K,hd⟩
 .obtain⟨v,o,K,hd⟩:=I.cell y c Qhe;exact⟨v,o,D _ _ K,hd⟩
def abN{u:Value}{Q:VK}(sc:g7 X scope x Nc ix)(I:Qbb)(F:Qu4)(D:Qdl)(k:A.depth<recursionLimit)
  (hf:H f=some Qk0) (E:H c=some Qcm) (r:QcL)
  (K:∀cl pm cd ct u,bindArgs QpG ⟨[u],[]⟩=pure [(x,u)]) (j:Qtn) (l:Qto)
  (h:sX Qf1 body (AJ Y ix QaL) H Q):wpAny Qr A Qi6 Qbe Qbj s:=by
 obtain⟨⟨pm,G,C⟩,_⟩:=I.ck _ _ hf;obtain⟨oc,vs,t,e1,e2,e3⟩:=I.ck _ _ E;refine wpAny_call (PySem.W.kla_callFunE k C rfl j l rfl ⟨c,oc,vs,t,rfl,e1,e2,e3⟩ ?_);rw[K];refine hL (wpAny_newFunctionEnv sc.AI (λy p=>?_) (λa i g=>?_) sc.kind)
 .rw[hU.1 p];exact sc.own
 .have m:∀b o,s.heap.get? b=some o->a.get? b=some o:=λb o e=>(g.2 b QgT).trans Qdf;refine⟨I.nolimit.keeps m,?_⟩;have J:=Yc (q:=q) (f:=f) (c:=c) (tk:=s.toks+([(x,u)]).length) sc I F D r i m;refine PySem.W.kla_codeExpr (i8 (h [] _ J) (λw s' hl=>?_) λe s' z=>False.elim z);obtain⟨v',H',d,n,B⟩:=hl;exact I.after ⟨v',H',d.os,d.bare,d.base,d.ck,n,B⟩
variable{a kS:Addr}{e1:Nat}{E:BN}{P:QrX}
def Dv{it:Addr}(I:Qbb)(fp:lA X pins H it)(g:Obj->Obj):L2.Inv X pins Y H {s with heap:=s.heap.update it g}:=by
 have s1:=ub s.heap it g;exact I.turned (λb o n q=>(s1.2 b n).trans q) fp.1 fp.2.1 fp.2.2.2.1 fp.2.2.2.2.1 fp.2.2.2.2.2
theorem VG{st:SortSt}{keys:Ch}{e:Nat}(I:Qbb)(j:Qn9)(k:QgO)(d:kS≠a)(ok:s.heap.get? kS=some QsO)(g:s.heap.get? a=some (seqObj "list" #[] e1))
  (i:keys.size<64) (hsz:(arrOf st).size<64) (l:failedOf st=none)
  (h:∀s' c,L2.Inv X pins Y H s'->s'.heap.get? a=some (seqObj "list" ((arrOf st).map (·.2)) c)->P Qio s') :
  wpAny Qr A (ksk_tail a false e1 (.ref kS) st) P E s:=by
 have s1:=ub s.heap kS (Obj.mapSeq λ_=>(#[]:Ch));have n:=Dv I j (Obj.mapSeq λ_=>(#[]:Ch));have b:(s.heap.update kS (Obj.mapSeq λ_=>(#[]:Ch))).get? a=some (seqObj "list" #[] e1):=(s1.2 a d.symm).trans g;have m:=Dv n k (Obj.mapSeq λ_=>(arrOf st).map (·.2));obtain⟨f,o⟩:∃f,((s.heap.update kS (Obj.mapSeq λ_=>(#[]:Ch))).update a (Obj.mapSeq λ_=>(arrOf st).map (·.2))).get? a=some (seqObj "list" ((arrOf st).map (·.2)) f):=
  ⟨_,get?_update_seq b λ_=>(arrOf st).map (·.2)⟩
 unfold ksk_tail
 try dsimp only
 refine cz (listUpdate_at ok rfl ?_ (by rw[kA];lia) (hY _));refine cz (wpAny_letGo ?_);refine cz (seqEpoch_at b rfl ?_);refine cz (listUpdate_at b rfl ?_ (hY _) (by simp only[nh,l6,Array.size_map];rw[kA];lia));rw[l];simp only[bne_self_eq_false,nh,l6];exact hL (h _ f m o)
noncomputable def xt{b:Addr}(fp:lA X pins H b)(h:H' b=none):lA X pins H' b:=⟨h,fp.2⟩
def apo(X:Cx)(CL:BM)(q:Str)(scope:Scope)(Nc:At)(body:Expr)(δc:BA)(ds:BB)(g:D->Int):Prop:=
 ∀f c s0 b a d,d∈ds->cL (Cq X X.A.in1.in1 q scope Nc f c s0 b) CL a body Qgo (.int (g d)) Qgo
def YU(h1:Nc[i]? = some x)(a:QhO)(hd:AD x:=by decide)(iO:AE x:=by decide):Vn Qf1 i x:=⟨h1,.inl a,hd,iO⟩
def Ky(h1:Nc[i]? = some x)(a:Qly)(hd:AD x:=by decide)(iO:AE x:=by decide):Vn Qf1 i x:=⟨h1,.inr (.inr a),hd,iO⟩
noncomputable def R3(a:Qk4):Gl Qf1 x:=a
theorem alC{B:Type}{arg:B->BB}{Pre:B->Prop}{res:B->T}(F:Qf4)(r:QgN):Fc (Cq X X.A.in1.in1 q scope Nc f c s H) CL x k n arg Pre res:=
 ⟨F.ex,⟨r.hd,by have:=r.dp;show X.A.depth+1+3*k+5<_;lia,by have:=r.un;show X.A.units+1+1+3+16*k+200<_;lia⟩⟩
def Ez(mg:Bi)(base:Heap):Prop:=∃bm o,mg "__builtins__" = some (.ref bm)/\bm≠builtinsNs/\bm≠mainGlobals/\base.get? bm=some o/\o.cls=.type "module" /\ o.dict=some builtinsNs/\o.data=.plain
def N0{CX:r4}{P:Qah}{w:World}{base:Heap}{N:At}{qual:Str}{d7:Value}{outer:D2}{E:XK}{tx:Str}
  (bl:Ez mg base) (a:K.In base) (e:fd.code=d7) (hf:fd.code=.ref c) (hd:codeHdIn K c (CL tx)=true) (h0:CL tx≠0) (d:NZ tx=q:=by decide +kernel) (b:IK tx=true:=by decide +kernel) (hn:qual++".<locals>." ++ "<lambda>" = q:=by decide +kernel) :
  x3 (tF CX P w K mg base N qual scope f d7 A outer s H E).Q8 CL tx q:=
 ⟨⟨c,e.symm.trans hf,codeHd_of_K a hd⟩,bl,hn,b,h0,d⟩
abbrev _root_.Cs:=List (Addr×Str)
def spT(K:Frag)(ts:Cs){A:Type}(n:Nat)(arg:Qap)(Pre:Qae)(res:QaV):Sp:=λvs H Q _=>
 ∃(W:Hp) (a:A),ay W H/\(∀c o,H c=some o->jd o=true->W c=some o)/\av K Qn0 W Qce vs/\(arg a).length=n/\Pre a/\(∀p∈ts,W p.1=some QcF) ∧
  ∀v H' W' fp,ay H H'->ay W W'->ay W' H'->(∀c o,W' c=some o->W c=none->H c=none)->(∀c o,H' c=some o->jd o=true->W' c=some o) →
   bw K Qn0 H' W' QbN v fp->fp.Nodup->(∀c∈fp,W' c=none/\H c=none)->Q v H'
def agf{ts:Cs}{arg:AT->BB}{pre:AT->Prop}{res:AT->T}(j:∀a,arg a=[.lst QgR])(h:∀a,res a=.sh Qcj)(h0:∀x,IK x=true->CL x≠0->(CL x,NZ x)∈ts) :
  ∀(vs:B1) (H:Hp) (Q:VK) (E:XK),spT K ts 1 arg pre res vs H Q E->RH K CL 1 arg pre res vs H Q E:=by
 rintro vs H Q E ⟨W,a,h1,p,c,o,n,m,k⟩;have b:∀{l:AT} {us:B1},av K Qn0 W Qcx us->av K CL W Qcx us:=by
  intro l
  induction l with
  | nil=>intro us r;cases r;exact .nil
  | cons i l f=>
   intro us r;cases r with
   | cons r t=>cases r;exact .cons Qbr (f t)
 refine⟨W,a,h1,p,?_,o,n,λx g e=>m _ (h0 x g e),λv H' W' fp a1 a2 a3 a4 a5 r nd own=>k v H' W' fp a1 a2 a3 a4 a5 ?_ nd own⟩
 .rw[j]at c ⊢;cases c with
  | cons r t=>
   cases t;obtain⟨_,_,rfl,q,d⟩:=r.gR;exact .cons (.lst q (b d)) .nil
 .rw[h]at r ⊢;replace r:=r.GX;obtain⟨rfl,r⟩:=r;cases r;exact .sh Qd6
theorem agg{ts:Cs}{arg:AT->BB}{pre:AT->Prop}{res:AT->T}{ns:AT}(f:arg ns=[.lst (ns.map D.int)])(b:pre ns)(d:res ns=.sh Qcj)(g:lQ K H a Qcz)(c:∀p∈ts,H p.1=some QcF) :
  spT K ts 1 arg pre res [.ref a] H (λv H'=>v=.bl true/\∀p∈ts,H' p.1=some QcF) λ_ _ _=>False:=
 ⟨H,ns,.refl _,λ_ _ q _=>q,f ▸ .cons (.lst g (N3 ns)) .nil,Wp,b,c,λv H' W' fp e _ _ _ _ r _ _=>by
  refine⟨?_,λp b=>e _ _ (c p b)⟩;rw[d]at r;replace r:=r.GX;obtain⟨rfl,r⟩:=r;exact r.sc rfl⟩
theorem qq:∀{ts:Cs} {b:Addr} {q:Str},ts.lookup b=some q->(b,q)∈ts
 | [],_,_,e=>by cases e
 | (c,x)::r,b,q,e=>by
  rw[k4]at e;cases a:b==c with
  | true=>rw[a]at e;grind
  | false=>rw[a]at e;exact .tail _ (qq e)
def Yd{P:Qah}{w:World}{mb:Bi}{R:Addr}{sp:Sp}{f:Qb}{vs:B2}{ns:AT}{ts:Cs}
  (Z:K.In f.heap) (C:f.heap.Ns mainGlobals mg) (i:f.heap.Ns builtinsNs mb) (M:∀x:Str,x≠"__name__"->mb x=bootBuiltins x) (T:f.heap.NoLimit) (hg:f.gens=#[]) (L:Ez mg f.heap)
  (D:f.heap.get? a=some {cls:=.type "list",data:=.seq vs.toArray}) (hi:IntsAre vs ns) (hl:ns.length<=sizeLine) (hr:eL k callerA)
  (A:∀p∈ts,f.heap.get? p.1=some (tabObj #[])/\ts.lookup p.1=some p.2/\K.lookup p.1=none/\∃c,CodeHd f.heap c p.1)
  (F:∀base:Heap,K.In base->base.Ns mainGlobals mg->Ez mg base->dB P w K mg base oS k R fd [x] sp) (Od:∀(s:Qb) (u:Value),BindsTo s fd ⟨[u],[]⟩ [(x,u)])
  (IC:∀H:Hp,lQ K H a Qcz->(∀p∈ts,H p.1=some QcF)->sp [.ref a] H (λv H'=>v=.bl true/\∀p∈ts,H' p.1=some QcF) λ_ _ _=>False) :
  codeAny Qch callerA QqM Qpe f:=by
 have W:=II hi;have S:=hi.length;have Y:∀p∈ts,p.1≠a:=λp g z=>by
  have:=(A p g).1;rw[z,D]at this;cases this
 have core:∀H:Hp,(∀b,H b=none\/(∃o xs,b=a/\H b=some (.bU o Qbs))\/∃p∈ts,b=p.1/\H b=some QcF)->lQ K H a Qcz->(∀p∈ts,H p.1=some QcF)->sY P w H f.heap->(H a≠none->K.lookup a=none) →
   codeAny Qch callerA QqM Qpe f:=by
  intro H N hS hH ck hK;have B:∀{b:Addr} {o:Obj},f.heap.get? b=some o->o≠{cls:=.type "list",data:=.seq vs.toArray}->o≠tabObj #[]->H b=none:=λ{b o} e d1 d2=>by
   obtain q|⟨_,_,z,_⟩|⟨p,g,z,_⟩:=N b
   .exact q
   .rw[z,D]at e;exact absurd (j2 e).symm d1
   .rw[z,(A p g).1]at e;exact absurd (j2 e).symm d2
  have U:∀{b:Addr} {o:Obj},f.heap.get? b=some o->H b=none->(G5 f.heap H).get? b=some o:=λe n=>aas e n;have l:∀{b:Addr} {m:Bi},f.heap.Ns b m->(G5 f.heap H).Ns b m:=λ{b m} ⟨o,es,ep,e,d,r⟩=>⟨o,es,ep,U e (B e (λz=>by rw[z]at d;cases d) λz=>by rw[z]at d;cases d),d,r⟩;have E:K.In Qjq:=λb o e=>U (Z b o e) (by
   obtain q|⟨_,_,z,q⟩|⟨p,g,z,_⟩:=N b
   .exact q
   .subst z;rw[hK (by rw[q];simp)]at e;cases e
   .rw[z,(A p g).2.2.1]at e;cases e)
  have hM:Mod K mg Qjq:=⟨E,l C,⟨mb,l i,M⟩,let ⟨mc,h1,h2⟩:=T;⟨mc,l h1,h2⟩⟩;have O:Ez mg Qjq:=by
   obtain⟨bm,o,b1,b2,b3,X,b5,b6,G⟩:=L;exact⟨bm,o,b1,b2,b3,U X (B X (λz=>by rw[z]at G;cases G) λz=>by rw[z]at G;cases G),b5,b6,G⟩
  have e0:Rw P w K mg Qjq callerA [] f H:=⟨rfl,hM,λb o e=>afc e,Nat.le_of_eq (Xk _ _),trivial,λb i=>absurd (show b∈([]:BY) from i) Wl,ck,.of_eq hg⟩;refine codeAny_mono ((F _ E (l C) O).run callerA [] f H ⟨[.ref a],[]⟩ [.ref a] [.ref a] _ _ hr e0 (Od f Qag) (.cons rfl .nil) (IC H hS hH)) λr s' h=>?_;cases r with
  | error e=>exact h.elim
  | ok fl=>
   cases fl with
   | next=>exact False.elim h
   | brk=>exact False.elim h
   | cont=>exact False.elim h
   | ret u=>
    obtain⟨v,H',os,bare,un,I,r',q,qt⟩:=h;subst q;obtain rfl:u=Value.bool true:=r';have tabAt:∀p∈ts,∃ps:Ch,s'.heap.get? p.1=some (tabObj ps):=λp g=>by
     obtain⟨ps,e,_⟩:=I _ _ (qt p g);exact⟨ps,e⟩
    have keep:∀b o,f.heap.get? b=some o->(∀p∈ts,b≠p.1)->s'.heap.get? b=some o:=λb o e y=>by
     obtain q|⟨ob,xs,z,q⟩|⟨p,g,z,_⟩:=N b
     .exact un.keep b o e q (by intro z;exact absurd (show b∈([]:BY) from z) Wl) Wl
     .have z2:=un.dz b ob _ q;obtain⟨e1,_⟩:=ck b _ q;obtain⟨e2,_⟩:=I b _ z2;rw[e]at e1;cases e1;exact e2
     .exact absurd z (y p g)
    refine⟨rfl,⟨λb o e=>?_,λb o e=>?_⟩,os,bare⟩
    .by_cases y:∀p∈ts,b≠p.1
     .exact .inl (keep b o e y)
     .obtain⟨p,g,rfl⟩:∃p∈ts,b=p.1:=Classical.byContradiction λq=>y λp g z=>q ⟨p,g,z⟩;obtain⟨h1,_,_,c,hc⟩:=A p g;obtain⟨ps,e2⟩:=tabAt p g;rw[h1]at e;cases e;exact .inr (.inl ⟨(hc.tab h1).isCodeTable,rfl,#[],ps,rfl,by rw[Array.empty_append];exact e2⟩)
    .by_cases y:∀p∈ts,b≠p.1
     .exact⟨o,keep b o e y⟩
     .obtain⟨p,g,rfl⟩:∃p∈ts,b=p.1:=Classical.byContradiction λq=>y λp g z=>q ⟨p,g,z⟩;obtain⟨ps,e2⟩:=tabAt p g;exact⟨_,e2⟩
 have tok:∀{H:Hp} {b:Addr} {q:Str},ts.lookup b=some q->dD P w H f.heap b (.tabs q):=λ{H b q} e=>by
  obtain⟨h1,_⟩:=A (b,q) (qq e);exact⟨#[],h1,trivial,λpos cv z=>by simp[codeAmong]at z⟩
 cases J:K.lookup a with
 | some o=>
  have e:=Z a o J;rw[D]at e;cases e;refine core (λb=>(ts.lookup b).map HO.tabs) (λb=>?_) (.inr ⟨_,vs.toArray,_,J,rfl,rfl,rfl,by rw[List.size_toArray,S];exact hl,by simpa using W⟩) (λp g=>?_) (λb u z=>?_) λz=>?_
  .cases q:List.lookup b ts with
   | none=>left;rfl
   | some t=>right;right;exact⟨(b,t),qq q,rfl,rfl⟩
  .show(ts.lookup p.1).map HO.tabs=_;rw[(A p g).2.1];rfl
  .have j:(ts.lookup b).map HO.tabs=some u:=z;cases q:List.lookup b ts with
   | none=>rw[q]at j;cases j
   | some t=>rw[q]at j;cases j;exact tok q
  .exfalso;apply z;show(ts.lookup a).map HO.tabs=none;cases q:ts.lookup a with
   | none=>rfl
   | some t=>exact absurd rfl (Y (a,t) (qq q))
 | none=>
  refine core (λb=>if b=a then some (.bU {cls:=.type "list",data:=.seq vs.toArray} (.lst Qcz)) else(ts.lookup b).map HO.tabs) (λb=>?_) (.inl (.inr ⟨{cls:=.type "list",data:=.seq vs.toArray},ec rfl⟩)) (λp g=>?_) (λb u z=>?_) λ_=>J
  .by_cases i:b=a
   .exact .inr (.inl ⟨_,_,i,ec i⟩)
   .cases q:List.lookup b ts with
    | none=>left;rw[bS i];rfl
    | some t=>right;right;exact⟨(b,t),qq q,rfl,by rw[bS i];rfl⟩
  .show(if p.1=a then _ else(ts.lookup p.1).map HO.tabs)=_;rw[bS (Y p g),(A p g).2.1];rfl
  .by_cases i:b=a
   .have j:=(ec i).symm.trans z;cases j;subst i;exact⟨D,by rw[cq];exact hl,vs,_,W,D⟩
   .have j:(ts.lookup b).map HO.tabs=some u:=(bS i).symm.trans z;cases q:List.lookup b ts with
    | none=>rw[q]at j;cases j
    | some t=>rw[q]at j;cases j;exact tok q
def abP{l:Qnt}{q:Qah}{loose:At}{XP:Qnc}{B:QmA}{d:DefRec}{K:Params->Frag}{sp:World->Cs->Sp}{T0:BY}
  (hn:QoG) (m:n<=sizeLine) (t:QmI) (L:eL k callerA)
  (O:∀(w:World) (h:Heap),B w h->(K w.params).In h) (R:∀(w:World) (h:Heap),B w h->∀P∈T0,h.get? P=some (tabObj #[]))
  (F:∀(w:World) (mg:Bi) (j:Addr) (h:Heap),(K w.params).In h->h.Ns mainGlobals mg->mg d.name=some (.ref j) →
   ∃(fd:QaN) (ts:Cs),(∀p∈ts,p.1∈T0/\ts.lookup p.1=some p.2/\(K w.params).lookup p.1=none/\∃c,CodeHd h c p.1)/\(∀(s:Qb) (u:Value),BindsTo s fd ⟨[u],[]⟩ [(x,u)]) ∧
    ∀base:Heap,(K w.params).In base->base.Ns mainGlobals mg->Ez mg base->dB l.prog w QjA mg base oS k j fd [x] (sp w ts))
  (IC:∀(w:World) (ts:Cs) (H:Hp) (a:Addr) (ns:AT),ns.length<=n->lQ QjA H a Qcz->(∀p∈ts,H p.1=some QcF)->sp w ts [.ref a] H (λv H'=>v=.bl true/\∀p∈ts,H' p.1=some QcF) λ_ _ _=>False) :
  PySem.W.WalkO q loose XP B l.row.toRowW d [] Qlv:=by
 refine Att.NS hn t λw hO C mg mb j o pm cd doc a vs ns G Y ho hd iO r A hints hlen M=>?_;have E:=O w _ Y;obtain⟨fd,ts,i,N,U⟩:=F w mg j _ E G.T.g r;obtain⟨bm,I,b1,b2,b3,Z,X,z⟩:=G.T.bmain;have y:bm≠mainGlobals:=λq=>by
  obtain⟨o,es,ep,e,hd,_⟩:=G.T.g;rw[q,e]at b3;cases b3;rw[hd]at z;cases z
 exact Yd E G.T.g G.T.b G.T.builtins G.T.nolimit M ⟨bm,I,b1,b2,y,b3,Z,X,z⟩ A hints (jq hlen m) L (λp D=>⟨R w _ Y _ (i p D).1,(i p D).2⟩) U N λH S J=>IC w ts H a ns hlen S J
noncomputable def as7(y:Int):Value->Bool
 | .int i _=>i==y
 | _=>false
theorem abQ:IH X "list.index" (λx xs H Q=>∃(p:Addr) (l:AT) (y:Int) (j:Nat),x=.ref p/\xs=[.int y]/\lQ X.K H p Qcx/\l[j]? = some y/\(∀i,i<j->l[i]? ≠ some y)/\Q (.int (j:Int)) H):=by
 intro pins s Y H x xs v us Q I g rs h;obtain⟨p,l,y,j,rfl,rfl,B,c,D,q⟩:=h;cases g;obtain⟨u,rfl,o⟩:=rs.one;obtain⟨t,rfl⟩:=o;obtain⟨its,r,⟨⟨oc,od,A,IB⟩,n,e,d,hd,hs⟩,hz⟩:=I.list B;dsimp only at d hd hs;subst d hd hs;have hi:=intsAre_of r;have at':∀{i:Nat} (hi:i<its.toArray.size),∃k t,its.toArray[i]=.int k t/\l[i]? = some k:=λ{i} a=>by
  have C:i<its.length:=by simpa using a
  have hl:i<l.length:=by have:=r.length;rw[cq]at this;lia
  obtain⟨u,e1,e2⟩:=r.get (i:=i) (x:=.int l[i]) Wl;obtain⟨t,rfl⟩:=e2;simp_all
 have f:j<its.toArray.size:=by
  have h1:=(ko.1 c).1;have:=r.length;rw[cq]at this;simp;lia
 have hsz:its.toArray.size<=sizeLine:=by
  have:=r.length;rw[nq,<- this];exact hz
 refine rg F.slot_list_index ⟨_,e,rfl⟩ F.entry_list_index (F.args_list_index_2 _ _) (SeqAt.list_indexAt p its.toArray n none IB (.int y t) (as7 y) j f (by rw[kA]at hsz;lia) ?hit λm hm b=>?no) ⟨e,λw hw=>?eqs,?_⟩
 case hit=>
  obtain⟨k,t',e1,e2⟩:=at' f;rw[e1];rw[c]at e2;cases e2;exact wy y
 case no=>
  obtain⟨k,t',e1,e2⟩:=at' hm;rw[e1];exact oy.2 λz=>D m b (by rw[e2,z])
 case eqs=>
  obtain⟨i,a,rfl⟩:=Array.mem_iff_getElem.1 hw;obtain⟨k,t',e1,e2⟩:=at' a;rw[e1];exact SeqAt.EqAt.int_int k t' y t
 exact⟨.int (j:Int),H,I.tok _,⟨_,rfl⟩,q⟩
variable{o:Expr}{apos:Pos}
def abR{l:AT}{y:Int}{j:Nat}(h1:cL X CL b o U QiW δ1)(s:cL X CL b e δ1 (.int y) U2)(r:l[j]? = some y)(w:∀i,i<j->l[i]? ≠ some y)
  (t:attributeBase o "index" X.env QnL=eval o X.env:=by rfl) (m:((backTo pos QtU).all Qnv&&(backToKw pos Ql9).all Qmb
   && decide (([e]:Cl).length+([]:List Keyword).length+QkS<30))=true:=by rfl)
  (c:QrV:=by rfl) (hs:QaA:=by exact bz rfl) (d:(backTo pos Qt4).any (·.1)=false:=by rfl) :
  bR X CL b (.Call (.Attribute o "index" apos) [e] [] pos) U (.sh (.int (j:Int))) U2:=λH Z Y ts vs Q S k=>
 bY (IG F.plainAttrs_list F.slot_list_index F.type_list_index abQ cA QaY t m c hs d) (h1 H Z Y ts vs _ S λv1 H1 Z1 h k1 v q=>by
  obtain⟨a,us,rfl,f,n⟩:=q.gR;have:=AQ n;subst this;refine⟨?_,s H1 Z1 Y ts vs _ v λv2 H2 Z2 g k2 u p=>?_⟩
  .exact .inl ⟨rfl,_,f⟩
  .cases p;exact⟨a,l,y,j,rfl,rfl,k2.seq f,r,w,k _ H2 Z2 QdZ Qaf (u.push Qbu)⟩)
theorem VH(r:eL k A):A.depth<recursionLimit:=by
 have:=r.dp;lia
variable{y:Str}
def abS(sc:QfJ)(F:QaU)(h:cL X CL b iter U QbX δ1)(cl:∀d∈ds,(g d).clean=true)(inner:Block X CL scope Nc ifs elt (zb δ1 ix) ds p g)(hlen:QbL)
  (hs:Qco:=by intro _;rfl) (n1:AD y:=by decide) (n2:AE y:=by decide):bR X CL b QpA U QfX δ1:=λH Z Y ts vs Q S k pins s I=>by
 rw[eval_ListComp];refine y2 (use:=none) rfl hs (kY (Fn sc) I) sc.kind sc.names ?_;have hw:=(Vd (tg:=.Name y px) (cA (X:=X) (e:=iter))) pins s Y H (λJ H1=>∃Z1 us,ay Z Z1/\ay H H1/\aV X.K CL b H1 Z1 δ1 Y ts vs/\av X.K CL H1 ds us/\(∀i H2,ay H1 H2->i<ds.length->J.go i H2)/\(∀i H2 x H',ay H1 H2->i<ds.length->J.n3 i H2 x H'->H'=H2/\us[i]? = some x)/\∀H2,ay H1 H2->J.stop ds.length H2) I (h H Z Y ts vs _ S λv H1 Z1 n k1 f r=>by
  obtain⟨a,us,rfl,l,c⟩:=r.gR;refine⟨a,rfl,⟨us,l⟩,Z1,us,n,k1,f,c,λi H2 s hi=>?_,λi H2 y H' s hi j=>⟨j.1,j.2 us (s.seq l)⟩,λH2 s=>⟨us,s.seq l,by rw[c.length];exact hI _⟩⟩;have w:i<us.length:=by rw[<- c.length];exact hi
  exact⟨us,us[i],s.seq l,by simp[w]⟩)
 refine dF hw λv s1 h1=>dF h1 λC s2 zz=>?_;obtain⟨it,fp,tn,J,H1,e,N,G,st,hf,Z1,us,n,k1,f,c,go,A,u⟩:=zz;subst e;have t:∀i Z2 H2 x H',ay H1 Z2->ay Z2 H2->(∀a o,H2 a=some o->jd o=true->Z2 a=some o)->i<ds.length->J.n3 i H2 x H'->∃Z3 d,ds[i]? = some d/\Kn Z2 H2 Z3 H'/\bC X.K CL Z3 d x:=λi Z2 H2 x H' s1 s2 tp hi j=>by
  obtain⟨e,E⟩:=A i H2 x H' (s1.trans s2) hi j;subst e;obtain⟨d,hd,rd⟩:=c.XM E;exact⟨Z2,d,hd,.refl s2 tp,rd.mono s1⟩
 refine Eo (xs:=[y]) (Fn sc) F N G st hf (xx (W1:=H1) f f.zh QA QtJ (zc f ix) (KA sc inner n1 n2) go t u hlen (.inr cl)) λD P s' H' m io O ch ci zz=>?_;obtain⟨Z',z,B,L⟩:=zz;obtain⟨m,hn⟩:=m;exact⟨m,hn,λh' M=>⟨.ref D,H',ci h' M,rfl,k _ H' Z' (n.trans z) (k1.trans B) L⟩⟩
noncomputable def NY(lo c:Int)(n:Nat):It:=⟨λi _=>i<n,λi H x H'=>H'=H/\x=.int (lo+i*c),λi _=>n<=i⟩
theorem Ye{P:Qah}{w:World}{tg:Expr}(it:Addr)(lo c:Int)(n:Nat):Turn P w K tg (NY lo c n) [it] it (λi h=>IsRangeIter h it (lo+(i:Nat)*c) ((n:Int)-(i:Nat)) c) where
 mem:=hU.2 rfl
 obj:=λi h st b a=>by
  cases hU.1 a;exact⟨_,st,λv z=>by
   have q:Data.fields _=Data.cell v:=z;cases q⟩
 keep:=λi h h' st k=>k it Qog _ st
 item:=by
  intro X g hw j f i pins s Y H E I hf st d;subst g hw j;obtain⟨f0,f1,f2,m,f4,l⟩:=hf it Qog;have W:=Walks.range (prog:=X.prog) (w:=X.w) (I.ok.hd f) it lo c n;refine W.item i s _ _ d st λv h' tk hv p kk=>?_;obtain⟨t,rfl⟩:=hv;have u:Inv X pins Y H {s with heap:=h',toks:=tk}:=I.turned (λb o a e=>kk b o (by simpa using a) e) f0 f1 m f4 l;exact⟨_,rfl,DV (s:={s with heap:=h',toks:=tk}) (n:="range_iterator") p rfl rfl Wk ⟨.int (lo+i*c),H,u,⟨t,rfl⟩,⟨rfl,rfl⟩,p,λb a=>(hf b a).1⟩⟩
 done:=by
  intro X g hw j f i pins s Y H E I hf st d;subst g hw j;obtain⟨f0,f1,f2,m,f4,l⟩:=hf it Qog;exact wpAny_pyNext_range_end (I.ok.hd f) st (by have:n<=i:=d;lia) λh' r=>⟨rfl,I.turned (t':=s.toks) (λb o a e=>r b o a e) f0 f1 m f4 l⟩
 self:=λ_ _ _ _ _ st h=>wpAny_pyIter_rangeiter st h
noncomputable def qV(lo hi:Int):Nat:=((hi-lo+1) / 2).toNat
theorem step_size{lo hi:Int}(h0:0<=lo)(h1:lo<=1000)(b:0<=hi)(a:hi<=1000):Builtin.Range.rangeSize lo hi 2=(qV lo hi:Int)/\Builtin.Range.small lo hi 2=true:=by
 have e:Builtin.Range.rangeSize lo hi 2=(qV lo hi:Int):=by
  unfold Builtin.Range.rangeSize qV;simp only[show(2:Int) > 0 by decide,if_true];split<;>lia
 refine⟨e,?_⟩;unfold Builtin.Range.small;rw[e];unfold qV;simp only[Builtin.Range.rangeFitsLong,kx,Bool.or_eq_true,pE,p3,show(2:Int) > 0 by decide,if_true];lia
variable{tg:Expr}
def apt(ta:TA):TI:=λY H R=>ta Y H λvs H1=>∃i j:Int,vs=[.int i,.int j,.int 2]/\(0<=i/\i<=1000/\0<=j/\j<=1000)/\R (NY i 2 (qV i j)) H1
theorem Yg{a b c:Expr}{ta:TA}{p:Pos}(y:QjI)(hm:Qi1)(A:PA X [a,b,c] ta)(hs:starEach [a,b,c] X.env=[(false,eval a X.env),(false,eval b X.env),(false,eval c X.env)]:=by rfl)(m:AR X b c:=by rfl) :
  PI X tg (.Call Quk [a,b,c] [] pos) (apt ta):=by
 intro pins s Y H R I h;refine Call_ (mX I y hm boot_range (tJ (dF (A pos pins s Y H _ I h) λus s1 ⟨vs,H1,B,n,q1⟩=>?_) (by rw[hs,m]) (by rw[m];rfl)));obtain⟨i,j,e,⟨q1,x,w,v⟩,q⟩:=q1;subst e;cases n with
 | cons r d=>
  cases d with
  | cons u d=>
   cases d with
   | cons g d=>
    cases d;obtain⟨t,rfl⟩:=r;obtain⟨t',rfl⟩:=u;obtain⟨f,rfl⟩:=g;obtain⟨hn,k⟩:=step_size q1 x w v;refine call_range_3 Wk ?_ (.inl (PyProof.noPylong_small Wk));refine wpAny_pyIter_range (IsRange.new ..) k ?_;have l:=B.kept (t':=s1.toks) (h':=s1.heap.push {cls:=.type "range",data:=.fields #[.int i t,.int j t',.int 2 f]}) λb o e=>ia _ e;refine⟨_,[_],_,_,H1,rfl,l.kept (t':=s1.toks) λb o e=>ia _ e,Ye _ i 2 (qV i j),?_,λb z=>?_,q⟩
    .have e1:i+((0:Nat):Int)*2=i:=by lia
     have e2:((qV i j:Nat):Int)-((0:Nat):Int)=Builtin.Range.rangeSize i j 2:=by rw[hn];lia
     show IsRangeIter _ _ (i+((0:Nat):Int)*2) (((qV i j:Nat):Int)-((0:Nat):Int)) 2;rw[e1,e2];exact jj _ rfl
    .cases hU.1 z;exact l.Av (hI _) (l.ck.fresh (hI _))
noncomputable def wC(lo:Int)(n:Nat):BB:=(List.range n).map λ(i:Nat)=>D.int (lo+i*2)
variable{e1 e3:Expr}{pr:Pos}
def abT(lo:Int)(n:Nat):av K CL Z (wC lo n) ((List.range n).map λ(i:Nat)=>V.int (lo+i*2)):=by
 unfold wC;generalize List.range n=l
 induction l with
 | nil=>exact .nil
 | cons i r a=>exact .cons Qbu a
def Yh{m n:Int}(hm:Qi1)(h:mM X CL b [e1,e2,e3] U [.int m,.int n,.int 2] δ1)(hn:0<=m/\m<=1000/\0<=n/\n<=1000)(o:QjI)
  (l:starEach [e1,e2,e3] X.env=[(false,eval e1 X.env),(false,eval e2 X.env),(false,eval e3 X.env)]:=by rfl) (a:AR X e2 e3:=by rfl) :
  oT X CL b tg (.Call QtY [e1,e2,e3] [] pc) U (wC m (qV m n)) δ1:=by
 refine⟨_,Yg o hm J6 l a,λH Z Y ts vs R S k=>h H Z Y ts vs _ S λe H1 Z1 d k1 p r=>?_⟩;cases r with
 | cons j r=>
  cases r with
  | cons g r=>
   cases r with
   | cons f r=>
    cases r;rw[j.sc rfl,g.sc rfl,f.sc rfl];refine⟨m,n,rfl,hn,k _ _ ⟨Z1,_,d,k1,p,abT m (qV m n),λi H2 s hi=>?_,λi H2 y H' s hi c=>?_,λH2 s=>?_⟩⟩
    .show i<qV m n;rw[wC,cq,kr]at hi;exact hi
    .rw[wC,cq,kr]at hi;refine⟨c.1,?_⟩;rw[ib,ue hi,c.2];rfl
    .show qV m n<=(wC m (qV m n)).length;rw[wC,cq,kr];exact hI _
def apu(K:Frag):R2:=λx y H Q=>∃a b xs ys,x=.ref a/\y=.ref b/\qh K H a xs/\qh K H b ys/\ys≠[]/\xs.length+ys.length<=sizeLine ∧
 (xs=[]->Q Qfh H)/\(xs≠[]->∀p,H p=none->Q Qbl Qsq)
def agh:yS X QeM (apu X.K):=by
 intro pins s Y H x y v u Q I i g h;obtain⟨a,b,xs,ys,rfl,rfl,m,l,t,hz,q1,r⟩:=h;by_cases d:xs=[]
 .subst d;cases i;cases g;obtain⟨its,q,p1,_⟩:=I.tuple m;obtain⟨A,z,p2,_⟩:=I.tuple l;cases q;obtain⟨⟨cls,dd,data,sl⟩,j,k,n,hd⟩:=id p1;obtain⟨⟨w,f,data2,c⟩,o,p,n2,hd2⟩:=id p2;simp only at k hd p hd2;subst k hd p hd2;exact concat_meets ⟨_,j,rfl⟩ ⟨_,o,rfl⟩ noFill_tuple_add seq_tuple_add aBa aA2 (aAW _ _)
   (tuple_addW0 a b _ _ n n2 dd f sl c rfl) ⟨j,o,⟨.ref b,H,I,rfl,q1 rfl⟩⟩
 .exact Vl pins s Y H _ _ v u Q I i g ⟨a,b,xs,ys,rfl,rfl,m,l,d,hz,λe=>absurd e t,λ_=>r d⟩
theorem kZ(h1:Qh2)(r:Qlb)(n2:Ao≠[])(hz:Qf0) :
  bR X CL b QdD U Qmm U2:=λH Z Y ts vs Q S k=>
 bY (DX agh cA cA) (h1 H Z Y ts vs _ S λv1 H1 Z1 h k1 u=>r H1 Z1 Y _ _ _ u λv2 H2 Z2 g k2 d=>by
  have i:=d.tO;have o:=d.pop.tO;have e:=i;obtain⟨_,_,rfl,v,m⟩:=o.lS;obtain⟨_,_,rfl,f,j⟩:=i.lS;have e1:=m.length;have e2:=j.length;refine⟨_,_,_,_,rfl,rfl,ay.Dn d.zh v,ay.Dn d.zh f,λz=>n2 (y3 (by rw[e2,z];rfl)),We,λz=>?_,λ_ p q=>?_⟩
  .have:ds=[]:=y3 (by rw[e1,z];rfl);subst this;exact k _ _ _ QdZ Qaf (d.pop.pop.push e)
  .have rc:=av.app m j;obtain⟨a,c,t⟩:=(aV.kU rc d.pop.pop).AF (by simp[rc.length,e1,e2]) q;obtain⟨s,n,l⟩:=t.AA;rw[T.bU,g6]at l;exact k _ _ s (h.trans (g.trans (a.trans n))) Qf7 l)
def abU(h1:QsJ)(m:bR X CL b e2 δ1 (.sh (.lst Ao)) U2)(hz:Qf0) :
  bR X CL b QdD U Qr9 U2:=λH Z Y ts vs Q S k=>
 bY (DX Vx cA cA) (h1 H Z Y ts vs _ S λv1 H1 Z1 h k1 o=>m H1 Z1 Y _ _ _ o λv2 H2 Z2 g k2 a=>by
  have i:=a.tO;have j:=a.pop.tO;obtain⟨_,_,rfl,q,f⟩:=j.gR;obtain⟨_,_,rfl,d,e⟩:=i.gR;refine⟨_,_,_,_,rfl,rfl,a.zh.seq q,a.zh.seq d,by rw[<- f.length,<- e.length];exact hz,λp l=>?_⟩;have rc:=av.app f e;obtain⟨c,n⟩:=(aV.kU rc a.pop.pop).jU (g0:=[]) (by simp[rc.length,f.length,e.length]) l;exact k _ _ _ QdZ Qf7 n)
def alE(h:Qds)(he:∀whole,isTrue e X.env whole=(do let v ← whole;standAt e.pos;holding [v] Qg1):=by intro _;rfl):sN X CL b e U (!ds.isEmpty) δ1:=λH Z Y ts vs Q S k=>
 y9 (aaB cA he) (h H Z Y ts vs _ S λv H1 Z1 c k1 g r=>by
  obtain⟨a,us,rfl,f,d⟩:=r.gR;refine⟨_,.inl ⟨us,f,rfl⟩,?_⟩;have e:us.isEmpty=ds.isEmpty:=by
   have:=d.length;cases us<;>cases ds<;>simp at this ⊢
  rw[e];exact k H1 Z1 c k1 g)
def nT(ks:CI):D:=.tup Qoy
def zo(ks:CI):T:=.tup ((ks.map AU).map T.sh)
noncomputable def oY{α:Type}(kvs:QoM)(k:CI):Option α:=(kvs.find? λa=>decide Qhi).map (·.2)
def zq{α:Type}{p:QgL}{r:QoM}{k:CI}(e:p.1=k):oY (p::r) k=some p.2:=by simp[oY,e]
def zu{α:Type}{p:QgL}{r:QoM}{k:CI}(e:¬ p.1=k):oY (p::r) k=oY r k:=by simp[oY,e]
theorem vX.tr{b:Addr}{kvs:B0}{k:CI}(e:Rd H a Qda)(c:Qol):vX H a Qfh Qj6:=.inr ⟨kvs,k,b,e,rfl,c,rfl⟩
variable{d:D}
theorem Yi{ks:CI}(r:aN K CL H Z ((ks.map AU).map T.sh) us fp):us=ks.map kV:=by
 induction ks generalizing us fp with
 | nil=>cases r;rfl
 | cons k ks b=>
  rw[ik,ik]at r;cases r with
  | cons r a=>
   replace r:=r.GX;obtain⟨rfl,r⟩:=r;rw[r.key,b a,ik]
theorem dN.length{kvs:EM}{gs:B0}(h:dN K CL Z kvs gs):kvs.length=gs.length:=
 dN.ind (P:=λkvs gs=>kvs.length=gs.length) rfl (λ_ _ i=>congrArg (· + 1) i) h
theorem dN.val{k:CI}{kvs:EM}{gs:B0}(h:dN K CL Z kvs gs):(oY kvs k=none/\jc gs k=none)\/∃d v,oY kvs k=some d/\jc gs k=some v/\bC K CL Z d v:=
 dN.ind (P:=λkvs gs=>(oY kvs k=none/\jc gs k=none)\/∃d v,oY kvs k=some d/\jc gs k=some v/\bC K CL Z d v) (.inl ⟨rfl,rfl⟩) (λ{x d v _ _} r _ i=>by
  by_cases e:x=k
  .exact .inr ⟨d,v,zq e,mY e,r⟩
  .rw[zu (p:=(x,d)) e,kT (p:=(x,v)) e];exact i) h
theorem cy.length{kvs:CC}{gs:B0}(h:QfK):kvs.length=gs.length:=
 cy.ind (P:=λkvs gs _=>kvs.length=gs.length) rfl (λ_ _ i=>congrArg (· + 1) i) h
theorem cy.keys{kvs:CC}{gs:B0}(h:QfK):kvs.map (·.1)=gs.map (·.1):=
 cy.ind (P:=λkvs gs _=>kvs.map (·.1)=gs.map (·.1)) rfl (λ{x _ _ _ _ _ _} _ _ i=>congrArg (x::·) i) h
theorem cy.snoc{k:CI}{kvs:CC}{gs:B0}{a:BY}(h:QfK)(q:bw K CL H Z t v a):cy K CL H Z Qjk Qor (fp++(a++[])):=
 cy.ind (P:=λkvs gs fp=>cy K CL H Z Qjk Qor (fp++(a++[]))) (by rw[rr,rr,rr];exact .cons q .nil) (λr _ i=>by
  rw[h5];exact .cons r i) h
theorem cy.at{k:CI}{kvs:CC}{gs:B0}(h:QfK)(d:oY kvs k=some t)(nd:(kvs.map (·.1)).Nodup) :
  ∃v f1 f2 c,jc gs k=some v/\fp=f1++Qhf/\bw K CL H Z t v f2 ∧
   ∀{H':Hp} {t':T} {g:BY},(∀a∈f1++c,H' a=H a)->bw K CL H' Z t' v g->cy K CL H' Z Qpv gs QjJ:=by
 refine cy.ind (P:=λkvs gs fp=>oY kvs k=some t->(kvs.map (·.1)).Nodup->∃v f1 f2 c,jc gs k=some v/\fp=f1++Qhf/\bw K CL H Z t v f2 ∧
   ∀{H':Hp} {t':T} {g:BY},(∀a∈f1++c,H' a=H a)->bw K CL H' Z t' v g->cy K CL H' Z Qpv gs QjJ) (λe=>by cases e) (λ{x t0 v0 ts vs fp gp} r m i d nd=>?_) h d nd
 rw[ik,kn]at nd;by_cases e:x=k
 .subst e;rw[zq (p:=(x,t0)) rfl]at d;cases d;refine⟨v0,[],fp,gp,mY rfl,rfl,r,λ{H' t' g} j q=>?_⟩;have keep:(ts.map λb=>if b.1=x then(b.1,t') else b)=ts:=by
   have:∀b∈ts,(if b.1=x then(b.1,t') else b)=b:=λb l=>bS λ(e:b.1=x)=>nd.1 (by
    show x∈ts.map (·.1);rw[<- e];exact hP.2 ⟨b,l,rfl⟩)
   exact(ow this).trans (List.map_id _)
  rw[ik,ec rfl,keep];exact(show cy K CL H' Z ((x,t')::ts) ((x,v0)::vs) (g++gp) from .cons q (m.mono QA λa f=>j a f))
 .rw[zu (p:=(x,t0)) e]at d;obtain⟨v,f1,f2,c,h1,s,o,n⟩:=i d nd.2;refine⟨v,fp++f1,f2,c,by rw[kT (p:=(x,v0)) e];exact h1,by rw[s,h5],o,λ{H' t' g} j q=>?_⟩;rw[ik,bS e,h5];exact .cons (r.mono QA λa f=>j a (by simp[f])) (n (λa f=>j a (by rw[h5];exact hV _ f)) q)
theorem aV.alF{p:Addr}(S:Qar)(d:Qdq):ay H QiL/\aV K CL b QiL Z U Y (.dct []::ts) Qe6:=by
 obtain⟨fp,gp,e,r,nd,k⟩:=S.rep;have f:Z p=none:=S.zh.free d;have sh:ay H QiL:=ay.upd d;have keep:∀a∈fp++gp,a≠p:=λa c=>by
  have:∃o,H a=some o:=by
   obtain h|h:=hG.1 c
   .exact e.there a h
   .exact r.there a h
  obtain⟨o,q⟩:=this;exact aJ q d
 refine⟨sh,⟨⟨fp,[p]++gp,e.mono QA Qep,.cons (.dct aA .nil) (r.mono QA λa c=>aq (keep a (by simp[c]))),?_,λa c=>?_⟩,S.bh.trans sh,S.zz,S.zh.trans sh,S.new,λa o q i=>?_,S.tab⟩⟩
 .refine(pw (l₁:=fp) (l₂:=gp) (a:=p)).nodup_iff.2 QhE
 .rcases fF.1 ((pw (l₁:=fp) (l₂:=gp) (a:=p)).mem_iff.1 c) with h|h
  .subst h;exact⟨f,S.bh.free d⟩
  .exact k a h
 .by_cases c:a=p
  .subst c;rw[aA]at q;cases q;cases i
  .rw[aq c]at q;exact S.tp a o q i
theorem aV.R4{ks:CI}(S:aV K CL b H Z U Y (zo ks::ts) QaT):∃a,v=.ref a/\H a=some Qo3:=by
 obtain⟨fp,gp,e,r,nd,k⟩:=S.rep;cases r with
 | cons r _=>
  obtain⟨_,_,rfl,hz,c⟩:=r.lS;exact⟨_,rfl,by rw[<- Yi c];exact S.zh _ _ hz⟩
variable{d:L3.D}{kvs:QiU}{k:CI}
def Oe:bR X CL b QeI U (.dct []) U:=λH Z Y ts vs Q S kk=>bY aaX λp a=>by
 obtain⟨c,d⟩:=S.alF a;exact kk _ _ Z QA c d
def abV(k:CI)(q:QaQ)(h1:QsP)(n:QsA)(e:Qjw)(hs:G7 e2:=by exactλ_ _=>rfl):cL X CL b QbU U d U2:=λH Z Y ts vs Q S kk=>
 bY QnQ (h1 H Z Y ts vs _ S λv H1 Z1 h k1 o j=>n H1 Z1 Y ts vs _ o λv2 H2 Z2 g k2 f=>by
  obtain⟨p,rfl,l⟩:=f.R4;cases j with
  | @dct a gs _ m i=>
   have c:=i.mono k2;rcases c.val (k:=k) with⟨h0,_⟩|⟨d',v',h0,hv,rd⟩
   .rw[e]at h0;cases h0
   .rw[e]at h0;cases h0;refine⟨a,v',rfl,?_,kk v' H2 Z2 QdZ Qaf f.pop rd⟩;rw[<- hv];exact vX.tr (Rd.mono k2 m) l)
def abW(k:CI)(o:QaQ)(h1:Qru)(l:QsA)(e:Qjw)(hs:G7 e2:=by exactλ_ _=>rfl):bR X CL b QbU U QaR U2:=λH Z Y ts vs Q S kk=>
 bY QnQ (h1 H Z Y ts vs _ S λv H1 Z1 g k1 m=>l H1 Z1 Y _ _ _ m λv2 H2 Z2 f k2 c=>by
  obtain⟨n,rfl,i⟩:=c.R4;have r:=c.pop.tO;cases r with
  | @dct a gs _ j h=>
   rcases h.val (k:=k) with⟨h0,_⟩|⟨d',v',h0,hv,rd⟩
   .rw[e]at h0;cases h0
   .rw[e]at h0;cases h0;refine⟨a,v',rfl,?_,kk v' H2 Z2 QgU Qaf (c.pop.pop.push rd)⟩;rw[<- hv];exact vX.tr (Rd.mono c.zh j) i)
def alG(h:cL X CL b e1 U .non δ1):sN X CL b QkV U true δ1/\bR X CL b QkV U (.sh Qcj) δ1:=by
 constructor
 .exactλH Z Y ts vs Q S k=>y9 (DT (Rj cA)) (h H Z Y ts vs _ S λv H1 Z1 a k1 c r=>by
   cases r;exact⟨_,rfl,by simpa using k H1 Z1 a k1 c⟩)
 .exactλH Z Y ts vs Q S k=>bY (aj9 (Rj cA)) (h H Z Y ts vs _ S λv H1 Z1 a k1 c r=>by
   cases r;exact by simpa using k _ H1 Z1 a k1 (c.push Qcj))
def R5:∀{tl:Bn} {us:B1} {g:BY},aN K CL H Z (tl++[t]) us g->∃b u g1 g2,us=b++[u]/\g=g1++g2/\aN K CL H Z tl b g1/\bw K CL H Z t u g2:=by
 intro tl
 induction tl with
 | nil=>
  intro _ _ h;cases h with
  | cons r a=>
   cases a;exact⟨[],_,[],_,rfl,hX _,.nil,r⟩
 | cons _ _ e=>
  intro _ _ h;cases h with
  | cons r a=>
   obtain⟨b,u,g1,g2,e1,e2,d,c⟩:=e a;subst e1 e2;exact⟨_,u,_,g2,rfl,(h5 ..).symm,.cons r d,c⟩
theorem aV.agi(S:Qar)(hi:U[i]? = some QfZ) :
  ∃a us u,Y[i]? = some Qof/\H a=some (.lst (us++[u]))/\aV K CL b (upd H a Qe7) Z (U.set i QdY) Y Qb4 (u::vs):=by
 obtain⟨fp,gp,e,r,nd,k⟩:=S.rep;obtain⟨v0,f1,f2,f,hv,n,rt,put,_⟩:=e.get hi;subst n;obtain⟨a,us,g,rfl,rfl,m,rs⟩:=rt.gR;obtain⟨l,u,g1,g2,e1,e2,p,o⟩:=R5 rs;subst e1 e2;have ne:∀c∈(f1++(QcI++f))++gp,c≠a:=λc d e=>by
  subst e;have j:((f1++((c::QcI)++f))++gp).Perm (c::((f1++(QcI++f))++gp)):=by
   rw[l7,<- l7];exact(pw.append_right _)
  exact(kn.1 (j.nodup_iff.1 nd)).1 d
 refine⟨a,l,u,hv,m,?_⟩;have q1:bw K CL (upd H a (.lst l)) Z QeD Qag (a::g1):=.lst aA (p.mono QA λc d=>aq (ne c (by simp[d])));have e2:=put (H':=upd H a (.lst l)) QA (λc d=>aq (ne c (by
  obtain h|h:=hG.1 d
  .simp[h]
  .simp[h]))) q1
 rw[iI hv]at e2;have j:((f1++((a::g1)++f))++(g2++gp)).Perm ((f1++((a::QcI)++f))++gp):=by
  simp only[l7,h5];refine o9 f1 (List.Perm.cons a (o9 g1 ?_));rw[<- h5,<- h5];exact l8.append_right gp
 exact S.write nd k (gF) ⟨_,m⟩ e2 (.cons (o.mono QA λc d=>aq (ne c (by simp[d]))) (r.mono QA λc d=>aq (ne c (by simp[d])))) (j.nodup_iff.2 nd) λc d=>j.mem_iff.1 d
section
variable{D:cY}{pa:Pos}
def alH(n:QaW)(h:U[i]? = some QfZ)(e:attributeBase QaO "pop" X.env Qux=eval QaO X.env:=by rfl)(c:(pa.endLine==pos.line)=true:=by rfl) :
  R0 X CL b (.Call (.Attribute QaO "pop" pa) [] [] pos) U t (U.set i QdY):=λH Z Y ts vs Q S k=>
 bY (akK y8 PySem.F.slot_list_pop PySem.F.type_list_pop akM Qet e c) (by
  obtain⟨a,us,u,hv,d,f⟩:=S.agi h;refine⟨_,hv,.inl ⟨rfl,_,.inl (.inl d)⟩,?_⟩;refine⟨a,us++[u],u,rfl,rfl,d,Wl,?_⟩;rw[List.dropLast_concat];exact k u _ Z QA f)
def Pt(h:U[i]? = some QaM)(q:t.bU=d)(k:cG X CL b dO Qgy D):cG X CL b dO U D:=λH Z Y ts vs E S M=>by
 subst q;obtain⟨v,Z',_,z,a⟩:=S.Vq h;exact k H Z' Y ts vs E a.pop (M.mono z)
def abX:yS X QeM (λx y H Q=>∃a b ys,x=.ref a/\y=.ref b/\qh X.K H a []/\qh X.K H b ys/\Q Qfh H):=by
 intro pins s Y H x y v u Q I k j h;obtain⟨a,b,ys,rfl,rfl,o,m,q⟩:=h;cases k;cases j;obtain⟨its,l,p1,_⟩:=I.tuple o;obtain⟨r,t,p2,_⟩:=I.tuple m;have e1:=l.Dm.2 rfl;subst e1;obtain⟨⟨cls,dd,data,sl⟩,e,f,n,hd⟩:=id p1;obtain⟨⟨p,d,data2,c⟩,g,i,n2,hd2⟩:=id p2;simp only at f hd i hd2;subst f hd i hd2;exact concat_meets ⟨_,e,rfl⟩ ⟨_,g,rfl⟩ noFill_tuple_add seq_tuple_add aBa aA2 (aAW _ _)
   (tuple_addW0 a b #[] r.toArray n n2 dd d sl c rfl) ⟨e,g,.ref b,H,I,rfl,q⟩
def Og(h1:Qh2)(g:Qlb)(n2:Ao≠[])(hz:Qf0) :
  bR X CL b QdD U Qmm U2:=by
 cases ds with
 | cons d ds=>exact abH h1 g Qs1 n2 hz
 | nil=>
   intro H Z Y ts vs Q S k;exact bY (DX abX cA cA) (h1 H Z Y ts vs _ S λv1 H1 Z1 i k1 l=>g H1 Z1 Y _ _ _ l λv2 H2 Z2 h k2 a=>by
    have f:=a.tO;have j:=a.pop.tO;obtain⟨_,_,rfl,m,n⟩:=j.lS;cases n;have c:=f;obtain⟨_,_,rfl,e,o⟩:=f.lS;exact⟨_,_,_,rfl,rfl,ay.Dn a.zh m,ay.Dn a.zh e,k _ _ Z2 QjQ Qaf (a.pop.pop.push c)⟩)
def R6:tE X Qny (λxs H Q=>∃a kvs,xs=[.ref a]/\Rd H a Qbt/\∀p,H p=none->Q Qbl (upd H p Qbt)):=by
 intro pins s Y H xs us Q I r h;obtain⟨a,kvs,rfl,d,q⟩:=h;obtain⟨u,rfl,b⟩:=vals1 r;cases b;exact aaY I d λp s' c e=>⟨.ref p,_,e,rfl,q p c⟩
theorem aV.agj{p:Addr}{kvs:QmW}(S:Qar)(g:Qgx)(d:Qdq):ay H QmX/\aV K CL b QmX Z U Y (.iC kvs::ts) Qe6:=by
 obtain⟨fp,gp,e,r,nd,k⟩:=S.rep;have f:Z p=none:=S.zh.free d;have sh:ay H QmX:=ay.upd d;have keep:∀a∈fp++gp,a≠p:=λa c=>by
  have:∃o,H a=some o:=by
   obtain h|h:=hG.1 c
   .exact e.there a h
   .exact r.there a h
  obtain⟨o,q⟩:=this;exact aJ q d
 refine⟨sh,⟨⟨fp,[p]++gp,e.mono QA Qep,.cons (.iC aA g) (r.mono QA λa c=>aq (keep a (by simp[c]))),?_,λa c=>?_⟩,S.bh.trans sh,S.zz,S.zh.trans sh,S.new,λa o q i=>?_,S.tab⟩⟩
 .refine(pw (l₁:=fp) (l₂:=gp) (a:=p)).nodup_iff.2 QhE
 .rcases fF.1 ((pw (l₁:=fp) (l₂:=gp) (a:=p)).mem_iff.1 c) with h|h
  .subst h;exact⟨f,S.bh.free d⟩
  .exact k a h
 .by_cases h:a=p
  .subst h;rw[aA]at q;cases q;cases i
  .rw[aq h]at q;exact S.tp a o q i
def R7:bootBuiltins "dict" = some Qny:=by decide +kernel
def abY{kvs:QmW}(hm:X.mg "dict" = none)(h:bR X CL b e U (.sh Qc7) δ1)(j:Gl X "dict")(hs:QaA:=by exact bz rfl):bR X CL b (.Call (.Name "dict" pp) [e] [] pos) U Qc7 δ1:=λH Z Y ts vs Q S k=>
 bY (mP R6 j hm R7 QaY (he:=hs)) (h H Z Y ts vs _ S λv H1 Z1 f k1 d=>by
  have r:=d.tO;cases r with
  | @iC a gs _ l g=>
   refine⟨a,gs,rfl,.inl (d.zh _ _ l),λp i=>?_⟩;obtain⟨c,m⟩:=d.pop.agj g i;exact k _ _ _ f Qcf m)
end
end L3
namespace L2
open PySem PySem.Spec PyProof.Rows
noncomputable abbrev VL:B2:=[.type "ValueError",.type "Exception",.type "BaseException",.type "object"]
def fh(fr:D2)(h h':Heap):Prop:=∀b∈sV fr,∀o,h.get? b=some o->∃sl,h'.get? b=some {o with slots:=sl}
def Jb(P:Qah)(w:World):r4:=λouter H s E ev s'=>∃(e C:Addr) (a0:Value) (B:Heap) (H':Hp),ev=.ref e/\s'.os=s.os/\AllBare s'.gens/\Heap.FlyingW B outer e Qan a0 s'.heap/\sY P w H' B ∧
 (∀h,s'.heap.UpToSlots h->B.StaysIn h->fh outer s.heap h->Un (sV outer) [] H H' s.heap h)/\fh outer s.heap s'.heap/\E Qan none H'
def XE(X:Cx)(W:XK):Value->Shared->Prop:=λev s'=>∃(e C:Addr) (pins:BC) (Y:St) (H H':Hp) (s:Qb),ev=.ref e/\Inv X pins Y H s/\W Qan none H'/\s'.os=s.os/\AllBare s'.gens ∧
 (H=H'/\Heap.MadeExcOf s.heap s'.heap e Qan []\/∃a0 B,(sY X.prog X.w H' B/\(∀h,s'.heap.UpToSlots h->B.StaysIn h->fh X.stack s.heap h->Un Qbz [] H H' s.heap h)/\fh X.stack s.heap s'.heap) ∧
  (Heap.HeldW B X.stack e Qan a0 X.env.locals s'.heap\/Heap.FlyingW B X.stack e Qan a0 s'.heap))
section
variable{X:Cx}{pins:BC}{Y:St}{H:Hp}{s:Qb}
theorem fh.up{fr:D2}{h h1 g base:Heap}(a:fh fr h h1)(f:h1.FunFrames base fr)(u:h1.UpToSlots g):fh fr h g:=λb d o j=>by
 obtain⟨sl,e⟩:=a b d o j;obtain⟨_,o',i,hd⟩:=f.mem d;rw[e]at i;cases i;obtain⟨c,e2⟩:=u b _ e hd;exact⟨c,e2⟩
def agk{h base:Heap}{env:Env}{l outer:D2}(e:l=env::outer)(f:h.FunFrames base l):h.FunFrames base outer:=by
 subst e;exact f.2.2
theorem Inv.YP(I:QE):sY X.prog X.w H Ql5:=λa o e=>by
 refine(I.ck a o e).yQ (λb u c q=>xb _ q λhm=>?_) (λb q=>q) (λb xs q=>q);have hn:=I.Dj b hm;simp_all
theorem Inv.Zp(I:QE):s.heap.FunFrames Ql5 X.stack:=PySem.W.funFrames_hide I.stack λenv he a b=>List.mem_filterMap.2 ⟨env,he,b⟩
theorem Inv.alI(I:QE)(g:Qge)(j:QfY)(hex:X.ex=[])(h:Heap)(st:Qrj)(fr:fh X.outer X.hO.heap h):Un (sV X.outer) [] X.ip H X.hO.heap h:=by
 have u:=I.base;rw[hex]at u;have out:∀b o,X.hO.heap.get? b=some o->b∉sV _->b∉sV X.stack:=λb o a hn hm=>by
  rw[g]at hm;unfold sV at hm;rw[me,j]at hm;obtain z|z:=fF.1 hm
  .have h1:=h9 a;have f:=I.ok.above;rw[<- z]at f;exact absurd h1 (Nat.not_lt.2 f)
  .exact hn z
 refine⟨λb o a d hf c=>?_,λb o a d hf c=>fr b hf o a,u.free,λb o a c=>?_,u.CZ,u.dz,u.C1⟩
 .exact st b o (xb _ (u.keep b o a d hf c) (out b o a hf))
 .obtain⟨o',i⟩:=u.there b o a c;by_cases hf:b∈sV X.outer
  .obtain⟨sl,e⟩:=fr b hf o a;exact⟨_,e⟩
  .exact⟨o',st b o' (xb _ i (out b o a hf))⟩
theorem Inv.Oh(I:QE)(hex:X.ex=[]):fh X.outer X.hO.heap s.heap:=λb a o c=>I.base.slot b o c (I.ok.og b a) a Wp
theorem Inv.alJ(I:QE)(h:Heap)(st:Qrj)(fr:fh X.stack s.heap h):Un Qbz [] H H s.heap h:=by
 refine⟨λb o a d hf c=>st b o (xb _ a hf),λb o a d hf c=>fr b hf o a,λb o _ q _=>q,λb o a c=>?_,λb xs q=>q,λb o u q=>q,λb ps q=>⟨#[],by rw[Array.append_empty];exact q⟩⟩;by_cases hf:b∈sV X.stack
 .obtain⟨sl,e⟩:=fr b hf o a;exact⟨_,e⟩
 .exact⟨o,st b o (xb _ a hf)⟩
theorem Zl{W:XK}{ev:Value}{s':Qb}{F:BN}(c:Qge)(j:QfY)(hex:X.ex=[])(m:X.fs=sV X.outer)(h:XE X W ev s') :
  wpAny Qr X.A (leaving X.env ev) (λ_ k=>Jb X.prog X.w X.outer X.ip X.hO W ev k) F s':=by
 obtain⟨e,C,pins,Y,H,H',s,rfl,I,hw,E,p,hm⟩:=h;have g:X.A.frames=some Qi3:=by rw[I.ok.frames,c]
 have r:=E.trans I.os;have sub:∀b,b∈sV X.outer->b∈sV X.stack:=λb a=>by
  rw[c];unfold sV at a ⊢;simp_all
 obtain⟨rfl,hm⟩|⟨a0,B,⟨ck,un,fr⟩,hm⟩:=hm
 .have n:=I.Zp;rw[c]at n;refine wpAny_leaves_madeW (base:=hideAll s.heap Qbz) g j (λb o q=>G2 _ q) Wp hm λh' t x K G v=>?_;refine⟨e,C,.ref t,_,H,rfl,r,p,x,I.YP,λh _=>I.alI c j hex h,?_,hw⟩;have f1:fh _ _ s'.heap:=λb a o l=>by
   obtain⟨sl,q⟩:=I.Oh hex b a o l;exact⟨sl,hm.keeps _ _ q⟩
  have f2:=(I.xh).of_keeps λb o a _=>⟨o,hm.keeps b o a,rfl⟩;exact f1.up f2 v
 .have fin:∀(h1:Heap),Heap.FlyingW B X.outer e Qan a0 h1->s'.heap.UpToSlots h1->s'.heap.FunFrames B X.stack->Jb X.prog X.w X.outer X.ip X.hO W Qb2 {s' with heap:=h1}:=λh1 i d f=>by
   refine⟨e,C,a0,B,H',rfl,r,p,i,ck,λh u st f0=>?_,?_,hw⟩
   .have J:=I.SI (s':={s with heap:=h}) rfl (un h QjR st (fr.up f QjR)) (ck.kept st) I.bare λb z=>absurd z iu;have:=J.base;rw[hex,m]at this;exact this
   .have f1:fh X.outer X.hO.heap s'.heap:=λb a o l=>by
     obtain⟨sl,q⟩:=I.Oh hex b a o l;obtain⟨y,L⟩:=fr b (sub b a) _ q;simp_all
    exact f1.up (agk c f) d
  obtain hm|hm:=hm
  .have f:=hm.2.2.1;rw[c]at hm;refine cz (wpAny_noteFrame_againW j hm.2.2.2 ?_);refine wpAny_landsW hm λh' i d=>?_;obtain⟨k1,k2,⟨_,_,k3⟩,D⟩:=i;exact fin h' ⟨k1,k2,k3,D⟩ d f
  .have f:=hm.2.2.1;rw[c]at hm;exact wpAny_leaves_onW g j hm λh' i d=>fin h' i d f
theorem ab2{M:Model}{A:Qaq}{E:BN}{base:Heap}{l:D2}{env:Env}{e L:Addr}{cls a0 fl:Value}{Q:Qmn}(hf:env.frame=some L)
  (m:base.StaysIn s.heap) (n:base.get? e=none) (hl:s.heap.FunFrames base l) (v:s.heap.TracedAtW base e cls a0 fl)
  (h:∀h',Heap.HeldW base l e cls a0 L h'->s.heap.UpToSlots h'->Q () {s with heap:=h'}) :
  wpAny M A (do
   if (← field Qb2 1) == .none then unsupported "frame.own-activation:exception-without-traceback"
   setFlight Qb2 env.frame) Q E s:=by
 obtain⟨u,vs,T,x,ts,he,r,hd,h1,k,g,t,f,w⟩:=v;have i:=(Array.getElem?_eq_some_iff.1 w).1;have c:∀b,b≠T->(s.heap.update T (Obj.mapFields (·.setIfInBounds 3 (rawInt L)))).get? b=s.heap.get? b:=λb d=>wq _ _ (la d);have j:∀b o,s.heap.get? b=some o->(∀vs,o.data ≠ .fields vs)->b≠T:=λb o d a q=>by simp_all
 refine cz (G3 he hd h1 ?_);refine cz (G3 he hd h1 ?_);rw[hf];refine y0 t f i (h _ ⟨λb o p=>(c b λq=>by grind).trans (m b o p),n,hl.of_keeps λb o d a=>⟨o,(c b (j b o d a)).trans d,rfl⟩,?_⟩ λb o d a=>⟨ _,(c b (j b o d a)).trans d⟩);exact⟨u,vs,T,_,_,(c e (la g)).trans he,r,hd,h1,k,g,uj _ t (Obj.isFreed_of_fields (w4 f _)),w4 f _,by simp[i]⟩
theorem zx{W:XK}(a:Qge)(j:QfY):PassesOwn Qr X.A X.env (XE X W):=λev s' h=>by
 obtain⟨e,C,pins,Y,H,H',s,rfl,I,hw,r,D,hm⟩:=h;have f:X.A.frames=some Qi3:=by rw[I.ok.frames,a]
 have back:∀{a0:Value} {B:Heap} {s2:Qb},s2.os=s'.os->s2.gens=s'.gens->sY X.prog X.w H' B->(∀h,s2.heap.UpToSlots h->B.StaysIn h->fh X.stack s.heap h->Un Qbz [] H H' s.heap h)->fh X.stack s.heap s2.heap->Heap.HeldW B X.stack e Qan a0 X.env.locals s2.heap->cameBackBy Qr X.A X.env (XE X W) Qb2 s2:=λ{a0 B s2} p g2 ck un fs k=>by
  obtain⟨k1,k2,k3,l⟩:=k;refine ab2 j k1 k2 k3 l λh' n d=>?_;exact⟨e,C,pins,Y,H,H',s,rfl,I,hw,p.trans r,WA,.inr ⟨a0,B,⟨ck,λh u=>un h QjR,fs.up k3 d⟩,.inl n⟩⟩
 obtain⟨rfl,hm⟩|⟨a0,B,⟨ck,un,fr⟩,hm⟩:=hm
 .have i:=I.Zp;rw[a]at i;obtain⟨t,he,q,z⟩:=hm.there;have fresh:∀b,s.heap.get? b=none->(hideAll s.heap Qbz).get? b=none:=λb g=>by
   cases m:(hideAll s.heap Qbz).get? b with
   | none=>rfl
   | some o'=>have:=G2 _ m;grind
  have c:s'.heap.FunFrames Ql5 Qi3:=a▸i.of_keeps λb o g _=>⟨o,hm.keeps b o g,rfl⟩;unfold notedBy noteFrame;simp only[j];refine cz (G3 (x:=.none) he rfl rfl ?_);refine wpAny_entryW f c j he (λb o g=>hm.keeps b o (G2 _ g)) (fresh e hm.new) rfl (show 1<6 by decide) rfl λh' v=>?_;obtain⟨k1,k2,k3,l⟩:=v;rw[<- a]at k2;have f1:fh X.stack s.heap s'.heap:=λb g o m=>⟨o.slots,hm.keeps _ _ m⟩;rw[<- a]at c;exact back rfl rfl I.YP (λh _=>I.alJ h) (f1.up c l) ⟨k1,fresh e hm.new,k2,k3⟩
 .obtain hm|hm:=hm
  .unfold notedBy;exact wpAny_noteFrame_againW j hm.2.2.2 (back rfl rfl ck un fr hm)
  .unfold notedBy;have y:=hm.2.2.1;rw[a]at hm;refine wpAny_looks_onW f j hm λh' k d=>?_;rw[<- a]at k;exact back rfl rfl ck (λh u=>un h QjR) (fr.up y d) k
structure KD(K:Frag)(C:Addr):Prop where
 ex:∃nm q N bs bm hdct sn sub ab col dd k0 k1 k2 k3 k5,K.lookup C=some (excClassObj nm q C N bs bm hdct sn sub ab col dd k0 k1 k2 k3 k5 "ValueError.__new__")/\nsOkIn K N=true/\nsIn K N "__init__" = some none/\tailIn K VL bm=true
def Yj{W:XK}{x:Str}{C:Addr}{np xo pos:Pos}{D:Ends}(a:QaU)(h:Qaz)(hm:X.mg x=some Qan)(O:KD X.K C)(hw:W Qan none H)(hd:AD x:=by decide) :
  L3.XO Qby (.Raise (some (.Call (.Name x np) [] [] xo)) none pos) D Y H:=λpins s I=>by
 have J:=I.jb;obtain⟨nm,q,N,bs,bm,hdct,sn,sub,ab,col,dd,k0,k1,k2,k3,k5,f,b,d,c⟩:=O.ex;have tl:=PySem.W.tail_of_in J.Au c;refine wpAny_Raise_call_subT (nm:=nm) (q:=q) (N:=N) (bs:=bs) (k0:=k0) (k1:=k1) (k2:=k2) (k3:=k3) (k5:=k5) (dd:=dd) (col:=col) (ab:=ab) (sub:=sub) (sn:=sn) (hdct:=hdct) PySem.F.excBase_ValueError (tl.hasType PySem.F.excBase_ValueError.hasBase) (J.ok.hd a) rfl (PySem.W.nsMap_none_of_in J.Au b d) (qJ I h hm ⟨rfl,?_⟩ hd);exact evalArgs_empty ⟨rfl,hY _,J.Au _ _ f,.of_isNs (PySem.W.isNs_of_in J.Au b),tl,λh' e g=>⟨e,C,pins,Y,H,H,s,rfl,J,hw,rfl,J.bare,.inl ⟨rfl,g⟩⟩⟩
structure Lies(X:Cx)(pins:BC)(Y:St)(H:Hp)(s:Qb)(H':Hp)(e C:Addr)(a0:Value)(B:Heap)(s':Qb):Prop where
 inv:Inv X pins Y H s
 os:s'.os=s.os
 bare:AllBare s'.gens
 vy:Heap.FlyingW B X.stack e Qan a0 s'.heap
 ck:sY X.prog X.w H' B
 un:∀h,s'.heap.UpToSlots h->B.StaysIn h->fh X.stack s.heap h->Un Qbz [] H H' s.heap h
 fr:fh X.stack s.heap s'.heap
variable{H':Hp}{e C:Addr}{a0:Value}{B:Heap}{s':Qb}
theorem Lies.now(L:QhL):Inv X pins Y H' s':=L.inv.SI L.os (L.un _ (λb o q _=>⟨o.slots,q⟩) L.vy.1 L.fr) (L.ck.kept L.vy.1) L.bare λb z=>absurd z iu
theorem Lies.move(L:QhL){h':Heap}{t':Nat}(hf:Heap.FlyingW B X.stack e Qan a0 h')(u:s'.heap.UpToSlots h'):Lies X pins Y H s H' e C a0 B {s' with heap:=h',toks:=t'}:=
 ⟨L.inv,L.os,L.bare,hf,L.ck,λh v=>L.un h (u.trans v),L.fr.up L.vy.2.2.1 u⟩
noncomputable abbrev Cx.hand(X:Cx)(e:Addr):Cx:={X with A:=X.A.mark (some Qb2),calm:=false}
theorem Inv.hand(I:QE)(e:Addr):Inv QoN pins Y H s:=
 ⟨⟨I.ok.mod,I.ok.kind,I.ok.glob,I.ok.blt,I.ok.above,I.ok.inj,I.ok.has,I.ok.tI,(λh=>by cases h),I.ok.frames,I.ok.vr,I.ok.Ak,I.ok.bs,I.ok.mu,I.ok.Rh,I.ok.Xl,I.ok.xh,I.ok.og⟩,I.os,I.bare,I.base,I.loc,I.cell,I.free,I.kR,I.pin,I.ck,I.len⟩
theorem Inv.KG(ok:X.Ok)(I:Inv QoN pins Y H s):Inv X pins Y H s:=⟨ok,I.os,I.bare,I.base,I.loc,I.cell,I.free,I.kR,I.pin,I.ck,I.len⟩
abbrev _root_.ET:=List ExceptHandler
def as9{Q:Qmp}{E:BN}{hs:ET}(d:Qge)(l:QfY)(L:QhL)
  (k:∀s3,Lies X pins Y H s H' e C a0 B s3->wpAny Qr X.A QlG Q E s3) :
  wpAny Qr X.A (noteFrame Qb2 X.env) (λ_ b=>wpAny Qr X.A (setFlight Qb2 none) (λ_ a=>wpAny Qr X.A QlG Q E a) E b) E s':=by
 have g:X.A.frames=some Qi3:=by rw[L.inv.ok.frames,d]
 have h:=L.vy;rw[d]at h;refine wpAny_looks_onW g l h λn f j=>wpAny_landsW f λm c i=>k _ ?_;rw[<- d]at c;exact L.move c (j.trans i)
def Po{Q:Qmp}{E:BN}{x:Str}{Dd:Addr}{np pos:Pos}{b₀:Stmt}{suite:CA}{rest:ET}{m:Bool}(L:QhL)(f:Qaz)(hm:X.mg x=some Qfd)
  (d:exmOne X.K Qan Qfd=some m)
  (k:if m then ∀s4,Lies X pins Y H s H' e C a0 B s4->wpAny Qr (X.hand e).A (execs (b₀::suite) X.env) Q Qbj s4 else ∀s4,Lies X pins Y H s H' e C a0 B s4->wpAny Qr X.A (handleBy Qb2 X.env rest) Q E s4)
  (hd:AD x:=by decide) :
  wpAny Qr X.A (handleBy Qb2 X.env QkM) Q E s':=by
 have I:=L.now;obtain⟨h,g,a⟩:=L.vy.there;have LT:PySem.W.Looks Qr s'.heap (typeOf Qb2) Qan:=a▸(PySem.W.Looks.ld g).andThen .now;refine wpAny_handleBy_cons (codeAny_handlers_test (qJ (I.hand e) f hm ?_ hd)) (λq=>by cases q);refine(PySem.W.exm_one I.Au LT d).here ?_;cases m with
 | false=>exact k s' L
 | true=>
  refine codeAny_handlers_suite (lands_againW L.vy λi b c=>?_);exact i8 (k _ (L.move b c)) (λ_ _ z=>z) λ_ _ z=>z.elim
end
variable{X:Cx}
noncomputable abbrev Cx.pinned(X:Cx)(p:BC):Cx:={X with pn:=X.pn++p}
theorem Cx.Ok.pinned(ok:X.Ok)(p:BC):(X.pinned p).Ok:=⟨ok.mod,ok.kind,ok.glob,ok.blt,ok.above,ok.inj,ok.has,ok.tI,ok.hd,ok.frames,ok.vr,ok.Ak,ok.bs,ok.mu,ok.Rh,ok.Xl,ok.xh,ok.og⟩
variable{s:Qb}
theorem Inv.apy{pins:BC}{Y:St}{H:Hp}(I:QE):Inv (X.pinned pins) [] Y H s:=
 ⟨I.ok.pinned pins,I.os,I.bare,I.base,I.loc,I.cell,I.free,I.kR,(λp a=>I.pin p (by rw[hX]at a;exact a)),I.ck,I.len⟩
theorem Inv.alL{pins p2:BC}{Y:St}{H:Hp}(ok:X.Ok)(I:Inv (X.pinned pins) p2 Y H s):Inv X pins Y H s:=
 ⟨ok,I.os,I.bare,I.base,I.loc,I.cell,I.free,I.kR,(λp a=>I.pin p Qkz),I.ck,I.len⟩
end L2
namespace L3
open PySem PySem.Spec PyProof.Rows L2
def dX(b:Bx)(E:XK)(C:Addr):Prop:=∀H' Z':Hp,ay b.B H'->ay b.Z Z'->ay Z' H'->(∀a o,Z' a=some o->b.Z a=none->b.B a=none)->(∀a o,H' a=some o->jd o=true->Z' a=some o)->E Qan none H'
variable{A:Type}
def sk(K:Frag)(CL:BM)(n:Nat)(arg:Qap)(Pre:Qae)(exc:QcP):Sp:=λvs H _ E=>
 ∃(W:Hp) (a:A),ay W H/\(∀c o,H c=some o->jd o=true->W c=some o)/\av K CL W Qce vs/\(arg a).length=n/\Pre a/\m5 CL W/\dX ⟨H,W⟩ E QdX
section
variable{X:Cx}{CL:BM}{b:Bx}{U δ1 U2:BA}{e:Expr}{es:Cl}{dO:CA}{D:cY}{x c:Str}{i:Nat}{pos pp:Pos}{W:XK}
def VN{np xo:Pos}(d:QaU)(a:Gl X c)(hm:X.mg c=some QgJ)(O:KD X.K (CL c))(e:dX b W (CL c))(hd:AD c:=by decide) :
  cG Qby CL b (.Raise (some (.Call (.Name c np) [] [] xo)) none pos::dO) U D:=bK λH Z Y ts vs E S M=>
 Yj d a hm O (e H Z S.bh S.zz S.zh S.new S.tp) hd
theorem R8{P:Qah}{w:World}{K:Frag}{mg:Bi}{base:Heap}{qual:Str}{st:Stmt}{f:Addr}{fd:QaN}{N ps:At}{k:Nat}{arg:Qap}{Pre:Qae}{exc:QcP}(F:Qdm)(S:Qdn)
  (l:∀(d7:Value) (d:Qaq) (outer:D2) (s:Qb) (H:Hp) (E:XK) (b:Bx) (a:A),eL k (d.deeper QfO)->Pre a->dX b E QdX →
   cG ((tF Qfp P w K mg base N qual Qa7 f d7 d outer s H E).hu (XE (tF Qfp P w K mg base N qual Qa7 f d7 d outer s H E) E)) CL b QbE Qgv {nx:=λ_=>False,rt:=λ_ _=>False}) :
  dB P w K mg base Qfp Qao f fd ps (sk K CL ps.length arg Pre exc):=by
 obtain⟨dV,oc,od,kV,doc,pm,an,d7,ct,IB,rfl,lk,iO⟩:=F.ex;refine Vj lk iO S (λvs H Q E h=>?_) λd outer s H vs Q E g h=>?_
 .obtain⟨W,a,_,_,r,hl,_⟩:=h;rw[<- r.length];exact hl
 .obtain⟨W,a,e,tp,r,hl,i,tb,m⟩:=h;have h0:e9 K CL H W Qgv Qok []:=by
   unfold entry L2.start;rw[<- r.length];exact jV _ r
  have h1:∀c o,W c=some o->W c=none->H c=none:=λc o q z=>by grind
  have body:=l d7 d outer s H E _ a g i m H W _ [] [] {nx:=λ_ _=>False,rt:=λ_ _=>False} ⟨⟨[],[],h0,.nil,lr,λc j=>by cases j⟩,.refl _,.refl _,e,h1,tp,tb⟩ ⟨λ_ _ _ _ _ _ z=>z.elim,λ_ _ _ _ _ _ _ _ z=>z.elim,λ_ _ _ _ _ _ z=>z.elim,λ_ _ _ _ _ _ z=>z.elim⟩;refine⟨ _,XQ,λpins s1 I=>?_⟩;refine i8 QsQ (λfl s' z=>?_) λev s' z=>Zl rfl rfl rfl rfl z;cases fl with
  | next=>obtain⟨_,_,_,q⟩:=z;exact q.elim
  | brk=>obtain⟨_,_,_,q⟩:=z;exact q.elim
  | cont=>obtain⟨_,_,_,q⟩:=z;exact q.elim
  | ret u=>obtain⟨_,_,_,_,_,q⟩:=z;exact q.elim
structure r3(X:Cx)(CL:BM)(x:Str)(k n:Nat){A:Type}(arg:Qap)(Pre:Qae)(exc:QcP):Prop where
 ex:∃f fd ps,dB X.prog X.w X.K X.mg X.base Qgc k f fd ps Qsd/\X.mg x=some Qaj/\keepIn X.K Qaj=true/\Binds X.K fd ps []
 room:eL k X.A
def KH(X:Cx)(CL:BM)(b:Bx)(Z:Hp)(δ1:BA)(ts:Bn)(vs:B1)(C:Addr)(ev:Value)(s':Qb):Prop:=
 ∃(e:Addr) (a0:Value) (B:Heap) (pins:BC) (Y:L2.St) (H:Hp) (s:Qb) (H' Z':Hp),ev=.ref e/\Lies X pins Y H s H' e C a0 B s'/\ay Z Z'/\aV X.K CL b H' Z' δ1 Y ts vs
def HI(X:Cx)(CL:BM)(b:Bx)(e:Expr)(U:BA)(c:Str)(δ1:BA):Prop:=
 ∀(H Z:Hp) (Y:L2.St) (ts:Bn) (vs:B1),aV X.K CL b H Z U Y ts vs->sX Qn1 e Y H λ_ _=>False
def TRs(X:Cx)(CL:BM)(b:Bx)(st:CA)(U:BA)(c:Str)(δ1:BA):Prop:=
 ∀(H Z:Hp) (Y:L2.St) (ts:Bn) (vs:B1) (D:Ends),aV X.K CL b H Z U Y ts vs->GJ Qn1 st D Y H
def Yk{H:Hp}{Y:L2.St}{Q:EO}{E:BN}(a:Qgi)(h:G8 X es Y H Q):G8 Qkv es Y H Q:=λpos pins s I=>
 i8 (h pos pins s I.jb) (λus s' ⟨vs,H',b,r,q⟩=>⟨vs,H',b.hu E,r,q⟩) λev s' z=>by rw[a]at z;exact z.elim
theorem aV.grown{K:Frag}{H H' Z W W':Hp}{Y:L2.St}{ts:Bn}{vs:B1}(S:Qar)(e:QcM)(c:ay Z W)(ww:ay W W')(d:ay W' H')(new:∀a o,W' a=some o->W a=none->H a=none)
  (tp:∀a o,H' a=some o->jd o=true->W' a=some o):∃Z',ay Z Z'/\aV K CL b H' Z' U Y ts vs:=by
 obtain⟨Z',z,g⟩:=S.back e c ww d new tp QoK lr (λa f=>by cases f) QaI;exact⟨Z',z,g.pop⟩
def alN{k n:Nat}{arg:Qap}{Pre:Qae}{exc:QcP}(a:A)(N:Qgi)(F:QlW)(T:Qaz)(h:QfV)(O:Pre a)(hn:QcO:=by rfl)
  (w:AD x:=by decide) (he:Qaw:=by exact bz rfl) (hpl:QaK:=by rfl) :
  HI X CL b QbW U (exc a) δ1:=λH Z Y ts vs S pins s I=>by
 obtain⟨f,fd,ps,m,hm,P,V⟩:=F.ex;have hA:G8 X Qav Y H λus H1=>∃Z1,ay Z Z1/\aV X.K CL b H1 Z1 δ1 Y ts vs/\av X.K CL H1 Qce us:=h H Z Y ts vs _ S λus H1 Z1 j k1 g r=>⟨Z1,j,g,r⟩;refine pf (qJ I T hm ?_ w);refine G1 (h₀:=X.base) I.ok.mod.o6 P (dF (Yk N hA pos pins s I) λus s1 ⟨ws,H1,i,r,Z1,j,g,z⟩=>⟨i.Au,?_⟩) he hpl
 let E0:XK:=λcv _ H'=>cv=.ref QdX/\∃Z',ay Z Z'/\aV X.K CL b H' Z' δ1 Y ts vs
 have l:sk X.K CL n arg Pre exc ws H1 Qbj E0:=⟨H1,a,.refl _,λ_ _ q _=>q,z,hn,O,g.N1,λH' Z' R ww t nw tp=>⟨rfl,by
  obtain⟨Z2,o,S2⟩:=g.grown R g.zh ww t nw tp;exact⟨Z2,j.trans o,S2⟩⟩⟩
 have hl:us.length=ps.length:=by rw[<- r.length];exact m.len _ _ _ _ l
 have d:=V s1 us i.Au (by rw[hX];exact hl);rw[hX]at d;refine wpAny_call (codeAny_mono (m.run X.A X.stack s1 H1 ⟨us,[]⟩ us ws Qbj E0 F.room i.jb.Lo d r l) λy s' c=>?_);cases y with
 | error ev=>
  obtain⟨e1,C,a0,B,H',rfl,M,L,J,G,E,D,W,Z',p,S'⟩:=c;cases W;exact⟨e1,a0,B,pins,Y,H1,s1,H',Z',rfl,⟨i.jb,M,L,J,G,E,D⟩,p,S'⟩
 | ok fl=>
  cases fl with
  | ret u=>
   obtain⟨v,H',_,_,_,_,_,q⟩:=c;exact q.elim
  | next=>exact False.elim c
  | brk=>exact False.elim c
  | cont=>exact False.elim c
theorem HI.any{H Z:Hp}{Y:L2.St}{ts:Bn}{vs:B1}{Q:VK}(h:Qu5)(S:Qf5):sX Qn1 e Y H Q:=λpins s I=>
 i8 (h H Z Y ts vs S pins s I) (λ_ _ ⟨_,_,_,_,q⟩=>q.elim) λ_ _ z=>z
def apz{pos':Pos}(nd:Qbm)(n:Qba)(h:Qu5)(hs:Qdx:=by rfl):TRs X CL b QhK U c δ1:=λH Z Y ts vs D S=>
 Ll (Nz NN XQ) (mZ (Rk (X:=X.hu Qpa) nd n.hi n.loc cA hs n.hf) (h.any S))
theorem Vn.pin{p:BC}(h:QaW):Vn Qe4 i x:=⟨h.hi,h.hv,h.hd,h.iO⟩
theorem r3.pin{p:BC}{k n:Nat}{arg:Qap}{Pre:Qae}{exc:QcP}(F:QlW):r3 Qe4 CL x k n arg Pre exc:=⟨F.ex,F.room⟩
inductive Yl(X:Cx)(CL:BM)(c:Str):ET->CA->Prop
 | hit {x:Str} {Dd:Addr} {np pos:Pos} {b₀:Stmt} {suite:CA} {rest:ET}:Gl X x->X.mg x=some Qfd->exmOne X.K QgJ Qfd=some true->Qh9=false->Yl X CL c QkM (b₀::suite)
 | miss {x:Str} {Dd:Addr} {np pos:Pos} {b₀:Stmt} {suite st:CA} {rest:ET}:Gl X x->X.mg x=some Qfd->exmOne X.K QgJ Qfd=some false->Qh9=false->Yl X CL c rest st->Yl X CL c QkM st
theorem Yl.run{Q:Qmp}{E:BN}{hs:ET}{st:CA}{pins p:BC}{Y:L2.St}{H H':Hp}{s s':Qb}{e:Addr}{a0:Value}{B:Heap}(h:Yl X CL c hs st)(L:Lies Qe4 pins Y H s H' e (CL c) a0 B s')
  (k:∀s4,Lies Qe4 pins Y H s H' e (CL c) a0 B s4->wpAny Qr (X.hand e).A Qnf Q Qbj s4):wpAny Qr X.A QlG Q E s':=by
 induction h generalizing s' with
 | hit h1 d b a=>exact Po (X:=X.pinned p) L h1 d b k a
 | miss h1 d b a _ f=>exact Po (X:=X.pinned p) L h1 d b (λs4 g=>f g k) a
theorem alO{body:CA}{h0:ExceptHandler}{hs:ET}{st:CA}(j:Qge)(t:QfY)(l:Qgi)(r:∀p,TRs Qe4 CL b body U c δ1)(m:Yl X CL c (h0::hs) st)
  (k:∀e,cG QoN CL b st δ1 {D with nx:=λU2=>cG X CL b dO U2 D}):cG X CL b Qrk U D:=bK λH Z Y ts vs E S M pins s I=>by
 refine wpAny_Try_except (i8 (r pins H Z Y ts vs {nx:=λ_ _=>False,rt:=λ_ _=>False} S [] s (I.apy.hu _)) (λf s1 z=>?_) λev s1 z=>?_)
 .cases f with
  | next=>obtain⟨_,_,_,q⟩:=z;exact q.elim
  | brk=>obtain⟨_,_,_,q⟩:=z;exact q.elim
  | cont=>obtain⟨_,_,_,q⟩:=z;exact q.elim
  | ret u=>obtain⟨_,_,_,_,_,q⟩:=z;exact q.elim
 .obtain⟨e,a0,B,w,Y',H1,s0,H',Z',rfl,L,h,n⟩:=z;refine as9 (X:=X.pinned pins) j t L λs3 L3=>m.run L3 λs4 o=>?_;have J:=(o.now.alL I.ok).hand e;refine i8 (k e H' Z' Y' ts vs E n (M.mono h) pins s4 J) (λf s5 z=>?_) λ_ _ z=>by grind
  cases f with
  | next=>obtain⟨a,g,d,q⟩:=z;exact⟨a,g,d.KG I.ok,q⟩
  | brk=>obtain⟨a,g,d,q⟩:=z;exact⟨a,g,d.KG I.ok,q⟩
  | cont=>obtain⟨a,g,d,q⟩:=z;exact⟨a,g,d.KG I.ok,q⟩
  | ret u=>obtain⟨v,a,g,d,i,q⟩:=z;exact⟨v,a,g,d.KG I.ok,i,q⟩
theorem alP{body:CA}{h0:ExceptHandler}{hs:ET}(a:Qgi)(h:cG X CL b body U {D with nx:=λU2=>cG X CL b dO U2 D}):cG X CL b Qrk U D:=bK λH Z Y ts vs E S M pins s I=>by
 refine wpAny_Try_except (i8 (h H Z Y ts vs E S M pins s I) (λf s1 z=>?_) λev s1 z=>by rw[a]at z;exact z.elim);cases f with
 | next=>exact wpAny_execs_nil z
 | brk=>exact z
 | cont=>exact z
 | ret u=>exact z
end
end L3
namespace L2
open PySem PySem.Spec PyProof.Rows
structure Y2(K:Frag)(D:Addr):Prop where
 ga:findIn K Qfm "__getattribute__" = some (some (.builtin "BaseException.__getattribute__"))
 gn:findIn K Qfm "__getattr__" = some none
 hd:hasDictIn K D=true
 fi:findIn K Qfm "__class__" = some (some Qlk)
 sp:PySem.W.specialIn K Qlk "__get__" = some (some (.builtin "getset_descriptor.__get__"))
 tk:PySem.W.takesIn K Qlk=some true
 mr:mroIn K D (.type "object")=some true
 mb:mroIn K D (.type "BaseException")=some true
section
variable{s:Qb}{K:Frag}{D:Addr}
open PySem.W in
open PySem PySem.Calls PyProof.Rows Builtin Builtin.ObjectAttr Builtin.Getset_descriptor PySem.W PySem.Builtin.ObjectAttr in
theorem Y2.there(O:Y2 K D):∃c d cd sl,K.lookup D=some ⟨c,d,.cls cd,sl⟩:=by
 obtain⟨cd,q,_⟩:=any_some O.hd;unfold PySem.W.clsIn at q;split at q
 .rename_i c d a sl e;exact⟨c,d,a,sl,e⟩
 .cases q
end
end L2
namespace L3
open PySem PySem.Spec PyProof.Rows L2
section
variable{X:Cx}{CL:BM}{b:Bx}{U δ1:BA}{e:Expr}{dO:CA}{D:cY}{x:Str}{i:Nat}{pos:Pos}
theorem Ln.hand{a:Addr}(h:Qba):Ln (X.hand a) i x:=⟨⟨h.hi,h.hv,h.hd,h.iO⟩,h.loc,h.hf⟩
def alQ{t:T}{pos':Pos}(nd:Qbm)(n:Qba)(h:QaP)(k:Qlh)(hl:Qb5:=by exact hT rfl)(hs:Qdx:=by rfl) :
  cG X CL b QhK U D:=bK (Ka i h k hl nd n.hi n.loc hs n.hf)
end
def ab5(l q:Addr)(xs ys:Ch)(n m:Nat)(e:Do)(sq:Da)(i:Qps)(b:xs.size<=sizeLine)(a:Quu) :
  PySem.Meets (Builtin.«list.extend» ⟨[.ref l,.ref q],[]⟩) (λ_ R s=>s.heap.get? l=some {cls:=.type "list",dict:=none,data:=.seq xs n,slots:=#[]}/\s.heap.get? q=some {cls:=.type "list",dict:=e,data:=.seq ys m,slots:=sq} ∧
   R Qsz {s with heap:=s.heap.update l QrG,toks:=s.toks}):=
 PySem.Meets.of_wp λprog w A R s h=>by
  obtain⟨f,g,d,tk,os⟩:=s;obtain⟨hl,c,h⟩:=h;have f1:=AutoSeq1.idx_int;have k:=AutoSeq1.sub_list_list;have f4:=AutoSeq1.sub_tuple_list;have j:=AutoSeq1.sub_list_tuple;have hz:(xs++ys).size<=sizeLine+1:=by
   rw[Array.size_append];exact a
  wp_walk using QpQ,wpAny_loadPart' hl,wpAny_loadPart' c
  exact⟨_,rfl,h⟩
def Pm(K:Frag):V->B1->Hp->VK->Prop:=λx vs H Q=>∃l q xs zs,x=.ref l/\vs=[.ref q]/\H l=some Qbs/\lQ K H q zs/\xs.length+zs.length<=sizeLine/\Q .non Qvv
variable{X:Cx}
theorem agn:zt X "list.extend" (Pm X.K):=by
 intro pins s Y H x vs v us Q I d f h;obtain⟨l,q,xs,zs,rfl,rfl,b,j,hz,k⟩:=h;cases d;obtain⟨u,rfl,g⟩:=f.one;cases g;obtain⟨z,its,n,r,hl,e⟩:=I.FV b;obtain⟨c,a,⟨⟨w,d2,m,s2⟩,n2,e2,p,_,hd2⟩,t⟩:=I.list j;cases p;cases hd2;have i:=a.length;have hsz:its.toArray.size+c.toArray.size<=sizeLine:=by grind
 have o:¬ (!its.toArray.isEmpty&&Builtin.List.listTooLong QqO)=true:=by
  rw[D7 hsz,we];decide
 refine rg F.slot_list_extend ⟨_,e,rfl⟩ F.entry_list_extend QrW (ab5 l q _ _ n n2 d2 s2 o WA We) ⟨e,e2,?_⟩;refine⟨.non,_,I.FX b e Wl (r.append a) ?_,rfl,k⟩;simp_all
variable{i:Nat}{x:Str}
theorem Ln.pin{p:BC}(h:Qba):Ln Qe4 i x:=⟨⟨h.hi,h.hv,h.hd,h.iO⟩,h.loc,h.hf⟩
inductive AW where
 | ix (j:Nat)|fld (f:Str)|key (k:CI)
noncomputable def Ym{α:Type}(k:CI)(t:α):List QgL->List QgL
 | []=>[]
 | (x,u)::r=>if x=k then(x,t)::r else(x,u)::Ym k t r
noncomputable def T.core:T->T
 | .pin _ t=>t
 | t=>t
noncomputable def T.KJ:T->T->T
 | .pin y _,u=>.pin y u
 | _,u=>u
def T.VP:AW->T->FC
 | .ix j,.lst ts=>ts[j]?
 | .ix j,.tup ts=>ts[j]?
 | .fld f,.ins _ fs=>fs.lookup f
 | .key k,.dct kvs=>oY kvs k
 | _,_=>none
def T.R9:AW->T->T->T
 | .ix j,.lst ts,u=>.lst (ts.set j u)
 | .ix j,.tup ts,u=>.tup (ts.set j u)
 | .fld f,.ins c fs,u=>.ins c (oW f u fs)
 | .key k,.dct kvs,u=>.dct (Ym k u kvs)
 | _,t,_=>t
def T.k6:List AW->T->FC
 | [],t=>some t.core
 | s::p,t=>(t.core.VP s).bind (T.k6 p)
def T.lD:List AW->T->T->T
 | [],u,t=>t.KJ u
 | s::p,u,t=>match t.core.VP s with
  | some k=>t.KJ (t.core.R9 s (T.lD p u k))
  | none=>t
def qg(H:Hp)(v:V):AW->V->Prop
 | .ix j,w=>∃a us,v=.ref a/\(H a=some Qe7\/H a=some Qmd)/\us[j]? = some w
 | .fld f,w=>∃a C dx gs,v=.ref a/\H a=some (.ins C dx gs)/\gs.lookup f=some w
 | .key k,w=>∃a gs,v=.ref a/\H a=some Qam/\jc gs k=some w
def C6(H:Hp):V->List AW->V->Prop
 | v,[],w=>v=w
 | v,s::p,w=>∃u,qg H v s u/\C6 H u p w
variable{H:Hp}{s:AW}
theorem qg.mono{H':Hp}(e:QcM){v w:V}(h:qg H v s w):qg H' v s w:=by
 cases s with
 | ix j=>obtain⟨a,us,h1,c,b⟩:=h;exact⟨a,us,h1,c.imp (e _ _) (e _ _),b⟩
 | fld f=>obtain⟨a,C,dx,gs,h1,c,b⟩:=h;exact⟨a,C,dx,gs,h1,e _ _ c,b⟩
 | key k=>obtain⟨a,gs,h1,c,b⟩:=h;exact⟨a,gs,h1,e _ _ c,b⟩
theorem qg.inj{v w g:V}(h:qg H v s w)(q:qg H v s g):w=g:=by
 cases s with
 | ix j=>
  obtain⟨a,us,h1,c,l⟩:=h;obtain⟨m,o,q1,b,i⟩:=q;subst h1;cases q1;have e:us=o:=by
   obtain c|c:=c<;>obtain b|b:=b<;>rw[c]at b<;>cases b<;>rfl
  simp_all
 | fld f=>
  obtain⟨a,C,dx,gs,h1,c,l⟩:=h;obtain⟨m,p,n,d,q1,b,i⟩:=q;grind
 | key k=>
  obtain⟨a,gs,h1,c,l⟩:=h;obtain⟨m,d,q1,b,i⟩:=q;simp_all
theorem C6.mono{H H':Hp}(e:QcM):∀{p:Qcq} {v w:V},C6 H v p w->C6 H' v p w
 | [],_,_,h=>h
 | _::_,_,_,⟨u,h,q⟩=>⟨u,h.mono e,C6.mono e q⟩
theorem C6.inj{H:Hp}:∀{p:Qcq} {v w a:V},C6 H v p w->C6 H v p a->w=a
 | [],_,_,_,h,q=>h.symm.trans q
 | _::_,_,_,_,⟨_,h1,c⟩,⟨_,q1,b⟩=>by
  have:=h1.inj q1;subst this;exact C6.inj c b
theorem C6.snoc{H:Hp}{s:AW}:∀{p:Qcq} {v w z:V},C6 H v p w->qg H w s z->C6 H v (p++[s]) z
 | [],_,_,z,h,q=>by
  have h':=h;subst h';exact⟨z,q,rfl⟩
 | _::_,_,_,_,⟨u,h1,a⟩,q=>⟨u,h1,C6.snoc a q⟩
variable{K:Frag}{CL:BM}{b:Bx}{H' Z Z':Hp}{U:BA}{Y:L2.St}{ts tl:Bn}{vs us:B1}{t u t0:T}{v v0 w:V}{fp:BY}{p:Qcq}
theorem bw.Sb(h:QfD):bw K CL H Z t.core v fp/\∀{H' Z':Hp} {u:T} {g:BY},bw K CL H' Z' u v g->bw K CL H' Z' (t.KJ u) v g:=by
 cases h with
 | pin r=>exact⟨r,.pin⟩
 | sh r=>exact⟨.sh r,λq=>q⟩
 | tup r q=>exact⟨.tup r q,λq=>q⟩
 | lst r q=>exact⟨.lst r q,λq=>q⟩
 | ins r q=>exact⟨.ins r q,λq=>q⟩
 | iC r q=>exact⟨.iC r q,λq=>q⟩
 | dct r q=>exact⟨.dct r q,λq=>q⟩
 | jN r q p=>exact⟨.jN r q p,λq=>q⟩
theorem cJ.at{f:Str}:∀(fs:BS) {gs:Bz} {fp:BY},cJ K CL H Z fs gs fp->fs.lookup f=some t->∃w f1 f2 c,gs.lookup f=some w/\fp=f1++Qhf/\bw K CL H Z t w f2 ∧
  ∀{H':Hp} {t':T} {g:BY},(∀a∈f1++c,H' a=H a)->bw K CL H' Z t' w g->cJ K CL H' Z (oW f t' fs) gs QjJ:=by
 intro fs
 induction fs with
 | nil=>intro gs fp h e;cases e
 | cons p fs k=>
  obtain⟨x,t0⟩:=p;intro gs fp h e;cases h with
  | @cons _ _ v _ vs f0 g0 r rs=>
   rw[k4]at e;cases b:f==x with
   | true=>
    rw[b]at e;cases e;have i:=(p3.1 b).symm;refine⟨v,[],f0,g0,by rw[k4,b],rfl,r,λ{H' t' g} kk d=>?_⟩;rw[oW,ec i];exact cJ.cons (fp:=g) d (rs.mono QA λa j=>kk a (‹_›))
   | false=>
    rw[b]at e;obtain⟨w,f1,f2,c,h1,n,m,l⟩:=k rs e;subst n;refine⟨w,f0++f1,f2,c,by rw[k4,b];exact h1,Wl,m,λ{H' t' g} kk d=>?_⟩;rw[oW,bS (λz=>by grind),h5];exact .cons (r.mono QA λa j=>kk a WA) (l (λa j=>kk a (by rw[h5];exact hV _ j)) d)
theorem cy.VP{k:CI}{kvs:CC}{gs:B0}(h:QfK)(c:oY kvs k=some t) :
  ∃v f1 f2 b,jc gs k=some v/\fp=f1++(f2++b)/\bw K CL H Z t v f2 ∧
   ∀{H':Hp} {t':T} {g:BY},(∀a∈f1++b,H' a=H a)->bw K CL H' Z t' v g->cy K CL H' Z (Ym k t' kvs) gs Qow:=by
 refine cy.ind (P:=λkvs gs fp=>oY kvs k=some t->∃v f1 f2 b,jc gs k=some v/\fp=f1++(f2++b)/\bw K CL H Z t v f2 ∧
   ∀{H':Hp} {t':T} {g:BY},(∀a∈f1++b,H' a=H a)->bw K CL H' Z t' v g->cy K CL H' Z (Ym k t' kvs) gs Qow) (λe=>by cases e) (λ{x t0 v0 ts vs fp gp} r f i c=>?_) h c
 by_cases e:x=k
 .rw[zq e]at c;cases c;refine⟨v0,[],fp,gp,mY e,rfl,r,λ{H' t' g} d q=>?_⟩;rw[Ym,ec e];exact(show cy K CL H' Z _ _ (g++gp) from .cons q (f.mono QA d))
 .rw[zu e]at c;obtain⟨v,f1,f2,b,h1,n,m,l⟩:=i c;refine⟨v,_,f2,b,by rw[kT e];exact h1,by rw[n,h5],m,λ{H' t' g} d q=>?_⟩;rw[Ym,bS e,h5];exact .cons (r.mono QA λa j=>d a WA) (l (λa j=>d a (by rw[h5];grind)) q)
theorem bw.VP{k:T}(zh:ay Z H)(h:QfD)(i:t.VP s=some k):∃w f1 f2 d,qg H v s w/\fp=f1++(f2++d)/\bw K CL H Z k w f2 ∧
  ∀{H':Hp} {o:T} {g:BY},(∀c∈f1++d,H' c=H c)->bw K CL H' Z o w g->bw K CL H' Z (t.R9 s o) v QjK:=by
 cases s with
 | ix j=>
  cases h with
  | @lst a us ts g b rs=>
   obtain⟨w,f1,f2,d,h1,n,m,l⟩:=rs.at i;subst n;refine⟨w,a::f1,f2,d,⟨a,us,rfl,.inl b,h1⟩,rfl,m,λ{H' o g} kk e=>?_⟩;have q:=l QlM e;rw[iI h1]at q;exact .lst ((kk a gF).trans b) q
  | @tup a us ts g b rs=>
   obtain⟨w,f1,f2,d,h1,n,m,l⟩:=rs.at i;subst n;refine⟨w,f1,f2,d,⟨a,us,rfl,.inr (zh _ _ b),h1⟩,rfl,m,λ{H' o g} kk e=>?_⟩;have q:=l kk e;rw[iI h1]at q;exact .tup b q
  | _=>cases i
 | fld f=>
  cases h with
  | @ins a dx c gs fs g b rs=>
   obtain⟨w,f1,f2,d,h1,n,m,l⟩:=cJ.at fs rs i;subst n;refine⟨w,a::f1,f2,d,⟨a,_,dx,gs,rfl,b,h1⟩,rfl,m,λ{H' o g} kk e=>?_⟩;exact .ins ((kk a gF).trans b) (l QlM e)
  | _=>cases i
 | key x=>
  cases h with
  | @dct a gs kvs g b rs=>
   obtain⟨w,f1,f2,d,h1,n,m,l⟩:=rs.VP i;subst n;refine⟨w,a::f1,f2,d,⟨a,gs,rfl,b,h1⟩,rfl,m,λ{H' o g} kk e=>?_⟩;exact .dct ((kk a gF).trans b) (l QlM e)
  | _=>cases i
theorem bw.focus(zh:ay Z H):∀(p:Qcq) {t u:T} {v:V} {fp:BY},bw K CL H Z t v fp->T.k6 p t=some u->∃w f1 f2 a,C6 H v p w/\fp=f1++(f2++a)/\bw K CL H Z u w f2 ∧
  ∀{H':Hp} {b:T} {g:BY},(∀c∈f1++a,H' c=H c)->bw K CL H' Z b w g->bw K CL H' Z (T.lD p b t) v (f1++(g++a))
 | [],t,u,v,fp,h,e=>by
  obtain⟨h1,f⟩:=h.Sb;cases e;exact⟨v,[],fp,[],rfl,Wl,h1,λ{H' b g} _ r=>by rw[hX];exact f r⟩
 | s::p,t,u,v,fp,h,e=>by
  obtain⟨h1,f⟩:=h.Sb;rw[T.k6]at e;cases d:t.core.VP s with
  | none=>rw[d]at e;cases e
  | some k=>
   rw[d]at e;obtain⟨i,a1,a2,a3,q1,z,y,x⟩:=h1.VP zh d;obtain⟨w,f1,f2,a,n,m,l,j⟩:=bw.focus zh p y e;subst z m;refine⟨w,a1++f1,f2,a++a3,⟨i,q1,n⟩,Wl,l,λ{H' b g} kk o=>?_⟩;rw[T.lD,d];have q:=f (x Qu6 (j Qu6 o));simpa [List.append_assoc] using q
theorem aV.AX(S:Qar)(ev:Y[i]? = some Qcl)(hi:U[i]? = some Qb3)(M:Qoh)(F:Qed):∃f2 gp,bw K CL H Z u w f2/\aN K CL H Z ts vs gp/\(f2++gp).Nodup ∧
  ∀{a:Addr} {o:HO} {x:T} {j:Bn} {B:B1} {g l:BY},w=.ref a->a∈f2->jd o=false->bw K CL QbB Z x w g->aN K CL QbB Z j B l->(g++l).Nodup->(∀c∈g++l,c∈f2++gp) →
   aV K CL b QbB Z (U.set i (some (T.lD p x t0))) Y j B:=by
 obtain⟨fp,gp,e,r,nd,k⟩:=S.rep;obtain⟨v1,e1,e2,e3,hv,E,rt,put,_⟩:=e.get hi;rw[ev]at hv;cases hv;obtain⟨N,f1,f2,q,at',hf,G,put2⟩:=rt.focus S.zh p M;have hw:=at'.inj F;subst hw;subst hf;subst E;have n:((e1++((f1++(f2++q))++e3))++gp).Perm ((e1++Qoi)++(f2++gp)):=t5.2 λc=>by
  simp only[wz];lia
 have y:=n.nodup_iff.1 nd;have v:=kc.1 y;refine⟨f2,gp,G,r,v.2.1,λ{a o x j B g l} I D hm J L A t=>?_⟩;have m:∀c∈e1++Qoi,upd H a o c=H c:=λc f=>aq λz=>v.2.2 c f a (hZ _ D) z;have q1:=put2 (H':=upd H a o) (λc f=>m c (by
  obtain h|h:=hG.1 f
  .simp[h]
  .simp[h])) J
 have C:=put (H':=upd H a o) QA (λc f=>m c (by
  obtain h|h:=hG.1 f
  .simp[h]
  .simp[h])) q1
 rw[iI ev]at C;have s:((e1++((f1++(g++q))++e3))++l).Perm ((e1++Qoi)++(g++l)):=t5.2 λc=>by
  simp only[wz];lia
 refine S.YA hm k (by simp[D]) C L (s.nodup_iff.2 (kc.2 ⟨v.1,A,λc f d hd=>v.2.2 c f d (t d hd)⟩)) λc f=>?_;refine n.mem_iff.2 ?_;obtain h|h:=hG.1 (s.mem_iff.1 f)
 .exact hZ _ h
 .exact hV _ (t c h)
theorem aV.x7(S:Qar)(ev:Y[i]? = some Qcl)(hi:U[i]? = some Qb3)(d:Qoh):∃w f2,C6 H v0 p w/\bw K CL H Z u w f2:=by
 obtain⟨fp,gp,e,r,nd,k⟩:=S.rep;obtain⟨v1,e1,e2,e3,hv,f,rt,put,_⟩:=e.get hi;rw[ev]at hv;cases hv;obtain⟨a,f1,f2,g,at',hf,c,put2⟩:=rt.focus S.zh p d;exact⟨a,f2,at',c⟩
theorem aV.agp(S:Qb9)(ev:Y[i]? = some Qcl)(hi:U[i]? = some Qb3)(m:Qm4)(h:Qed) :
  ∃a us,w=.ref a/\H a=some Qe7/\us.length=tl.length/\aV K CL b Qst Z (U.set i (some (T.lD p (.lst (tl++[t])) t0))) Y ts vs:=by
 obtain⟨f2,gp,j,k,nd,go⟩:=S.AX ev hi m h;obtain⟨a,us,g,rfl,rfl,n,rs⟩:=j.gR;cases k with
 | @cons _ _ _ _ f e q1 l=>
  have ne:∀c∈g++Qdh,c≠a:=λc d z=>by subst z;simp_all
  have pm:((a::(g++(f++[])))++e).Perm ((a::g)++Qdh):=t5.2 λc=>by simp
  exact⟨a,us,rfl,n,rs.length.symm,go rfl gF rfl (.lst aA (aN.app (rs.mono QA λc d=>aq (ne c (by simp[d]))) (.cons (q1.mono QA λc d=>aq (ne c (by simp[d]))) .nil)))
   (l.mono QA λc d=>aq (ne c (by simp[d]))) Qs2 λc d=>pm.mem_iff.1 d⟩
theorem aV.ab7{ds:BB}(S:Qar)(j:QnO)(ev:Y[i]? = some Qcl)(hi:U[i]? = some Qb3)(k:Qm4)(e:Qed) :
  ∃a ws,w=.ref a/\H a=some (.lst ws)/\ws.length=tl.length/\aV K CL b (upd H a (.lst (ws++us))) Z (U.set i (some (T.lD p Qs3 t0))) Y ts vs:=by
 obtain⟨f2,gp,f,h,nd,go⟩:=S.AX ev hi k e;obtain⟨a,ws,g,rfl,rfl,l,rs⟩:=f.gR;have ne:∀c∈g++gp,c≠a:=λc d z=>by subst z;simp_all
 exact⟨a,ws,rfl,l,rs.length.symm,go rfl gF rfl (.lst aA (aN.app (rs.mono QA λc d=>aq (ne c (by simp[d]))) (aN.JU j)))
  (h.mono QA λc d=>aq (ne c (by simp[d]))) (by rw[hX];exact nd) λc d=>by rw[hX]at d;exact d⟩
theorem aV.alR{j:Nat}(S:Qb9)(ev:Y[i]? = some Qcl)(hi:U[i]? = some Qb3)(q:Qm4)(l:Qed)(r:j<tl.length) :
  ∃a us,w=.ref a/\H a=some Qe7/\us.length=tl.length/\aV K CL b (upd H a (.lst (us.set j v))) Z (U.set i (some (T.lD p Qt5 t0))) Y ts vs:=by
 obtain⟨f2,gp,m,n,nd,go⟩:=S.AX ev hi q l;obtain⟨a,us,g,rfl,rfl,s,rs⟩:=m.gR;cases n with
 | @cons _ _ _ _ f e q1 o=>
  obtain⟨w0,g1,g2,g3,h1,x,y,u⟩:=rs.at (iB r);subst x;have ne:∀c∈(g1++(g2++g3))++Qdh,c≠a:=λc d z=>by subst z;simp_all
  have k:((a::(g1++g3))++Qdh).Sublist ((a::(g1++(g2++g3)))++Qdh):=by simp
  have pm:((a::(g1++(f++g3)))++e).Perm ((a::(g1++g3))++Qdh):=t5.2 λc=>by simp[wz,List.count_cons];lia
  exact⟨a,us,rfl,s,rs.length.symm,go rfl gF rfl (.lst aA (u (λc d=>aq (ne c (by
    obtain h|h:=hG.1 d
    .simp[h]
    .simp[h]))) (q1.mono QA λc d=>aq (ne c (by simp[d])))))
   (o.mono QA λc d=>aq (ne c (by simp[d]))) (pm.nodup_iff.2 (nd.sublist k)) λc d=>k.subset Quy⟩
theorem aV.Jc{c f:Str}{fs:BS}(S:Qb9)(ev:Y[i]? = some Qcl)(hi:U[i]? = some Qb3)(q:T.k6 p t0=some Qa3)(l:Qed) :
  ∃a dx gs,w=.ref a/\H a=some QeC/\gs.length=fs.length/\aV K CL b (upd H a QlB) Z (U.set i (some (T.lD p (.ins c (oW f t fs)) t0))) Y ts vs:=by
 obtain⟨f2,gp,m,n,nd,go⟩:=S.AX ev hi q l;obtain⟨a,dx,gs,g,rfl,rfl,r,rs⟩:=m.Eb;cases n with
 | @cons _ _ _ _ h e q1 o=>
  have ne:∀c∈g++(h++e),c≠a:=λc d z=>by subst z;exact(kn.1 nd).1 d
  obtain⟨x,k,h1,u,s⟩:=cJ.put (f:=f) (q1.mono (H':=upd H a QlB) QA λc d=>aq (ne c (by simp[d]))) (rs.mono (H':=upd H a QlB) QA λc d=>aq (ne c (by simp[d])));have j:((a::k)++(h++e)).Sublist ((a::g)++(h++e)):=ox (List.Sublist.cons₂ _ u) (mx _);have pm:((a::x)++e).Perm ((a::k)++(h++e)):=((s.cons a).append_right e).trans (t5.2 λc=>by simp only[wz,List.count_cons];lia);exact⟨a,dx,gs,rfl,r,rs.length.symm,go rfl gF rfl (.ins aA h1) (o.mono QA λc d=>aq (ne c (by simp[d]))) (pm.nodup_iff.2 (nd.sublist j)) λc d=>j.subset Quy⟩
theorem aV.apB(S:Qar)(ev:Y[i]? = some Qcl)(hi:U[i]? = some Qb3)(j:Qoh)(g:Qed):aV K CL b H Z (U.set i (some (T.lD p QoO t0))) Y (u::ts) (w::vs):=by
 obtain⟨fp,gp,e,r,nd,k⟩:=S.rep;obtain⟨v1,e1,e2,e3,hv,f,rt,put,_⟩:=e.get hi;rw[ev]at hv;cases hv;obtain⟨m,f1,f2,d,at',hf,h,put2⟩:=rt.focus S.zh p j;have hw:=at'.inj g;subst hw;subst hf;subst f;have a:=put QA Qcc (put2 Qcc (.sh (.any _)));rw[iI ev]at a;have pm:((e1++((f1++([]++d))++e3))++(f2++gp)).Perm ((e1++(Qe0++e3))++gp):=t5.2 λc=>by simp[wz,List.count_nil];lia
 exact⟨⟨_,_,a,.cons h r,pm.nodup_iff.2 nd,λc l=>k c (pm.mem_iff.1 l)⟩,S.bh,S.zz,S.zh,S.new,S.tp,S.tab⟩
section
variable{δ1:BA}{e e0 e2:Expr}{t1:T}{tl0:Bn}{d:L3.D}{D:cY}{pos pa pb ps:Pos}{c f:Str}{dO:CA}{fs:BS}
def nC(X:Cx)(CL:BM)(b:Bx)(e:Expr)(U:BA)(i:Nat)(p:Qcq):Prop:=
 ∀(H Z:Hp) (Y:L2.St) (ts:Bn) (vs:B1) (Q:VK),aV X.K CL b H Z U Y ts vs->(∀v0 v H' Z',ay Z Z'->ay H H'->aV X.K CL b H' Z' U Y ts vs->Y[i]? = some Qcl->C6 H' v0 p v->Q v H')->sX X e Y H Q
def cK(n:QaW)(h:U[i]? = some QaM):nC X CL b QaF U i []:=λH Z Y ts vs Q S k=>by
 obtain⟨v,hv,_⟩:=S.look h;exact bY Qet ⟨v,hv,k v v H Z QA QA S hv rfl⟩
def fL(o:QfI)(n:QgD)(h:Qi0)(hi:U[i]? = some QaM)(m:T.k6 p t=some Qa3)(hl:fs.lookup f=some u)(q:AS X e f:=by rfl) :
  nC X CL b Qgg U i (p++[.fld f]):=λH Z Y ts vs Q S k=>
 bY (Rr cA q) (h H Z Y ts vs _ S λv0 v H' Z' z s l ev d=>by
  obtain⟨w,f2,at',r⟩:=l.x7 ev hi m;have:=at'.inj d;subst this;obtain⟨a,dx,gs,g,rfl,rfl,j,rs⟩:=r.Eb;obtain⟨w,_,_,_,hw,_,_,_⟩:=cJ.at fs rs hl;exact⟨a,CL c,dx,gs,w,rfl,j,o,n,hw,k v0 w H' Z' z s l ev (d.snoc ⟨a,_,dx,gs,rfl,j,hw⟩)⟩)
def VQ(h:Qi0)(hi:U[i]? = some QaM)(f:T.k6 p t=some QaR):bR X CL b e U QaR U:=λH Z Y ts vs Q S k=>
 h H Z Y ts vs _ S λv0 v H' Z' z s a ev c=>by
  obtain⟨w,f2,at',r⟩:=a.x7 ev hi f;have:=at'.inj c;subst this;replace r:=r.GX;obtain⟨rfl,r⟩:=r;exact k _ H' Z' z s (a.push r)
def iQ(h:Qi0)(hi:U[i]? = some QaM)(f:T.k6 p t=some u)(hd:u.bU=d):cL X CL b e U d U:=λH Z Y ts vs Q S k=>
 h H Z Y ts vs _ S λv0 v H' Z' z s a ev c=>by
  obtain⟨w,f2,at',r⟩:=a.x7 ev hi f;have:=at'.inj c;subst this;subst hd;exact k _ H' Z' z s a (r.bU a.zh λ_ _=>rfl)
noncomputable def VR(h:Qi0)(hi:U[i]? = some QaM)(c:T.k6 p t=some u):bR X CL b e U u (U.set i (some (T.lD p QoO t))):=λH Z Y ts vs Q S k=>
 h H Z Y ts vs _ S λv0 v H' Z' z s d ev a=>k v H' Z' z s (d.apB ev hi c a)
def alS(q:nC X CL b e0 U i p)(h0:U[i]? = some Qb3)(d:T.k6 p t0=some (.lst tl0))(h:QaP)(h1:δ1[i]? = some Qg6)(y:T.k6 p t1=some QeD)(hl:Qne)(k:cG X CL b dO (δ1.set i (some (T.lD p (.lst (tl++[t])) t1))) D)
  (s:attributeBase e0 "append" X.env (eval e0 X.env)=eval e0 X.env:=by rfl)
  (n:Qhl:=by rfl)
  (c:Qf3:=by rfl) (hs:QaA:=by exact bz rfl) (C:swapsWith Qp2 none pos.line X.env=pure false:=by rfl) :
  cG X CL b (.Expr Qp2 pos::dO) U D:=bK λH Z Y ts vs E S M=>
 mZ (yR (IG y8 Mn Me vq cA QaY s n c hs rfl) C) (q H Z Y ts vs _ S λv0 v B x m s0 j ev g=>by
  obtain⟨w,f2,at',r⟩:=j.x7 ev h0 d;have:=at'.inj g;subst this;refine⟨?_,h B x Y ts vs _ j λv2 H1 Z1 l k1 A=>?_⟩
  .obtain⟨_,_,_,rfl,rfl,f,_⟩:=r.gR;exact .inl ⟨rfl,_,lQ.of f⟩
  .obtain⟨a,us,u,f,o,z⟩:=A.agp ev h1 y (g.mono k1);exact⟨a,us,v2,u,rfl,f,by rw[o];exact nk hl Wk,M.nx _ Y _ Z1 (m.trans l) z k⟩)
def EA{z:Int}{j:Nat}(h:QaP)(s:QmJ)(u:cL X CL b e2 δ1 (.int z) δ1)(h1:δ1[i]? = some Qg6)(y:T.k6 p t1=some QeD)(f:RA tl.length z=some j)(kk:cG X CL b dO (δ1.set i (some (T.lD p Qt5 t1))) D)
  (r:∀v,assign Qpu X.env v=(do
   let I ← holding [v] (eval e0 X.env)
   let iv ← holding [v,I] (eval e2 X.env)
   standAt ps
   holding [v,I,iv] (setItem I iv v)
   release [v,I,iv] []):=by intro _;rfl)
  (hs:swapsWithSole [.Subscript e0 e2 ps] e pos.line X.env=pure false:=by rfl) (hw:swappedStores [.Subscript e0 e2 ps] e X.env=pure none:=by rfl) (c:(assignEach [.Subscript e0 e2 ps] X.env).map (·.2)=[assign Qpu X.env]:=by rfl) :
  cG X CL b Qk5 U D:=by
 refine bK λH Z Y ts vs E S M=>mZ (akl cA (akk cA cA set_list r) hs hw c) (h H Z Y ts vs _ S λv H1 Z1 l k1 F=>?_);have q:=(JW f).2.1;refine s H1 Z1 Y _ _ _ F λv0 w H2 Z2 k k2 C ev m=>u H2 Z2 Y _ _ _ C λv2 G Z3 g k3 B n=>?_;obtain⟨a,us,x,d,o,A⟩:=B.alR ev h1 y (m.mono k3) q;exact⟨a,us,z,j,x,n.sc rfl,d,o▸f,M.nx _ Y _ Z3 (l.trans (k.trans g)) A kk⟩
end
theorem cJ.none{m:Str}:∀{fs:BS} {gs:Bz} {fp:BY},cJ K CL H Z fs gs fp->fs.lookup m=none->gs.lookup m=none:=by
 intro fs
 induction fs with
 | nil=>intro gs fp r _;cases r;rfl
 | cons p fs a=>
  intro gs fp r h;cases r with
  | cons q r=>
   rw[k4]at h ⊢;split at h
   .cases h
   .exact a r h
section
variable{δ1:BA}{e o:Expr}{es:Cl}{pos pp apos:Pos}{c m:Str}{is:Co}{fx:BY->Prop}{al:BY->Bn}{y:Addr}{fs:BS}{A:Type}{k n:Nat}{f:Addr}{fd:QaN}{ps:At}{arg:Qbv}{Pre:Qae}{res:QaV}{out:Qbv}
theorem Yn{H1 Z1:Hp}{al:Bn}{ys:BY}{ns:Bn}{Q:VK}{E:XK}(a:A)(k:arg a=al)(j:QcO)(x:Pre a)(f:res a=t)(h:I0 Qfr ys ns)(F:Jn Y is ys)(G:∀i∈is,i<δ1.length)(y:us.length=al.length)
  (m:aV X.K CL b H1 Z1 δ1 Y (al.reverse++ts) QdG) (kk:∀v H' Z',ay Z1 Z'->aV X.K CL b H' Z' (x5 δ1 is ns) Y Qb4 QaT->Q v H'):vt X.K CL n arg Pre res out us H1 Q E:=by
 obtain⟨g,r,nd,l⟩:=m.cut WA;obtain⟨q,o,pm⟩:=r.rev;have C:tP H1 g=tP H1 q:=funext λc=>by
  by_cases d:c∈g
  .rw[qU d,qU Qt6]
  .rw[jz d,jz QqQ]
 rw[C]at l;rw[<- k]at o;refine⟨Z1,a,q,l.zh,m.tp,o,pm.nodup_iff.2 nd,j,x,m.RG,λv H' W' fp B ww w nw tp rt D own=>?_⟩;cases rt with
 | @cons _ _ _ _ f1 f2 q1 p=>
  have e:(f2++(f1++[])).Perm QkB:=by rw[hX];exact l8
  have u:=l.apl B ww w nw tp (aN.app p (.cons q1 .nil)) (e.nodup_iff.2 D) λc d=>own c (e.mem_iff.1 d);rw[h5,h5]at u;have s:=u.as1 p.length F h G;rw[f]at s;exact kk v H' W' ww s
inductive Recv(U:BA)(i:Nat)(c:Str)(fs:BS):QgS->Prop where
 | own:U[i]? = some (some Qa3)->Recv U i c fs QgC
 | pin {y:Addr}:U[i]? = some (some (.pin y Qa3))->Recv U i c fs (λz=>z=y)
theorem aV.recv{g:QgS}(S:Qf5)(h:Qjf):∃y dx gs,g y/\Y[i]? = some Qns/\H y=some QeC/\(∀m,fs.lookup m=none->gs.lookup m=none)/\aV X.K CL b H Z QdL Y (.pin y Qa3::ts) (.ref y::vs):=by
 cases h with
 | own h=>
  obtain⟨v,e,k⟩:=S.move h;obtain⟨y,rfl,f⟩:=k.alv rfl;obtain⟨fp,gp,_,r,_,_⟩:=f.rep;cases r with
  | cons r _=>
   replace r:=r.RC;obtain⟨a,r⟩:=r;cases a;obtain⟨_,_,_,_,a,d,j,rs⟩:=r.Eb;cases a;cases d;exact⟨y,_,_,trivial,e,j,λm hm=>rs.none hm,f⟩
 | @pin y h=>
  obtain⟨v,e,f⟩:=S.move h;obtain⟨fp,gp,_,r,_,_⟩:=f.rep;cases r with
  | cons r _=>
   replace r:=r.RC;obtain⟨rfl,r⟩:=r;obtain⟨_,_,_,_,a,d,j,rs⟩:=r.Eb;cases a;cases d;exact⟨y,_,_,rfl,e,j,λm hm=>rs.none hm,f⟩
theorem ab9{pl:Qhk}{g:QgS}(a:Addr->BY->A)(ns:Bn)(L:QfI)(hm:Meth X.K (CL c) m f)(F:dB X.prog X.w X.K X.mg X.base oS k f fd ps Qrv)(s:Qd9)(u:Qgn)
  (nm:QaW) (hi:Qjf) (hf:Qgz) (h:TMv X CL b Qav QdL is fx al δ1)
  (B:∀y ys,g y->ys.length=is.length->fx ys->arg Qhc=.pin y Qa3::al ys/\(arg Qhc).length=n/\Pre Qhc/\res Qhc=t/\I0 (out Qhc) (y::ys) ns) (P:∀j∈i::is,j<δ1.length)
  (he:Qaw:=by exact bz rfl) (hpl:QaK:=by rfl)
  (r:eval Qel X.env=(do
   let I ← eval QaO X.env
   standAt apos.atName
   let (f,first) ← holding [I] QiM
   callWith pos f first (backTo pos Qex) Qdz):=by rfl) :
  R0 X CL b Qel U t (x5 δ1 (i::is) ns):=λH Z Y ts vs Q S kk=>by
 obtain⟨y,dx,gs,q,ev,C,hn,M⟩:=S.recv hi;refine bY (JS Qlz L hm F s u .nil D9 J6 he hpl r) ⟨_,ev,y,dx,gs,rfl,C,hn m hf,h H Z Y _ _ _ M λys us H1 Z1 d O o l p k1 R=>?_⟩;obtain⟨h1,J,G,E,D⟩:=B y ys q d o;refine Yn (is:=i::is) _ h1 J G E D ⟨ev,O⟩ P (by simp[l]) ?_ λv H' Z' z N=>kk v H' Z' (p.trans z) N;simp_all
structure IT(X:Cx)(CL:BM)(c m:Str)(k n:Nat){A:Type}(arg:Qbv)(Pre:Qae)(res:QaV)(out:Qbv):Prop where
 ex:∃f fd ps,Meth X.K (CL c) m f/\dB X.prog X.w X.K X.mg X.base oS k f fd ps Qrv/\Binds X.K fd ps []
 room:eL k X.A
 cls:yU X.K (CL c)
theorem qM{pl:Qhk}{g:QgS}{dl:BB}(a:Addr->A)(l:T)(F:IT X CL c m k n arg Pre res out)(nm:QaW)(hi:Qjf)(h:Qqq)(v:∀y,g y->Pre (a y))(p:∀y,g y->res (a y)=t)(o:∀y,g y->I0 (out (a y)) [y] [l])
  (hf:Qgz:=by rfl) (q:∀y,g y->arg (a y)=.pin y Qa3::dl.map T.sh:=by intros;rfl) (hlen:∀y,(arg (a y)).length=n:=by intros;rfl) (D:Qb5:=by exact hT rfl)
  (he:Qaw:=by exact bz rfl) (hpl:QaK:=by rfl)
  (u:eval Qel X.env=(do
   let I ← eval QaO X.env
   standAt apos.atName
   let (f,first) ← holding [I] QiM
   callWith pos f first (backTo pos Qex) Qdz):=by rfl) :
  R0 X CL b Qel U t (δ1.set i (some l)):=by
 obtain⟨⟨f,fd,ps,M,G,bd⟩,r,w⟩:=F;have h':TMv X CL b _ _ [] QgC (λ_=>dl.map T.sh) δ1:=λH Z Y ts vs Q S k=>h H Z Y ts vs Q S λus H' Z' hl z s B=>k [] us H' Z' rfl trivial trivial hl z s B;exact ab9 (λy _=>a y) [l] w M G r bd nm hi hf h' (λy ys d hl _=>by
  cases List.length_eq_zero_iff.1 hl;exact⟨q y d,hlen y,v y d,p y d,o y d⟩) (λj C=>by simp_all) he hpl u
end
theorem jt.none{m:Str}:∀{fs:EQ} {gs:Bz},jt K CL Z fs gs->fs.lookup m=none->gs.lookup m=none:=by
 intro fs
 induction fs with
 | nil=>intro gs r _;cases r;rfl
 | cons p fs a=>
  intro gs r h;cases r with
  | cons q r=>
   rw[k4]at h ⊢;split at h
   .cases h
   .exact a r h
section
variable{e:Expr}{pos pos':Pos}{D:cY}{dO:CA}{A:Type}{k:Nat}
theorem alU{z w:Int}(g:Gx X)(nm:Qba)(d:U[i]? = some (some (.sh (.int z))))(h:Qs4)(k:cG X CL b dO (U.set i (some (.sh (.int (z+w))))) D) :
  cG X CL b (.AugAssign Qek .Add e pos::dO) U D:=bK λH Z Y ts vs E S M=>
 mZ (akm g.nd nm.hi nm.loc cA akn nm.hf) (by
  obtain⟨v,hv,r⟩:=S.Mc d;cases r;refine⟨_,hv,h H Z Y ts vs _ S λv2 H1 Z1 a k1 f c=>?_⟩;cases c;have hl:i<U.length:=by
   obtain h|h:=Nat.lt_or_ge i _
   .exact h
   simp_all
  exact⟨z,w,rfl,rfl,M.nx _ _ H1 Z1 a ((f.push Qbu).set hl) k⟩)
end
theorem US{p:T}{ds:BB}:Keeps (some p::U) (p::ds.map T.sh):=λj y t h=>by
 cases j with
 | zero=>cases h;rfl
 | succ j=>
  simp_all
end L3
namespace L2
open PySem PySem.Spec PyProof.Rows
noncomputable def OC{α:Type}(xs:Q8)(lo hi st:Cc):List α:=
 (sliceRange (sliceBounds lo hi st xs.length).1 (sliceBounds lo hi st xs.length).2.1 (sliceBounds lo hi st xs.length).2.2).filterMap (xs[·]?)
end L2
namespace L3
open PySem PySem.Spec PyProof.Rows L2
section
variable{X:Cx}{CL:BM}{b:Bx}{U δ1:BA}{e:Expr}{p q:Bool}{D:cY}
def TTm(X:Cx)(CL:BM)(b:Bx)(e:Expr)(U:BA)(p:Bool)(U':BA):Prop:=
 ∀(H Z:Hp) (Y:L2.St) (ts:Bn) (vs:B1) (Q:EN),aV X.K CL b H Z U Y ts vs->(∀H' Z',ay Z Z'->aV X.K CL b H' Z' U' Y ts vs->Q p H')->yl X e Y H Q
def TWm(X:Cx)(CL:BM)(b:Bx)(e:Expr)(U:BA)(p:Bool)(U':BA):Prop:=
 ∀(H Z:Hp) (Y:L2.St) (ts:Bn) (vs:B1) (Q:EN),aV X.K CL b H Z U Y ts vs->(∀H' Z',ay Z Z'->aV X.K CL b H' Z' U' Y ts vs->Q p H')->GI X e Y H Q
theorem sN.m(h:QbY):TTm X CL b e U p δ1:=λH Z Y ts vs Q S k=>h H Z Y ts vs Q S λH' Z' z _ a=>k H' Z' z a
theorem p4.m(h:QuY):TWm X CL b e U p δ1:=λH Z Y ts vs Q S k=>h H Z Y ts vs Q S λH' Z' z _ a=>k H' Z' z a
noncomputable def ath(h:QbY)(a:p=q):sN X CL b e U q δ1:=a▸h
end
def EE{α:Type}:Nat->(List α->Prop)->Prop
 | 0,P=>P []
 | n+1,P=>∀a,EE n λr=>P (a::r)
def KL{α:Type}{n:Nat}{P:List α->Prop}(h:EE n P):∀us:List α,us.length=n->P us:=by
 intro us hl
 induction us generalizing n P with
 | nil=>subst hl;exact h
 | cons a r b=>subst hl;exact b (h a) rfl
abbrev InG(K:Frag)(x:Str)(f:Addr):Prop:=nsIn K mainGlobals x=some Qc2
structure FG(N P G:At)(sc:Scope):Prop extends cO N P sc where
 lc:Qp5=true
 gb:QpH=true
def fG{N P G:At}{sc:Scope}(h:cO N P sc:=by exact g9)(lc:Qp5=true:=by decide +kernel)(gb:QpH=true:=by decide +kernel):FG N P G sc:=⟨h,lc,gb⟩
variable{X:Cx}{i:Nat}{x:Str}{N P G:At}
def gL(c:QmK)(j:Nat)(a:N[j]? = some x:=by rfl)(hi:X.N[i]? = some x:=by rfl)(hf:X.fn x=true:=by rfl)(hd:AD x:=by decide)(b:AE x:=by decide):Ln X i x:=xp hi (eq_of_beq (oD.1 c.lc _ (i0 a))) hf hd b
def gG(c:QmK)(j:Nat)(a:G[j]? = some x:=by rfl):Gl X x:=eq_of_beq (oD.1 c.gb _ (i0 a))
variable{CL:BM}{b:Bx}{U δ1 U2:BA}{e:Expr}{es:Cl}{t:T}{tl:Bn}{ds:BB}{pos:Pos}
def vb(X:Cx)(CL:BM)(b:Bx)(es:Cl)(U:BA)(tl:Bn)(U':BA):Prop:=
 ∀(H Z:Hp) (Y:L2.St) (ts:Bn) (vs:B1) (Q:EO),aV X.K CL b H Z U Y ts vs →
  (∀us H' Z',us.length=tl.length->ay Z Z'->aV X.K CL b H' Z' U' Y Ql7 QdG->Q us H')->G8 X es Y H Q
theorem G9.m(h:Qmt):vb X CL b es U tl δ1:=λH Z Y ts vs Q S k=>h H Z Y ts vs Q S λv H' Z' l z _ a=>k v H' Z' l z a
def Dw:vb X CL b [] U [] U:=bG.m
theorem gi(h1:Qdv)(d:vb X CL b es δ1 tl U2)(hs:Qaw:=by exact bz rfl):vb X CL b Qav U (t::tl) U2:=λH Z Y ts vs Q S k=>
 RD Qn7 (h1 H Z Y ts vs _ S λv H1 Z1 c f=>d H1 Z1 Y _ _ _ f λus H2 Z2 hl a g=>k _ H2 Z2 (by simp[hl]) QcE Wp)
def agr(h:Qdv):R0 X CL b e U Qgq δ1:=λH Z Y ts vs Q S k=>h H Z Y ts vs Q S λv H1 Z1 c f=>by
 obtain⟨Z2,a,d⟩:=f.AA;exact k v H1 Z2 QcE d
def VW{j:Nat}(h:vb X CL b es U tl δ1)(hl:Qm2):R0 X CL b QiS U (.tup tl) δ1:=λH Z Y ts vs Q S k=>
 bY (aaF J6) (h H Z Y ts vs _ S λus H1 Z1 d e i=>⟨ d▸hl,λp f=>by
  obtain⟨a,c,g⟩:=i.AF d f;exact k _ _ _ (e.trans a) g⟩)
theorem ace{j:Nat}(h:vb X CL b es U Qct δ1)(hl:QbL):R0 X CL b QiS U QdB δ1:=by
 have:=agr (VW (pos:=pos) (j:=j) h Wp)
 rwa [T.bU,g6]at this
variable{tl0:Bn}{pp pa pb:Pos}{dO:CA}{DD:cY}
def UP(n:QaW)(h0:U[i]? = some QiQ)(h:Qdv)(h1:δ1[i]? = some QdY)(hl:Qne)(k:Qq9)
  (p:QkK:=by rfl)
  (g:Qhl:=by rfl)
  (c:Qf3:=by rfl) (hs:QaA:=by exact bz rfl) (s:QkY:=by rfl) :
  cG X CL b Quo U DD:=bK λH Z Y ts vs E S M=>
 mZ (yR (IG y8 Mn Me vq Qet QaY p g c hs rfl) s) (by
  obtain⟨v0,e0,j⟩:=S.look h0;refine⟨v0,e0,?_,?_⟩
  .obtain⟨_,_,rfl,m,_⟩:=j.gR;exact .inl ⟨rfl,_,m⟩
  .refine h H Z Y ts vs _ S λv H1 Z1 f r=>?_;obtain⟨a,us,d,o,l,q⟩:=r.append h1;rw[e0]at d;cases d;exact⟨a,us,v,rfl,rfl,o,by rw[l];exact nk hl Wk,M.nx _ Y _ Z1 f q k⟩)
namespace Dk
variable{prog:Qah}{w:World}{A:Qaq}{E:BN}{s:Qb}{it d:Addr}{ep:Nat}{es:QfC}{od:Obj}
def acg{Q:BN}(hd:Quz)(c:s.heap.get? d=some od)(a:QsR)(b:QiR)
  (hQ:Q QbT {s with heap:=s.heap.push {cls:=.type "dict_keyiterator",data:=.fields #[.ref d,.int 0 0,.int es.size 0,.int ep 0]}}):wpAny Qad A (pyIter (.ref d)) Q E s:=by
 refine wpAny_pyIter_slot a PySem.F.slot_dict_iter (w7 PySem.F.slot_dict_iter a PySem.F.entry_dict_iter ?_ (PySem.F.args_dict_iter_1 _));unfold Builtin.«dict.__iter__» Builtin.Dict.dictSlotNone;refine cz (cz (wpAny_notOrdered_dict a (show wpAny _ _ (pure (Value.ref d)) _ _ s from hL ?_)));show wpAny _ _ (Builtin.Dict.showsAll d >>= _) _ _ s;unfold Builtin.Dict.showsAll;rw[bS (by rw[hd];exact km)];exact wpAny_bind (wpAny_pure (wpAny_bind (wpAny_dictEntries c b (wpAny_bind (wpAny_dictEpoch c b (wpAny_bind (wpAny_newObj_type (wpAny_pure ⟨_,rfl,"dict_keyiterator",_,⟨_,Heap.get?_push_size _ rfl,rfl⟩,PySem.F.slot_dict_keyiterator_next.lookup,by simpa [rawInt] using hQ⟩))))))))
theorem Oi{Q:Qt7}(n:Qdl)(hit:s.heap.IsKeyIter it d i es.size ep)(f:s.heap.get? d=some od)(g:QiR)
  (hQ:∀e,es[i]? = some e->∀h',h'.IsKeyIter it d Qa5 es.size ep->Heap.SameBut it s.heap h'->Q (some e.key) {s with heap:=h'}) (q:es.size<=i->∀h',Heap.ExtBut it s.heap h'->Q none {s with heap:=h'}):wpAny Qad A Qi7 Q E s:=by
 obtain⟨o,h,p,hd⟩:=id hit;have j:Builtin.Dict_items.ownsTuple "dict_keyiterator" = false:=by decide
 unfold pyNext;refine cz (wpAny_attempt (aBD (name:=Str.ofString "__next__") hit.typeIs PySem.F.slot_dict_keyiterator_next (w7 PySem.F.slot_dict_keyiterator_next hit.typeIs PySem.F.entry_dict_keyiterator_next (cz (hL ?_)) (PySem.F.args_dict_keyiterator_next_1 _))));refine cz (cz (cz (MU hit.typeIs (hL (cz (wpAny_fieldsOf h hd ?_))))));simp only[j,nh,l6];show wpAny _ _ Qqb _ _ s;rw[bS (show ¬ (Qk8=true) from km)];refine cz (hL (cz (wpAny_dictEntries f g ?_)));rw[bS Wl];refine cz (hL (cz (wpAny_dictEpoch f g ?_)));rw[bS Wl];refine hL ?_;by_cases k:i<es.size
 .have c:=Array.getElem?_eq_getElem k;simp only[show ¬ ((i:Int)<0) from by lia,l6,ji,c];refine cz (cz (MU hit.typeIs (hL (cz (wpAny_isOneOf_keyiter hit.typeIs ?_)))));show wpAny _ _ (setField Qbq 1 QdF >>= _) _ _ s;have l:(s.heap.update it (Obj.mapFields (·.setIfInBounds 1 QdF))).IsKeyIter it d Qa5 es.size ep:=
   ⟨_,uj _ h QqR,(Obj.cls_mapFields ..).trans p,by rw[w4 hd];simp[rawInt]⟩
  refine cz (y0 h hd Wl (cz (rq (cz (wpAny_isOneOf_keyiter (s:={s with heap:=s.heap.update it (Obj.mapFields (·.setIfInBounds 1 QdF))}) l.typeIs ?_)))));show wpAny _ _ (pure es[i].key) _ _ _;exact hL (hL ⟨_,rfl,hL (hQ _ c _ l (ub ..))⟩)
 .have c:=Nat.le_of_not_lt k;simp only[show ¬ ((i:Int)<0) from by lia,l6,ji,wj c];refine cz (cz (MU hit.typeIs (hL ?_)));show wpAny _ _ (setField Qbq 0 .none >>= _) _ _ s;refine cz (y0 h hd Wl ?_);show wpAny _ _ (newExc Qse [] >>= _) _ _ _;refine cz ?_;simp only[newExc,newTuple];refine cz (xc (cz (m:=firstArgMember _ _) (wpAny_of_eq (a:=Value.none) (by first|rfl|(simp only[firstArgMember];rfl)) (xc ?_ (by size_fits)))) (by size_fits));simp only[raiseNew];refine cz (wpAny_handled ?_);rw[show A.in1.handled=none from n];refine cz (hL (wpAny_throw ?_));exact cz (wpAny_isInstance (T:="StopIteration") (b:=true) ⟨_,jj _ rfl,rfl⟩ isSubtype_stop (hL (q c _ (((ub ..).extBut.push _).push _))))
end Dk
end L3
namespace L2
open PySem PySem.Spec PyProof.Rows
variable{X:Cx}{pins:BC}{Y:St}{H:Hp}{s:Qb}{a:Addr}{gs:B0}{o:Obj}
theorem Inv.told{u u0:HO}(I:QE)(f:H a=some u0)(j:dD X.prog X.w (upd H a u) s.heap a u)(l:∀xs,u0 ≠ .tup xs)(hz:∀d q,X.ip a≠some (.bU d q))(r:∀ps,u0 ≠ .tbl ps)(hw:∀y,u0 ≠ .own y)(o:∀q,u0 ≠ .Vc q):Inv X pins Y (upd H a u) s:=by
 have ne:∀b,H b=none->b≠a:=λb e z=>by rw[z,f]at e;cases e
 have n1:∀b xs,H b=some Qbf->upd H a u b=some Qbf:=λb xs e=>by
  rw[aq λz=>by rw[z,f]at e;cases e;exact l _ rfl];exact e
 refine⟨I.ok,I.os,I.bare,⟨I.base.keep,I.base.slot,λb d e n i=>?_,I.base.there,λb xs e=>n1 b xs Quh,λb d q e=>?_,λb ps e=>?_⟩,I.loc,I.cell,?_,λx c e=>?_,λp m=>?_,λb v q=>?_,I.len⟩
 .have:=I.base.free b d e n i;rw[aq (ne b this)];exact this
 .rw[aq λz=>by rw[z]at e;exact hz _ _ e];exact I.base.dz b d q e
 .obtain⟨more,q⟩:=I.base.C1 b ps e;exact⟨more,by rw[aq λz=>by rw[z,f]at q;cases q;exact r _ rfl];exact q⟩
 .rw[aq (ne _ I.free)];exact I.free
 .rw[aq (ne _ QjD)];exact I.kR x c e
 .obtain⟨p1,p2,h⟩:=I.pin p m;exact⟨p1,by rw[aq (ne _ p2)];exact p2,h⟩
 .by_cases e:b=a
  .subst e;rw[aA]at q;cases q;exact j
  .rw[aq e]at q;exact(I.ck b v q).yQ Qgr (λc z=>by rw[aq λg=>by rw[g,f]at z;cases z;exact hw _ rfl];exact z) n1 λc k z=>by rw[aq λg=>by rw[g,f]at z;cases z;exact o _ rfl];exact z
theorem Inv.OA(I:QE)(b:H a=some Qam):∃o,s.heap.get? a=some o/\(∀f q,X.ip a≠some (.bU f q))/\Inv X pins Y (upd H a Qab) s:=by
 have hz:∀f q,X.ip a≠some (.bU f q):=λf q e=>by
  have:=I.base.dz a f q e;rw[b]at this;cases this
 have k:=(show dD X.prog X.w H s.heap a Qam from I.ck a _ b);obtain⟨_,_,_,_,o,es,ep,e,_⟩:=id k;refine⟨o,e,hz,I.told b ⟨e,?_⟩ (λ_ z=>nomatch z) hz (λ_ z=>nomatch z) (λ_ z=>nomatch z) λ_ z=>nomatch z⟩;exact k.yQ Qgr (λc z=>by rw[aq λd=>by rw[d,b]at z;cases z];exact z) (λc xs z=>by rw[aq λd=>by rw[d,b]at z;cases z];exact z) λc k z=>by rw[aq λd=>by rw[d,b]at z;cases z];exact z
theorem Inv.Oj(I:QE)(d:H a=some Qab)(hz:∀f q,X.ip a≠some (.bU f q)):Inv X pins Y Qja s:=by
 obtain⟨_,k⟩:=(show dD X.prog X.w H s.heap a Qab from I.ck a _ d);refine I.told d ?_ (λ_ z=>nomatch z) hz (λ_ z=>nomatch z) (λ_ z=>nomatch z) λ_ z=>nomatch z;exact k.yQ Qgr (λc z=>by rw[aq λb=>by rw[b,d]at z;cases z];exact z) (λc xs z=>by rw[aq λb=>by rw[b,d]at z;cases z];exact z) λc k z=>by rw[aq λb=>by rw[b,d]at z;cases z];exact z
def z0(a:Addr)(o:Obj)(gs:B0):It:=
 ⟨λi H=>i<gs.length/\H a=some Qab,λi H x H'=>H'=H/\∃b k v,x=.ref b/\gs[i]? = some (k,v)/\H b=some Qf6,λi H=>gs.length<=i/\H a=some Qab⟩
theorem Paired.sx{α β:Type}{F:QnH}{l:Q8}{m:List β}(r:Paired F l m):∀{i:Nat} {x:α},l[i]? = some x->∃y,m[i]? = some y/\F x y:=by
 induction r with
 | nil=>intro i x e;simp at e
 | cons h _ a=>
  intro i x e;cases i with
  | zero=>cases e;exact⟨_,rfl,h⟩
  | succ j=>exact a e
theorem ach{P:Qah}{w:World}{K:Frag}{tg:Expr}{it:Addr}{es:QfC}{ep:Nat}(m:Qnu):Turn P w K tg QgX [it] it (λi h=>h.IsKeyIter it a i es.size ep) where
 mem:=by simp
 obj:=λi h st b j=>by
  have e:b=it:=by simpa using j
  subst e;obtain⟨f,e,c,d⟩:=st;exact⟨f,e,λv z=>by rw[d]at z;cases z⟩
 keep:=λi h h' st k=>st.at λf e=>k it Wl f e
 item:=by
  intro X u hw A p i pins s Y H E I hf st n;subst u hw A;obtain⟨G,t⟩:=n;obtain⟨e,z,y,xs,r,o',D,F,l,c,d,g,nd⟩:=(show dD X.prog X.w H s.heap a Qab from I.ck a _ t);rw[e]at l;cases l;rw[m]at d;cases d;obtain⟨f0,f1,f2,C,f4,B⟩:=hf it Wl;obtain⟨q,O,q1,N,V⟩:=Paired.sx r (i:=i) (x:=gs[i]) (iB G);have J:es[i]? = some Qqc:=by
   rw[<- Array.getElem?_toList,g,ib,O];rfl
  refine L3.Dk.Oi QjS st e m (λl he h' L M=>?_) λz=>absurd J (by rw[wj z];simp);rw[J]at he;cases he;have U:Inv X pins Y H {s with heap:=h'}:=I.turned (t':=s.toks) Qrd f0 f1 C f4 B;obtain⟨f,e2,T,d2⟩:=id L;exact⟨_,rfl,DV (s:={s with heap:=h'}) e2 T d2 Wk ⟨.ref q.2.1,H,U,rfl,⟨rfl,q.2.1,gs[i].1,gs[i].2,rfl,iB G,N⟩,L,λb j=>(hf b j).1⟩⟩
 done:=by
  intro X u hw A p i pins s Y H E I hf st n;subst u hw A;obtain⟨R,t⟩:=n;obtain⟨e,z,y,xs,r,o',D,F,l,c,d,g,nd⟩:=(show dD X.prog X.w H s.heap a Qab from I.ck a _ t);rw[e]at l;cases l;rw[m]at d;cases d;obtain⟨f0,f1,f2,C,f4,B⟩:=hf it Wl;have hl:=wd r;have hsz:es.size=xs.length:=by rw[<- HA,g,cq]
  exact L3.Dk.Oi QjS st e m (λl he=>by rw[wj We]at he;cases he) λ_ h' S=>⟨rfl,I.turned (t':=s.toks) Qsf f0 f1 C f4 B⟩
 self:=λ_ _ _ _ _ st h=>wpAny_pyIter_keyiter st h
end L2
namespace L3
open PySem PySem.Spec PyProof.Rows L2
def Conv(Z Z':Hp):Prop:=∀c o,Z c=some o->Z' c=some o\/(∃gs a,o=.dT gs/\Z' c=some (.bU a Qam))\/∃gs a,o=.bU a Qam/\Z' c=some Qam
variable{K:Frag}{CL:BM}{Z Z':Hp}{a:Addr}
theorem Conv.keep{o:HO}(e:Qb6)(h:Z a=some o)(h1:∀gs,o ≠ .dT gs)(c:∀gs b,o ≠ .bU b Qam):Z' a=some o:=by
 obtain q|⟨gs,b,q,_⟩|⟨gs,b,q,_⟩:=e a o h
 .exact q
 .exact absurd q (h1 gs)
 .exact absurd q (c gs b)
theorem Conv.Dn{xs:B1}(e:Qb6)(h:qh K Z a xs):qh K Z' a xs:=by
 rcases h with(h|⟨o,h⟩)|h
 .exact .inl (.inl (e.keep h (λ_ z=>nomatch z) λ_ _ z=>nomatch z))
 .exact .inl (.inr ⟨o,e.keep h (λ_ z=>nomatch z) λ_ _ z=>nomatch z⟩)
 .exact .inr h
theorem Conv.JP{xs:B1}(e:Qb6)(h:lQ K Z a xs):lQ K Z' a xs:=by
 rcases h with(h|⟨o,h⟩)|h
 .exact .inl (.inl (e.keep h (λ_ z=>nomatch z) λ_ _ z=>nomatch z))
 .exact .inl (.inr ⟨o,e.keep h (λ_ z=>nomatch z) λ_ _ z=>nomatch z⟩)
 .exact .inr h
theorem Conv.rd{gs:B0}(e:Qb6)(h:Rd Z a Qam):Rd Z' a Qam:=by
 obtain h|⟨o,h⟩:=h
 .obtain q|⟨g,b,q,z⟩|⟨g,b,q,z⟩:=e a _ h
  .exact .inl q
  .cases q;exact .inr ⟨b,z⟩
  .cases q
 .obtain q|⟨g,b,q,z⟩|⟨g,b,q,z⟩:=e a _ h
  .exact .inr ⟨o,q⟩
  .cases q
  .cases q;exact .inl z
variable{v:V}
theorem bC.conv(e:Qb6){d:D}(h:QcN):bC K CL Z' d v:=
 bC.rec (motive_1:=λd v _=>bC K CL Z' d v) (motive_2:=λd v _=>av K CL Z' d v) (motive_3:=λd v _=>jt K CL Z' d v) (motive_4:=λd v _=>bP K CL Z' d v) (motive_5:=λd v _=>dN K CL Z' d v)
  .non .bl .int .str .any .val Qlq Qlr (λh _ r=>.ins (e.keep h (λ_ z=>nomatch z) λ_ _ z=>nomatch z) r) (λh _ r=>.iC (e.keep h (λ_ z=>nomatch z) λ_ _ z=>nomatch z) r) Qls (λh _ _ r q=>.jN (e.keep h (λ_ z=>nomatch z) λ_ _ z=>nomatch z) r q) .nil Qai .nil Qai .nil Qai .nil Qai h
theorem bP.conv(e:Qb6){d:CS}{v:CO}(h:bP K CL Z d v):bP K CL Z' d v:=
 bP.rec (motive_1:=λd v _=>bC K CL Z' d v) (motive_2:=λd v _=>av K CL Z' d v) (motive_3:=λd v _=>jt K CL Z' d v) (motive_4:=λd v _=>bP K CL Z' d v) (motive_5:=λd v _=>dN K CL Z' d v)
  .non .bl .int .str .any .val Qlq Qlr (λh _ r=>.ins (e.keep h (λ_ z=>nomatch z) λ_ _ z=>nomatch z) r) (λh _ r=>.iC (e.keep h (λ_ z=>nomatch z) λ_ _ z=>nomatch z) r) Qls (λh _ _ r q=>.jN (e.keep h (λ_ z=>nomatch z) λ_ _ z=>nomatch z) r q) .nil Qai .nil Qai .nil Qai .nil Qai h
theorem av.conv(e:Qb6){d:BB}{v:B1}(h:Qon):av K CL Z' d v:=
 av.rec (motive_1:=λd v _=>bC K CL Z' d v) (motive_2:=λd v _=>av K CL Z' d v) (motive_3:=λd v _=>jt K CL Z' d v) (motive_4:=λd v _=>bP K CL Z' d v) (motive_5:=λd v _=>dN K CL Z' d v)
  .non .bl .int .str .any .val Qlq Qlr (λh _ r=>.ins (e.keep h (λ_ z=>nomatch z) λ_ _ z=>nomatch z) r) (λh _ r=>.iC (e.keep h (λ_ z=>nomatch z) λ_ _ z=>nomatch z) r) Qls (λh _ _ r q=>.jN (e.keep h (λ_ z=>nomatch z) λ_ _ z=>nomatch z) r q) .nil Qai .nil Qai .nil Qai .nil Qai h
variable{H:Hp}{t:T}{fp:BY}
theorem bw.conv{H':Hp}(e:Qb6)(k:∀a∈fp,H' a=H a)(h:QfD):bw K CL H' Z' t v fp:=
 bw.rec (motive_1:=λt v fp _=>(∀a∈fp,H' a=H a)->bw K CL H' Z' t v fp) (motive_2:=λt v fp _=>(∀a∈fp,H' a=H a)->aN K CL H' Z' t v fp) (motive_3:=λt v fp _=>(∀a∈fp,H' a=H a)->cJ K CL H' Z' t v fp) (motive_4:=λt v fp _=>(∀a∈fp,H' a=H a)->cy K CL H' Z' t v fp)
  (λh _=>.sh (h.conv e)) (λh _ r k=>.tup (e.keep h (λ_ z=>nomatch z) λ_ _ z=>nomatch z) (r k)) Qem Qen QpO Qeo Qeu Qpn QaB QaX QaB QaX QaB QaX h k
theorem aN.conv{H':Hp}(e:Qb6){t:Bn}{v:B1}(k:∀a∈fp,H' a=H a)(h:Qm7):aN K CL H' Z' t v fp:=
 aN.rec (motive_1:=λt v fp _=>(∀a∈fp,H' a=H a)->bw K CL H' Z' t v fp) (motive_2:=λt v fp _=>(∀a∈fp,H' a=H a)->aN K CL H' Z' t v fp) (motive_3:=λt v fp _=>(∀a∈fp,H' a=H a)->cJ K CL H' Z' t v fp) (motive_4:=λt v fp _=>(∀a∈fp,H' a=H a)->cy K CL H' Z' t v fp)
  (λh _=>.sh (h.conv e)) (λh _ r k=>.tup (e.keep h (λ_ z=>nomatch z) λ_ _ z=>nomatch z) (r k)) Qem Qen QpO Qeo Qeu Qpn QaB QaX QaB QaX QaB QaX h k
variable{U:BA}{Y:L2.St}
theorem e9.conv{H':Hp}(e:Qb6)(k:∀a∈fp,H' a=H a)(r:QiP):e9 K CL H' Z' U Y fp:=by
 induction r with
 | nil=>exact .nil
 | skip _ b=>exact .skip (b k)
 | cons r _ b=>exact .cons (r.conv e λa c=>k a QkA) Qr3
def Oy(X:Cx)(te:TE):TI:=λY H R=>te Y H λx H1=>∃a gs,x=.ref a/\((H1 a=some Qam/\∀o,(∀b q,X.ip a≠some Qkn)->R QgX QgA)\/∃o,H1 a=some Qab/\R QgX H1)
variable{X:Cx}
def Se{tg e:Expr}{te:TE}(he:QbQ):PI X tg e (Oy X te):=by
 intro pins s Y H R I h;refine dF QbV λv s1 zz=>?_;obtain⟨x,H1,j,k,a,gs,ex,q⟩:=zz;subst ex;cases k;have main:∀(H2:Hp) (o:Obj),L2.Inv X pins Y H2 s1->H2 a=some Qab->R QgX H2->wpAny Qr X.A (pyIter Qag) Quj X.xe s1:=λH2 o f g n=>by
  obtain⟨e,z,y,xs,r,o',es,ep,i,c,d,l,nd⟩:=(show dD X.prog X.w H2 s1.heap a Qab from f.ck a _ g);rw[e]at i;cases i;obtain⟨_,_,_,_,dd⟩:=wA f.ck (.inr ⟨o,g⟩);refine Dk.acg y e dd.typeIs d ?_;refine⟨s1.heap.objs.size,[s1.heap.objs.size],_,_,H2,rfl,f.kept (t':=s1.toks) λb p e=>ia _ e,ach d,⟨_,jj _ rfl,rfl,rfl⟩,λb m=>?_,n⟩;have e:b=s1.heap.objs.size:=by simpa using m
  subst e;exact f.Av (hI _) (f.ck.fresh (hI _))
 obtain⟨g,q⟩|⟨o,g,q⟩:=q
 .obtain⟨o,e,hz,f⟩:=j.OA g;exact main _ o f aA (q o hz)
 .exact main _ o j g q
def KN(X:Cx)(E:Ends):Ends:=
 ⟨λY H=>E.nx Y H\/∃a o gs,H a=some Qab/\(∀b q,X.ip a≠some Qkn)/\E.nx Y Qja,λv H=>E.rt v H\/∃a o gs,H a=some Qab/\(∀b q,X.ip a≠some Qkn)/\E.rt v Qja,E.bk,E.ct⟩
theorem Jd{st:Stmt}{E:Ends}(h:XO X st (KN X E) Y H):XO X st E Y H:=λpins s I=>by
 refine i8 (h pins s I) (λf s' z=>?_) λ_ _ z=>z;cases f with
 | next=>
  obtain⟨Y',H',b,q⟩:=z;obtain q|⟨a,o,gs,c,hz,q⟩:=q
  .exact⟨Y',H',b,q⟩
  .exact⟨Y',_,b.Oj c hz,q⟩
 | ret u=>
  obtain⟨v,Y',H',b,r,q⟩:=z;obtain q|⟨a,o,gs,c,hz,q⟩:=q
  .exact⟨v,Y',H',b,r,q⟩
  .exact⟨v,Y',_,b.Oj c hz,r,q⟩
 | brk=>exact z
 | cont=>exact z
noncomputable def tR(b:Bx)(a:Addr)(F:HO):Bx:=⟨λc=>if c=a/\(b.B a).isSome=true then some F else b.B c,λc=>if c=a/\(b.Z a).isSome=true then some F else b.Z c⟩
variable{b:Bx}{ts:Bn}{vs:B1}{gs:B0}{o:Obj}
def fc{F:HO}{c:Addr}(h:c≠a):(tR b a F).B c=b.B c/\(tR b a F).Z c=b.Z c:=⟨bS λz=>h z.1,bS λz=>h z.1⟩
theorem aV.ql(S:Qar)(f:Z a=some Qam)(o:Obj):aV K CL QeX (upd H a Qab) (upd Z a Qab) U Y ts vs:=by
 have h:Conv Z (upd Z a Qab):=λc u q=>by
  by_cases e:c=a
  .subst e;rw[f]at q;cases q;exact .inr QlH
  .exact .inl (by rw[aq e];exact q)
 obtain⟨fp,gp,e,r,nd,k⟩:=S.rep;have ne:∀c∈fp++gp,c≠a:=λc d z=>by
  have:=(k c d).1;rw[z,f]at this;cases this
 have j:=S.zh a _ f;refine⟨⟨fp,gp,e.conv h λc d=>aq (ne c QkC),r.conv h λc d=>aq (ne c (hV _ d)),nd,λc d=>⟨by rw[aq QkF];exact(k c d).1,by rw[(fc QkF).1];exact(k c d).2⟩⟩,λc u q=>?_,λc u q=>?_,λc u q=>?_,λc u q z=>?_,λc u q im=>?_,λx i h0=>?_⟩
 .by_cases e:c=a
  .subst e;rw[aA];have q:Qpy=some u:=q;by_cases hs:(b.B c).isSome=true
   .rw[ec ⟨rfl,hs⟩]at q;exact q
   .rw[bS λz=>hs z.2]at q;rw[q]at hs;exact absurd rfl hs
  .rw[(fc e).1]at q;rw[aq e];exact S.bh c u q
 .by_cases e:c=a
  .subst e;rw[aA];have q:Qpz=some u:=q;by_cases hs:(b.Z c).isSome=true
   .rw[ec ⟨rfl,hs⟩]at q;exact q
   .rw[bS λz=>hs z.2]at q;rw[q]at hs;exact absurd rfl hs
  .rw[(fc e).2]at q;rw[aq e];exact S.zz c u q
 .by_cases e:c=a
  .subst e;rw[aA]at q ⊢;exact q
  .rw[aq e]at q ⊢;exact S.zh c u q
 .by_cases e:c=a
  .subst e;have z:Qpz=none:=z;have hz:b.Z c=none:=by
    by_cases hs:(b.Z c).isSome=true
    .rw[ec ⟨rfl,hs⟩]at z;cases z
    .rw[bS λz=>hs z.2]at z;exact z
   have g:=S.new c _ f hz;show Qpy=none;rw[bS λz=>by rw[g]at z;exact absurd z.2 Wk];exact g
  .rw[aq e]at q;rw[(fc e).2]at z;rw[(fc e).1];exact S.new c u q z
 .by_cases e:c=a
  .subst e;rw[aA]at q ⊢;exact q
  .rw[aq e]at q ⊢;exact S.tp c u q im
 .have q:=S.tab x i h0;have e:CL x≠a:=λz=>by
   have:=S.zz _ _ q;rw[z,f]at this;cases this
  rw[(fc e).2];exact q
theorem aV.Oj(S:aV K CL QeX H Z U Y ts vs)(f:Z a=some Qab)(h1:∀u,b.B a=some u->u=.dT gs)(j:∀u,b.Z a=some u->u=.dT gs)(i:b.Z a=none->b.B a=none):aV K CL b Qja (upd Z a Qam) U Y ts vs:=by
 have g:Conv Z (upd Z a Qam):=λc u q=>by
  by_cases e:c=a
  .subst e;rw[f]at q;cases q;exact .inr (.inr ⟨gs,o,rfl,aA⟩)
  .exact .inl (by rw[aq e];exact q)
 obtain⟨fp,gp,e,r,nd,k⟩:=S.rep;have ne:∀c∈fp++gp,c≠a:=λc d z=>by
  have:=(k c d).1;rw[z,f]at this;cases this
 refine⟨⟨fp,gp,e.conv g λc d=>aq (ne c QkC),r.conv g λc d=>aq (ne c (hV _ d)),nd,λc d=>⟨by rw[aq QkF];exact(k c d).1,by rw[<- (fc (F:=.bU o Qam) QkF).1];exact(k c d).2⟩⟩,λc u q=>?_,λc u q=>?_,λc u q=>?_,λc u q z=>?_,λc u q im=>?_,λx h h0=>?_⟩
 .by_cases e:c=a
  .subst e;rw[aA,h1 u q]
  .rw[aq e];exact S.bh c u (by rw[(fc e).1];exact q)
 .by_cases e:c=a
  .subst e;rw[aA,j u q]
  .rw[aq e];exact S.zz c u (by rw[(fc e).2];exact q)
 .by_cases e:c=a
  .subst e;rw[aA]at q ⊢;exact q
  .rw[aq e]at q ⊢;exact S.zh c u q
 .by_cases e:c=a
  .subst e;exact i z
  .rw[aq e]at q;have:=S.new c u q (by rw[(fc e).2];exact z)
   rwa [(fc e).1]at this
 .by_cases e:c=a
  .subst e;rw[aA]at q;cases q;cases im
  .rw[aq e]at q ⊢;exact S.tp c u q im
 .have q:=S.tab x h h0;have e:CL x≠a:=λz=>by
   have:=S.zz _ _ q;rw[z,f]at this;cases this
  rwa [(fc e).2]at q
theorem aV.Su(S:Qar)(r:bw K CL H Z t v []):aV K CL b H Z U Y Qb4 QaT:=by
 obtain⟨fp,gp,e,q,nd,k⟩:=S.rep;exact⟨⟨fp,[]++gp,e,.cons r q,nd,k⟩,S.bh,S.zz,S.zh,S.new,S.tp,S.tab⟩
section
variable{e:Expr}{D:cY}{pos:Pos}{x:Str}{i:Nat}
def VX{ks:CI}(n:QaW)(h:U[i]? = some (some (zo ks))):bR X CL b QaF U (zo ks) U:=λH Z Y ts vs Q S k=>by
 obtain⟨fp,gp,e,q,nd,kk⟩:=S.rep;obtain⟨v,f1,f2,f,hv,d,rt,_,_⟩:=e.get h;have c:f2=[]:=by
  obtain⟨_,_,rfl,hz,a⟩:=rt.lS;exact(aN.toF a).2
 subst c;exact bY Qet ⟨v,hv,k v H Z QA QA (S.Su rt)⟩
end
variable{t0:T}{v0 w:V}{i:Nat}{p:Qcq}{kvs:CC}{k:CI}
theorem cy.fresh(rs:QfK)(b:k∉kvs.map (·.1))(v:V):putK gs k v=gs++[(k,v)]:=by
 refine aaR v ?_;cases a:jc gs k with
 | none=>rfl
 | some z=>
  exfalso;refine b ?_;rw[rs.keys];unfold jc at a;obtain⟨q,hf,_⟩:=mf.1 a;have h0:=List.find?_some hf;have h1:q.1=k:=iw h0;rw[<- h1];exact xa (HE hf)
theorem aV.agt(S:Qb9)(ev:Y[i]? = some Qcl)(hi:U[i]? = some Qb3)(n:T.k6 p t0=some QgH)(h:Qed)(o:k∉kvs.map (·.1)) :
  ∃a gs,w=.ref a/\H a=some Qam/\gs.length=kvs.length/\aV K CL b (upd H a (.dT QmV)) Z (U.set i (some (T.lD p (.dct Qjk) t0))) Y ts vs:=by
 obtain⟨f2,gp,j,l,nd,go⟩:=S.AX ev hi n h;cases j with
 | @dct a gs _ g q rs=>
  cases l with
  | @cons _ _ _ _ f e q1 m=>
   have ne:∀c∈g++Qdh,c≠a:=λc d z=>by subst z;exact(kn.1 nd).1 d
   have pm:((a::(g++(f++[])))++e).Perm ((a::g)++Qdh):=t5.2 λc=>by simp only[wz,List.count_cons,List.count_nil];lia
   refine⟨a,gs,rfl,q,rs.length.symm,?_⟩;rw[rs.fresh o];exact go rfl gF rfl (.dct aA (cy.snoc (rs.mono QA λc d=>aq (ne c (by simp[d]))) (q1.mono QA λc d=>aq (ne c (by simp[d])))))
    (m.mono QA λc d=>aq (ne c (by simp[d]))) Qs2 λc d=>pm.mem_iff.1 d
section
variable{δ1:BA}{e e0 e2:Expr}{t1:T}{D:cY}{pos ps:Pos}{dO:CA}
theorem VY(k:CI)(C:QaQ)(h:QaP)(q:QmJ)(r:bR X CL b e2 δ1 (zo k) δ1)(h1:δ1[i]? = some Qg6)(u:T.k6 p t1=some QgH)(l:k∉kvs.map (·.1))(hl:kvs.length<=1000000)(kk:cG X CL b dO (δ1.set i (some (T.lD p (.dct Qjk) t1))) D)
  (hs:Qpt:=by rfl):cG X CL b Qk5 U D:=bK λH Z Y ts vs E S M=>
 mZ (Vp We cA cA cA hs) (h H Z Y ts vs _ S λv H1 Z1 g k1 z=>q H1 Z1 Y _ _ _ z λv0 w H2 Z2 f k2 y ev j=>r H2 Z2 Y _ _ _ y λv2 F Z3 d k3 c=>by
  obtain⟨B,rfl,n⟩:=c.R4;obtain⟨a,gs,s,o,m,x⟩:=c.pop.agt ev h1 u (j.mono k3) l;exact⟨a,_,s,NW.t o n (by rw[m];exact nk hl (by rw[kA];decide)),M.nx _ Y _ Z3 (g.trans (f.trans d)) x kk⟩)
end
end L3
namespace L2
open PySem PySem.Spec PyProof.Rows
variable{X:Cx}{pins:BC}{Y:St}{H:Hp}{s:Qb}{a b:Addr}{k:CI}{gs:B0}{v:V}{A:Qaq}{E:BN}
def agu(I:QE)(h:Qt8):(tupleKind (ez X.prog X.w)).is s.heap k b:=by
 obtain⟨its,a,⟨o,h1,d,n,c⟩,hz⟩:=I.tuple h;exact⟨o,its.toArray,n,h1,d,c,by simpa using Az a⟩
def Yo{Q:BN}(f:QgG)(I:QE)(e:Rd H a Qam)(i:Qt8)(l:jc gs k=some v)(h:∀c s',Inv X pins Y H s'->RelV v c->Q c s'):wpAny Qr A (getItem Qag Qfh) Q E s:=by
 obtain⟨z,hd,xs,rel,dd⟩:=wA I.ck e;obtain⟨c,hw,j⟩:=sU.some_of (v:=v) (o:=(atKey xs k).map (·.2)) (by rw[<- l];exact rel.val k);obtain⟨p,g,d⟩:=mf.1 hw;refine wpAny_getItem_heap (za f) (agu I i) dd g ?_;rw[d];exact h c _ Qc9 j
variable{o i:Expr}{td ty:TE}{pos:Pos}
def apI(X:Cx)(td ty:TE):TE:=λY H Q=>td Y H λx H1=>ty Y H1 λy H2=>∃a v gs k b,x=.ref a/\y=.ref b/\Rd H2 a Qam/\qh X.K H2 b (k.map kV)/\jc gs k=some v/\Q v H2
def VZ(m:Qgw)(n:Qdo)(hi:Qdp)(hs:G7 i):PE X Qgf (apI X td ty):=by
 intro pins s Y H Q I h;refine J2 ME.lookup hs (dF Qmq λu s1 ⟨x,H1,w,e,q1⟩=>dF (hi pins s1 Y H1 _ w q1) λj s2 zz=>?_);obtain⟨y,H2,c,d,a,v,gs,k,b,ex,q,g,p,l,f⟩:=zz;subst ex q;obtain rfl:u=Value.ref a:=e;obtain rfl:j=Value.ref b:=d;obtain⟨_,_,_,_,dd⟩:=wA c.ck g;exact⟨dd.typeIs,Yo m c g p l λz s3 t r=>⟨v,H2,t,r,f⟩⟩
end L2
namespace L3
open PySem PySem.Spec PyProof.Rows L2
variable{K:Frag}{CL:BM}{Z:Hp}{k:CI}{us:B1}
theorem EB{ks:CI}(r:av K CL Z Qoy us):us=ks.map kV:=by
 induction ks generalizing us with
 | nil=>cases r;rfl
 | cons k ks b=>
  rw[ik]at r;cases r with
  | cons r a=>rw[r.key,b a,ik]
section
variable{X:Cx}{b:Bx}{U δ1 U2:BA}{e e1 e2:Expr}{t:T}{d:L3.D}{D:cY}{pos pp:Pos}
theorem aci{kvs:QiU}(k:CI)(r:QaQ)(h1:QsP)(o:QsB)(g:Qjw)(hs:G7 e2:=by exactλ_ _=>rfl):cL X CL b QbU U d U2:=λH Z Y ts vs Q S kk=>
 bY (VZ We cA cA hs) (h1 H Z Y ts vs _ S λv H1 Z1 i k1 q m=>o H1 Z1 Y ts vs _ q λv2 H2 Z2 h k2 p e=>by
  cases m with
  | @dct a gs _ n j=>
   unfold nT at e;obtain⟨_,_,rfl,f,l⟩:=e.lS;rw[EB l]at f;have c:=j.mono k2;rcases c.val (k:=k) with⟨h0,_⟩|⟨d',v',h0,hv,rd⟩
   .rw[g]at h0;cases h0
   .rw[g]at h0;cases h0;exact⟨a,v',gs,k,_,rfl,rfl,Rd.mono k2 n,f,hv,kk v' H2 Z2 QjQ Qaf p rd⟩)
def Yp{ds:BB}(hm:X.mg "tuple" = none)(h:Ql2)(f:Gl X "tuple")(hs:QaA:=by exact bz rfl):bR X CL b QqB U QdB δ1:=λH Z Y ts vs Q S k=>
 bY (mP wm f hm Cg QaY (he:=hs)) (h H Z Y ts vs _ S λv H1 Z1 c k1 a=>by
  have r:=a.tO;obtain⟨_,_,rfl,d,g⟩:=r.lS;exact⟨_,_,rfl,.inr ⟨ay.Dn a.zh d,k _ H1 Z1 c k1 a⟩⟩)
end
variable{e:Expr}{i:Nat}{kvs:QiU}
theorem dN.sx:∀{kvs:EM} {gs:B0},dN K CL Z kvs gs->∀{j:Nat} {x:CI×V},gs[j]? = some x->∃d,kvs[j]? = some (x.1,d)/\bC K CL Z d x.2:=λ{kvs gs} h=>dN.ind (P:=λkvs gs=>∀{j:Nat} {x:CI×V},gs[j]? = some x->∃d,kvs[j]? = some (x.1,d)/\bC K CL Z d x.2) (λ{j x} e=>by simp at e) (λ{k d v _ _} r _ i {j x} e=>by
  cases j with
  | zero=>
   simp at e;subst e;exact⟨d,rfl,r⟩
  | succ j=>
   rw[MW]at e ⊢;exact i e) h
variable{X:Cx}{b:Bx}{δ1:BA}{Y:L2.St}{ts:Bn}{vs:B1}{H1 Z1:Hp}{a:Addr}{o:Obj}{gs:B0}
theorem dN.conv{Z':Hp}(e:Qb6)(h:dN X.K CL Z kvs gs):dN X.K CL Z' kvs gs:=dN.ind (P:=λkvs gs=>dN X.K CL Z' kvs gs) .nil (λr _ i=>.cons (r.conv e) i) h
def atj(X:Cx)(CL:BM)(b:Bx)(δ1:BA)(Y:L2.St)(ts:Bn)(vs:B1)(Z H:Hp)(ds:BB)(J:It)(c:Hp):Prop:=
 AO X CL b δ1 Y ts vs Z H ds J c\/∃a o gs H1 Z1,Z1 a=some Qam/\ay Z Z1/\ay H H1/\aV X.K CL b H1 Z1 δ1 Y ts vs/\(∀d q,X.ip a≠some (.bU d q))/\c=upd H1 a Qab/\AO X CL QeX δ1 Y ts vs QeQ QgA ds J c
variable{H:Hp}{U:BA}
def Ol{H' Z':Hp}{l:L2.St}{f:Bn}{d:B1}(g:Z1 a=some Qam)(n:ay Z Z1)(k1:ay H H1)(h:QrH)(j:ay QeQ Z')(p:ay QgA H')(m:aV X.K CL QeX H' Z' U l f d) :
  H' a=some Qab/\ay Z (upd Z' a Qam)/\ay H Qnm/\aV X.K CL b Qnm (upd Z' a Qam) U l f d:=by
 have k:=h.zh a _ g;have i:Z' a=some Qab:=j a _ aA;have t1:∀u,b.B a=some u->u=.dT gs:=λu q=>by
  have:=h.bh a u q;rw[k]at this;exact(j2 this).symm
 have t2:∀u,b.Z a=some u->u=.dT gs:=λu q=>by
  have:=h.zz a u q;rw[g]at this;exact(j2 this).symm
 refine⟨m.zh a _ i,λc u q=>?_,λc u q=>?_,m.Oj i t1 t2 (h.new a _ g)⟩
 .have q1:=n c u q;by_cases e:c=a
  .subst e;rw[g]at q1;cases q1;exact aA
  .rw[aq e];exact j c u (by rw[aq e];exact q1)
 .have q1:=k1 c u q;by_cases e:c=a
  .subst e;rw[k]at q1;cases q1;exact aA
  .rw[aq e];exact p c u (by rw[aq e];exact q1)
def Sf{Q:VK}(h:sX X e Y H λv H'=>Q v H'\/∃a o gs,H' a=some Qab/\(∀c q,X.ip a≠some (.bU c q))/\Q v Qnm):sX X e Y H Q:=λpins s I=>by
 refine i8 (h pins s I) (λu s' z=>?_) λ_ _ z=>z;obtain⟨v,H',b,r,q⟩:=z;obtain q|⟨a,o,gs,d,hz,q⟩:=q
 .exact⟨v,H',b,r,q⟩
 .exact⟨v,_,b.Oj d hz,r,q⟩
def T.xy:List AW->T->FC
 | [],t=>some t
 | s::p,t=>(t.core.VP s).bind (T.xy p)
def T.Yq:List AW->T->T->T
 | [],u,_=>u
 | s::p,u,t=>match t.core.VP s with
  | some k=>t.KJ (t.core.R9 s (T.Yq p u k))
  | none=>t
variable{t u:T}{v:V}{p:Qcq}
theorem bw.raw(zh:ay Z H):∀(p:Qcq) {t u:T} {v:V} {fp:BY},bw K CL H Z t v fp->T.xy p t=some u->∃w f2,C6 H v p w/\bw K CL H Z u w f2/\∀{b:T},bw K CL H Z b w f2->bw K CL H Z (T.Yq p b t) v fp
 | [],t,u,v,fp,h,e=>by
  cases e;exact⟨v,fp,rfl,h,λr=>r⟩
 | s::p,t,u,v,fp,h,e=>by
  obtain⟨h1,n⟩:=h.Sb;rw[T.xy]at e;cases a:t.core.VP s with
  | none=>rw[a]at e;cases e
  | some k=>
   rw[a]at e;obtain⟨c,a1,a2,a3,q1,m,l,j⟩:=h1.VP zh a;obtain⟨w,f2,g,f,d⟩:=bw.raw zh p l e;refine⟨w,f2,⟨c,q1,g⟩,f,λ{b} i=>?_⟩;rw[T.Yq,a,m];exact n (j Qcc (d i))
section
variable{o:Expr}{D:cY}{m:Nat}{c:Str}
noncomputable def apJ{U2:BA}(h:QaP)(q:δ1=U2):bR X CL b e U t U2:=q▸h
structure FqR(X:Cx)(CL:BM)(c m:Str)(k n:Nat){A:Type}(arg:Qap)(Pre:Qae)(exc:QcP):Prop where
 ex:∃f fd ps,Meth X.K (CL c) m f/\dB X.prog X.w X.K X.mg X.base Qgc k f fd ps Qsd/\Binds X.K fd ps []
 room:eL k X.A
 cls:yU X.K (CL c)
end
instance axe:DecidableEq D:=λa b=>Classical.propDecidable (a=b)
inductive As:Nat->D->Prop where
 | int (n:Nat) (i:Int):As n Qbr
 | str (n:Nat) (x:Str) (h:Qm8):As n Qa4
 | tup {n:Nat} {ds:BB} (h:∀d∈ds,As n d):As Qaa QcW
variable{n:Nat}
theorem As.dep{d:D}(h:As n d):lU n d:=by
 induction h with
 | int n i=>exact .int n i
 | str n x h=>exact .str n x h
 | tup _ a=>exact .tup a
mutual
inductive NV(h:Heap):D->Value->Prop where
 | int (i:Int) (t:Tok):NV h Qbr QgI
 | str (x:Str) (t:Tok):NV h Qa4 QoU
 | tup {a:Addr} {o:Obj} {its:Ch} {m:Nat} {ds:BB}:h.get? a=some o->o.cls=.type "tuple"->o.data=.seq its m->Sg h ds its.toList->NV h QcW Qag
inductive Sg(h:Heap):BB->B2->Prop where
 | nil:Sg h [] []
 | cons {d:D} {v:Value} {ds:BB} {vs:B2}:NV h d v->Sg h ds vs->Sg h (d::ds) QaT
end
variable{h:Heap}
theorem NV.reads{d:D}{v:Value}(q:NV h d v):∃as,Reads h v d.toPy as:=
 NV.rec (motive_1:=λd v _=>∃as,Reads h v d.toPy as) (motive_2:=λds vs _=>∃as,ReadsAll h vs Qfc as)
  (λi t=>by rw[D.toPy];exact⟨[],.int i t⟩) (λx t=>by rw[D.toPy];exact⟨[],.str x t⟩)
  (λe c f _ ⟨as,a⟩=>by rw[D.toPy];exact⟨as,.tuple e c f a⟩)
  (by rw[D.gT];exact⟨[],.nil⟩) (λ_ _ ⟨as,a⟩ ⟨bs,b⟩=>by rw[D.gT];exact⟨as++bs,.cons a b⟩) q
theorem NV.inj{d:D}{v:Value}(q:NV h d v):∀d2,NV h d2 v->d=d2:=
 NV.rec (motive_1:=λd v _=>∀d2,NV h d2 v->d=d2) (motive_2:=λds vs _=>∀d2,Sg h d2 vs->ds=d2)
  (λi t d2 q=>by cases q;rfl) (λx t d2 q=>by cases q;rfl)
  (λe c m _ j d2 q=>by
   cases q with
   | tup l n f g=>
    cases e.symm.trans l;cases m.symm.trans f;rw[j _ g])
  (λd2 q=>by cases q;rfl) (λ_ _ i1 k d2 q=>by
   cases q with
   | cons a b=>rw[i1 _ a,k _ b]) q
theorem NV.keeps{h':Heap}{d:D}{v:Value}{x:Addr}{es:QfC}{ep:Nat}(q:NV h d v)(i:h.get? x=some o)(hd:Qnu)(hs:Heap.SameBut x h h'):NV h' d v:=
 NV.rec (motive_1:=λd v _=>NV h' d v) (motive_2:=λds vs _=>Sg h' ds vs) .int .str
  (λ{a} {j} {its} {m} {ds} e c f _ g=>.tup ((hs.2 a λz=>by subst z;cases i.symm.trans e;rw[hd]at f;cases f).trans e) c f g)
  .nil (λ_ _ a b=>.cons a b) q
theorem V0{a b:D}(l:As n a):∀m,As m b->tM a b=decide (a=b):=by
 induction l generalizing b with
 | int n i=>
  intro m c;unfold tM;cases c with
  | int _ j=>
   rw[D.toPy,D.toPy,PyData.eqv];by_cases e:i=j
   .rw[e,kf rfl,wy]
   .rw[i3 (λz=>e (by injection z)),oy.2 e]
  | str _ y _=>rw[D.toPy,D.toPy,PyData.eqv,i3 (λz=>by cases z)]
  | tup _=>rw[D.toPy,D.toPy,PyData.eqv,i3 (λz=>by cases z)]
 | str n x _=>
  intro m c;unfold tM;cases c with
  | int _ j=>rw[D.toPy,D.toPy,PyData.eqv,i3 (λz=>by cases z)]
  | str _ y _=>
   rw[D.toPy,D.toPy,PyData.eqv];by_cases e:x=y
   .rw[e,kf rfl,wy]
   .rw[i3 (λz=>e (by injection z)),oy.2 e]
  | tup _=>rw[D.toPy,D.toPy,PyData.eqv,i3 (λz=>by cases z)]
 | @tup n xs o h=>
  intro m c;cases c with
  | int _ j=>unfold tM;rw[D.toPy,D.toPy,PyData.eqv,i3 (λz=>by cases z)]
  | str _ y _=>unfold tM;rw[D.toPy,D.toPy,PyData.eqv,i3 (λz=>by cases z)]
  | @tup m ys k=>
   have all:∀(xs ys:BB),(∀x∈xs,∀b m,As m b->tM x b=decide (x=b))->(∀y∈ys,As m y)->PyData.eqvAll (D.gT xs) (D.gT ys)=decide (xs=ys):=by
    intro xs
    induction xs with
    | nil=>
     intro ys _ _;cases ys with
     | nil=>rw[D.gT,PyData.eqvAll,kf rfl]
     | cons _ _=>rw[D.gT,D.gT,PyData.eqvAll,i3 (λz=>by cases z)]
    | cons x xs d=>
     intro ys h1 g;cases ys with
     | nil=>rw[D.gT,D.gT,PyData.eqvAll,i3 (λz=>by cases z)]
     | cons y ys=>
      have e1:PyData.eqv x.toPy y.toPy=decide (x=y):=h1 x gF y m (g y gF);rw[D.gT,D.gT,PyData.eqvAll,e1,d ys (λz hz=>h1 z QjV) λz hz=>g z QjV];by_cases e:x=y
      .subst e;by_cases e2:xs=ys
       .subst e2;simp
       .simp[e2]
      .simp[e]
   unfold tM;rw[D.toPy,D.toPy,PyData.eqv,all xs ys (λx f b m c=>h x f m c) k];by_cases e:xs=ys
   .subst e;rw[kf rfl,kf rfl]
   .rw[i3 e,i3 (λz=>e (by injection z))]
mutual
def D.ot:D->Nat
 | .tup ds=>D.zy ds+1
 | _=>1
def D.zy:BB->Nat
 | []=>0
 | d::ds=>d.ot+D.zy ds
end
theorem zA(w:World):∀ds:BB,D.J4 w ds=ds.map (D.xr w)
 | []=>by rw[D.J4];rfl
 | d::ds=>by rw[D.J4,zA w ds];rfl
theorem Je(d:D):∀ds:BB,D.zy Qg9=D.zy ds+d.ot
 | []=>by rw[rr,D.zy,D.zy,D.zy];lia
 | e::ds=>by rw[l7,D.zy,D.zy,Je d ds];lia
theorem Sg.snoc{ds:BB}{vs:B2}{d:D}{v:Value}(q:Sg h ds vs)(r:NV h d v):Sg h Qg9 Qkq:=
 Sg.rec (motive_1:=λ_ _ _=>True) (motive_2:=λds vs _=>Sg h Qg9 Qkq) QcX QcX Qh0 QnP (λa _ _ b=>.cons a b) q
variable{P:Qah}{w:World}{A:Qaq}{E:BN}
theorem agv:∀(n:Nat) {A:Qaq} {E:BN} (l:A.units+n<cLine) {d:D} {v:Value} {s:Qb} {Q:Int->Shared->Prop},As n d->NV s.heap d v->Q (d.xr w) {s with toks:=s.toks+d.ot}->wpAny Qch A (pyHash v) Q E s:=by
 intro n
 induction n with
 | zero=>
  intro A E l d v s Q nd q k;cases q with
  | int i t=>exact wpAny_pyHash_int (by rw[D.xr,D.ot]at k;exact k;intro _ z;cases z)
  | str x t=>exact wpAny_pyHash_str (by rw[D.xr,D.ot]at k;exact k;intro _ z;cases z)
  | tup=>cases nd
 | succ n r=>
  intro A E l d v s Q nd q k;cases q with
  | int i t=>exact wpAny_pyHash_int (by rw[D.xr,D.ot]at k;exact k;intro _ z;cases z)
  | str x t=>exact wpAny_pyHash_str (by rw[D.xr,D.ot]at k;exact k;intro _ z;cases z)
  | @tup a o its m ds e c u qs=>
   cases nd with
   | tup nd=>
    have ty:s.TypeIs Qag "tuple":=⟨o,e,c⟩;rw[D.xr,D.ot]at k;unfold pyHash
    first|unfold pyHashByItsType|skip
    first|refine cz (wpAny_cRoomFor_or (.inr We) (cz (u3 ty yA.lookup ?_)))|refine cz (u3 ty yA.lookup ?_)
    show wpAny _ A (ite ((some (Value.builtin "tuple.__hash__")==some Value.none)=true) _ _) Q E s;rw[bS (by rw[beq_builtin_none];decide)];refine cz (u3 ty yA.lookup (cz (wpAny_callSpecialIfBoundUnlessNone?_slot ty yA (w7 yA ty F.entry_tuple_hash ?_ (F.args_tuple_hash_1 _)))));show wpAny _ _ (Builtin.Tuple.tupleItemsOf Qag >>= λ_=>_) _ _ s;refine cz (wpAny_tupleItemsOf e u (cz ?_));rw[<- Array.forIn_toList];refine wpAny_forIn_list _ (λrest (g:Array Int) s1=>∃done left,ds=done++left/\Sg s.heap left rest/\g.toList=D.J4 w done/\s1={s with toks:=s.toks+D.zy done}) _ ?_ ?_ _ _ ⟨[],ds,rfl,qs,by rw[D.J4],by rw[D.zy];rfl⟩
    .rintro x rest g s1 ⟨done,left,rfl,f,j,rfl⟩;cases f with
     | @cons y _ left _ q1 f=>
      have inv:∃b h,done++y::left=b++h/\Sg s.heap h rest/\(g.push (y.xr w)).toList=D.J4 w b/\({s with toks:=s.toks+D.zy done+y.ot}:Shared)={s with toks:=s.toks+D.zy b}:=
       ⟨done++[y],left,Wl,f,by rw[zA]at j ⊢;simp[j],by rw[Je,Nat.add_assoc]⟩
      refine cz (r (by show A.units+1+n<cLine;lia) (s:={s with toks:=s.toks+D.zy done}) (nd y Wl) q1 ?_)
      first
       | exact hL inv
       | exact cz (hL (hL inv))
    .rintro g s1 ⟨done,left,rfl,f,j,rfl⟩;cases f;rw[hX]at k;show wpAny _ _ (retInt (Builtin.Tuple.tupleHashOf g.toList)) _ _ _;rw[j];refine wpAny_ret_mkInt ?_;generalize Builtin.Tuple.tupleHashOf (D.J4 w done)=hv at k ⊢;show wpAny _ _ (ite ((decide (-(2:Int) ^ 63<=hv)&&decide (hv<2 ^ 63))=true) _ _) Q E _;unfold reduceHash at k;by_cases p:(decide (-(2:Int) ^ 63<=hv)&&decide (hv<2 ^ 63))=true
     .rw[ec p]at k ⊢;exact wpAny_pure (by simpa [Nat.add_assoc] using k)
     .rw[bS p]at k ⊢;exact wpAny_bind (wpAny_rule (wpAny_pure (by simpa [Nat.add_assoc] using k)))
def acm:∀(n:Nat) {d:D} {v:Value} {s:Qb} {Q:Qme},As n d->NV s.heap d v->Q true s->wpAny Qch A (eqIsQuiet n v) Q E s:=by
 intro n
 induction n with
 | zero=>
  intro d v s Q nd q k;cases q with
  | int i t=>rw[Hm _ rfl];exact hL k
  | str x t=>rw[Hm _ rfl];exact hL k
  | tup=>cases nd
 | succ n g=>
  intro d v s Q nd q k;cases q with
  | int i t=>rw[Hm _ rfl];exact hL k
  | str x t=>rw[Hm _ rfl];exact hL k
  | @tup a o its m ds e c h qs=>
   cases nd with
   | tup nd=>
    have ty:s.TypeIs Qag "tuple":=⟨o,e,c⟩;unfold eqIsQuiet;refine cz (u3 ty F.slot_tuple_eq.lookup ?_);refine cz (wpAny_isInstance ty isSubtype_tuple_tuple ?_);simp only[Bool.not_true,nh,l6];refine cz (wpAny_seqItems e h (cz ?_));show wpAny _ A (forIn its _ _) _ _ s;rw[<- Array.forIn_toList];refine wpAny_forIn_list _ (λrest r s1=>r.1=none/\s1=s/\∃left,Sg s.heap left rest/\∀d∈left,As n d) _ ?_ ?_ _ _ ⟨rfl,rfl,ds,qs,nd⟩
    .rintro x rest r s1 ⟨f,rfl,left,b,hl⟩;cases b with
     | @cons y _ left _ q1 b=>
      refine cz (g (hl y gF) q1 ?_);simp only[Bool.not_true,nh,l6];exact hL ⟨rfl,rfl,left,b,λd hd=>hl d (hJ _ hd)⟩
    .rintro⟨l,j⟩ s1 ⟨f,rfl,_⟩;simp only at f;subst f;exact hL k
def zB(P:Qah)(w:World):HeapKind P w D where
 is:=λh d a=>As 8 d/\NV h d Qag
 hash:=D.xr w
 draws:=D.ot
 room:=λA=>A.units+9<cLine
 inj:=λf c=>f.2.inj _ c.2
 keeps:=λx l hd hs=>⟨x.1,x.2.keeps l hd hs⟩
 pyHash:=λk g h=>agv 8 We g.1 g.2 h
 eqBool:=λ{A E s x y a b Q} k f c h=>by
  obtain⟨as,j⟩:=f.2.reads;obtain⟨bs,i⟩:=c.2.reads;have h1:=f.1.dep.lay;have m:=c.1.dep.lay;have e:PyData.eqv x.toPy y.toPy=decide (x=y):=V0 f.1 8 c.1;have:=SeqAt.eqAt_reads _ _ A s _ _ _ _ j i h1.1 m.1 (by have:=h1.2;lia);rw[e]at this;exact this P w E Q h
 quiet:=λg h=>acm 8 g.1 g.2 h
variable{pins:BC}{s:Qb}
def NO(I:Qbb){d:D}{u:Value}(hd:As n d)(q:bC X.K CL H d v)(r:QcL):NV s.heap d u:=by
 refine bC.rec (motive_1:=λd v _=>∀(n:Nat) (u:Value),As n d->RelV v u->NV s.heap d u)
  (motive_2:=λds vs _=>∀(n:Nat) (us:B2),(∀d∈ds,As n d)->Vals vs us->Sg s.heap ds us) (motive_3:=λ_ _ _=>True) (motive_4:=λ_ _ _=>True) (motive_5:=λ_ _ _=>True)
  (λ_ _ hd _=>by cases hd) (λb _ _ hd _=>by cases hd) (λi _ _ _ r=>by obtain⟨t,rfl⟩:=r;exact .int i t) (λx _ _ _ r=>by obtain⟨t,rfl⟩:=r;exact .str x t) (λ_ _ _ hd _=>by cases hd) (λ_ _ _ hd _=>by cases hd) (λj _ f n u hd r=>?tup)
  (λ_ _ _ _ _ hd _=>by cases hd) (λ_ _ _ _ _ hd _=>by cases hd) (λ_ _ _ _ _ hd _=>by cases hd) (λ_ _ _ _ _ hd _=>by cases hd) (λ_ _ _ _ _ _ _ hd _=>by cases hd)
  (λ_ _ _ r=>by cases r;exact .nil) (λ_ _ f a n us h r=>?cons) trivial Qas trivial Qas trivial Qas q n u hd r
 case tup=>
  cases hd with
  | tup hd=>
   cases r;obtain⟨its,g,⟨o,e,c,k,l⟩,_⟩:=I.tuple j;exact .tup e c l (by simpa using f _ _ hd g)
 case cons=>
  cases r with
  | cons r rs=>exact .cons (f n _ (h _ gF) r) (a n _ Qvg rs)
def r0(X:Cx)(CL:BM)(H:Hp)(a:Addr)(ds es:BB)(vs us:B1):Prop:=H a=some (.ext (J5 X.w a ds vs us))/\av X.K CL H ds vs/\av X.K CL H es us/\(∀d∈ds,As 8 d)/\ds.Nodup
theorem r0.have(I:Qbb){ds es:BB}(g:r0 X CL H a ds es vs us) :
  Qcb=false/\∃xs:ES,s.heap.DictOfH (zB X.prog X.w) a xs/\xs.map (·.1)=ds/\xs.map Qmc=vs/\Vals us Qib:=by
 obtain⟨e,r,_,hn,nd⟩:=g;obtain⟨⟨sm,xs,o,es,ep,h1,n,m,l,c,f,k⟩,_⟩:=I.ck a _ e;refine⟨sm,xs,⟨o,es,ep,h1,n,m,l,λx j=>?_,by rw[c];exact nd⟩,c,f,k⟩;obtain⟨i,hi⟩:=List.mem_iff_getElem?.1 j;have hd:ds[i]? = some x.1:=by rw[<- c,ib,hi];rfl
 have hv:vs[i]? = some (.ref x.2.1):=by rw[<- f,ib,hi];rfl
 obtain⟨v,b,h⟩:=r.get hd;rw[hv]at b;cases b;have d:=hn x.1 (i0 hd);exact⟨d,NO I d h rfl⟩
def apK{xs:ES}{ds:BB}{k:D}{u:V}(h:xs.map (·.1)=ds)(nd:ds.Nodup)(hv:Vals us Qib)(f:k∈ds)(d:us[ds.idxOf k]? = some u):∃p,atKey xs k=some p/\RelV u p.2:=by
 have hi:ds[ds.idxOf k]? = some k:=by
  rw[iB (List.idxOf_lt_length_iff.2 f)];exact congrArg some (List.getElem_idxOf _)
 rw[<- h,ib]at hi;obtain⟨x,a,e⟩:=mf.1 hi;rw[h]at a;obtain⟨y,b,c⟩:=Paired.sx hv d;rw[ib,a]at b;cases b;exact⟨x.2,atKey_of_get (by rw[h];exact nd) (i:=ds.idxOf k) (by rw[a,<- e]),c⟩
def Sr{xs:ES}{ds:BB}{k:D}(h:xs.map (·.1)=ds)(a:k∉ds):atKey xs k=none:=
 atKey_none_of_get λj p b=>a (by rw[<- h];exact hP.2 ⟨_,i0 b,rfl⟩)
def alY{xs:ES}{ds:BB}{k:D}(h:xs.map (·.1)=ds)(nd:ds.Nodup)(a:k∈ds):∃p,atKey xs k=some p:=by
 rw[<- h]at a nd;obtain⟨x,b,e⟩:=hP.1 a;obtain⟨i,hi⟩:=List.mem_iff_getElem?.1 b;exact⟨x.2,atKey_of_get nd (i:=i) (by rw[hi,<- e])⟩
def Ud{H':Hp}{h':Heap}{ds:BB}(g:J5 w a ds vs us h'):dD P w H' h' a QlS:=by
 refine⟨g,?_,λh1 c q k=>?_⟩
 .obtain⟨_,_,o,_,_,h1,_⟩:=g;exact⟨o,h1⟩
 .obtain⟨sm,xs,o,es,ep,q1,b⟩:=q;exact⟨sm,xs,o,es,ep,k o q1,b⟩
def agw{h':Heap}{c:Addr}{ds:BB}{xs:ES}{k:D}{u:V}{r:Value}(sm:Qcb=false)(dd:h'.DictOfH (zB P w) a (xs++[(k,c,r)]))(h:xs.map (·.1)=ds)(g:xs.map Qmc=vs)(hv:Vals us Qib)(b:RelV u r) :
  J5 w a Qkr (vs++[.ref c]) (us++[u]) h':=by
 obtain⟨o,es,ep,h1,f,e,d,_,_⟩:=dd;exact⟨sm,_,o,es,ep,h1,f,e,d,by rw[h7,h];rfl,by rw[h7,g];rfl,by rw[h7];exact Paired.snoc hv b⟩
variable{o i value:Expr}{es:Cl}{pos pos':Pos}{td ty tv:TE}
theorem KP(h:A.units+64<cLine):(zB P w).room A.in1:=by
 show A.units+1+9<cLine;lia
noncomputable def agx(h:Heap)(a:Qml):J5 w h.objs.size [] [] [] (h.push {cls:=.type "dict",data:=.dict #[]}):=
 ⟨oy.2 Qou,[],_,#[],0,jj _ rfl,⟨rfl,rfl,rfl⟩,rfl,rfl,rfl,rfl,.nil⟩
def agy:PE X QeI (λ_ H Q=>∀p,H p=none->Q Qbl (upd H p (.ext (J5 X.w p [] [] [])))):=λpins s Y H Q I h=>
 wpAny_Dict_empty ⟨.ref s.heap.objs.size,_,I.laid (a:=s.heap.objs.size) (o:=.ext (J5 X.w s.heap.objs.size [] [] [])) (t':=s.toks) Qiu (hI _) (Ud (agx s.heap I.big)),rfl,h _ Qcw⟩
def zv(X:Cx)(CL:BM)(H:Hp)(k:D)(c:Addr):Prop:=As 8 k/\bC X.K CL H k Qfj
theorem zv.is{k:D}{c:Addr}(I:Qbb)(h:zv X CL H k c):(zB X.prog X.w).is s.heap k c:=⟨h.1,NO I h.1 h.2 rfl⟩
def agz(l:QaQ)(n:Qdo)(hi:Qdp)(hs:G7 i):PE X Qgf (λY H Q=>td Y H λx H1=>ty Y H1 λy H2=>∃a c ds es vs us k u,x=.ref a/\y=.ref c/\r0 X CL H2 a ds es vs us/\zv X CL H2 k c/\k∈ds/\us[ds.idxOf k]? = some u/\Q u H2):=by
 intro pins s Y H Q I h;refine J2 ME.lookup hs (dF Qmq λu s1 ⟨x,H1,v,e,q1⟩=>dF (hi pins s1 Y H1 _ v q1) λj s2 zz=>?_);obtain⟨y,H2,b,d,a,c,ds,es,vs,us,k,w,ex,t,g,q,hm,hw,f⟩:=zz;subst ex t;obtain rfl:u=Value.ref a:=e;obtain rfl:j=Value.ref c:=d;obtain⟨sm,xs,dd,h1,z,r⟩:=r0.have b g;obtain⟨p,m,ep⟩:=apK h1 g.2.2.2.2 r hm hw;exact⟨dd.typeIs,wpAny_getItem_heap (KP l) (q.is b) dd m ⟨w,H2,b.tok _,ep,f⟩⟩
def agA(l:QaQ)(hi:Qdp)(n:Qdo):PC X .NotIn i o (λY H Q=>ty Y H λy H1=>td Y H1 λx H2=>∃a c ds es vs us k,x=.ref a/\y=.ref c/\r0 X CL H2 a ds es vs us/\zv X CL H2 k c/\Q (.bl (!decide (k∈ds))) H2):=by
 intro pins s Y H Q I h;refine dF Qii λj s1 ⟨y,H1,t,d,q1⟩=>dF (n pins s1 Y H1 _ t q1) λu s2 zz=>?_;obtain⟨x,H2,b,e,a,c,ds,es,vs,us,k,ex,r,g,q,f⟩:=zz;subst ex r;obtain rfl:u=Value.ref a:=e;obtain rfl:j=Value.ref c:=d;obtain⟨sm,xs,dd,h1,w,v⟩:=r0.have b g;refine wpAny_notIn_heap (KP l) (q.is b) sm dd ⟨_,H2,b.tok _,?_,f⟩;by_cases hm:k∈ds
 .obtain⟨p,m⟩:=alY h1 g.2.2.2.2 hm;rw[m,kf hm];rfl
 .rw[Sr h1 hm,i3 hm];rfl
theorem agB(z:QaQ)(B:Qdo)(hi:Qdp)(hv:Qjx)(hs:Qpm) :
  PS X Qqw (λD Y H=>tv Y H λv H1=>td Y H1 λx H2=>ty Y H2 λy d=>∃a c ds es vs us k,x=.ref a/\y=.ref c/\r0 X CL d a ds es vs us/\zv X CL d k c/\k∉ds/\ds.length<=1000000/\D.nx Y (upd d a (.ext (J5 X.w a Qkr (vs++[.ref c]) (us++[v]))))):=by
 intro pins s Y H D I h;refine wpAny_Assign_Subscript (dF Qmk λr s1 ⟨v,H1,L,m,q1⟩=>dF (B pins s1 Y H1 _ L q1) λu s2 ⟨x,H2,K,l,p⟩=>dF (hi pins s2 Y H2 _ K p) λt s3 zz=>?_) hs;obtain⟨y,d,e,j,a,c,ds,es,vs,us,k,ex,G,g,C,hm,hl,n⟩:=zz;subst ex G;obtain rfl:u=Value.ref a:=l;obtain rfl:t=Value.ref c:=j;obtain⟨sm,xs,dd,h1,F,E⟩:=r0.have e g;have hz:xs.length<=sizeLine:=by rw[kA,<- cq (f:=(·.1)),h1];lia
 refine wpAny_setItem_heap (hsz:=hz) (KP z) (C.is e) dd λh' b J=>⟨Y,_,?_,n⟩;rw[storedH_new (Sr h1 hm)]at b;have g2:=agw sm b h1 F E m;exact J1 e (by rw[g.1];exact True.intro) J (let ⟨_,_,o,_,_,q,_⟩:=g2;⟨o,q⟩) (Ud g2)
variable{ds:BB}{k d:D}
theorem av.snoc{ds:BB}{d:D}(h:QfE)(q:QcN):av K CL Z Qg9 Qkq:=
 av.ind (P:=λds vs=>av K CL Z Qg9 Qkq) (.cons q .nil) (λa _ i=>.cons a i) h
theorem aV.apM{p:Addr}(S:Qar)(d:Qdq):ay H Qld/\aV K CL b Qld Z U Y (.jN w [] []::ts) Qe6:=by
 obtain⟨fp,gp,e,r,nd,k⟩:=S.rep;have f:Z p=none:=S.zh.free d;have sh:ay H Qld:=ay.upd d;have keep:∀a∈fp++gp,a≠p:=λa c=>by
  have:∃o,H a=some o:=by
   obtain h|h:=hG.1 c
   .exact e.there a h
   .exact r.there a h
  obtain⟨o,q⟩:=this;exact aJ q d
 refine⟨sh,⟨⟨fp,[p]++gp,e.mono QA Qep,.cons (.jN aA .nil .nil) (r.mono QA λa c=>aq (keep a (by simp[c]))),?_,λa c=>?_⟩,S.bh.trans sh,S.zz,S.zh.trans sh,S.new,λa o q i=>?_,S.tab⟩⟩
 .refine(pw (l₁:=fp) (l₂:=gp) (a:=p)).nodup_iff.2 QhE
 .rcases fF.1 ((pw (l₁:=fp) (l₂:=gp) (a:=p)).mem_iff.1 c) with h|h
  .subst h;exact⟨f,S.bh.free d⟩
  .exact k a h
 .by_cases h:a=p
  .subst h;rw[aA]at q;cases q;cases i
  .rw[aq h]at q;exact S.tp a o q i
section
variable{U2:BA}{e1 e2:Expr}{ds es ks:BB}{d:L3.D}{D:cY}
structure FK(ds:BB):Prop where
 n:∀d∈ds,As 8 d
 d:ds.Nodup
 l:ds.length<=1000000
def agD:bR X CL b QeI U (.jN X.w [] []) U:=λH Z Y ts vs Q S kk=>bY agy λp a=>by
 obtain⟨c,d⟩:=S.apM a;exact kk _ _ Z QA c d
def agE(o:QaQ)(ok:FK ds)(h1:cL X CL b e1 U Qnz δ1)(q:cL X CL b e2 δ1 Qfe U2)(h:QuA)(hd:es[ds.idxOf Qfe]? = some d)(hs:G7 e2:=by exactλ_ _=>rfl):cL X CL b QbU U d U2:=λH Z Y ts vs Q S kk=>
 bY (agz (CL:=CL) o cA cA hs) (h1 H Z Y ts vs _ S λv H1 Z1 j k1 s m=>q H1 Z1 Y ts vs _ s λv2 H2 Z2 i k2 r g=>by
  cases m with
  | @jN a _ gs hs _ _ p l f=>
   have c:=g;obtain⟨_,_,rfl,x,t⟩:=g.lS;obtain⟨u,e,k⟩:=(f.mono k2).get hd;exact⟨a,_,ds,es,gs,hs,.tup ks,u,rfl,rfl,⟨k2 _ _ p,l.mono k2,f.mono k2,ok.n,ok.d⟩,⟨ok.n _ h,c⟩,h,e,kk u H2 Z2 (j.trans i) Qaf r k⟩)
theorem agF(k:QaQ)(ok:FK ds)(h1:cL X CL b e1 U Qfe δ1)(o:cL X CL b e2 δ1 Qnz U2)(l:As 8 Qfe)(hm:QhV) :
  sN X CL b Qeq U (!decide QuA) U2:=λH Z Y ts vs Q S kk=>
 y9 (DT (agA (CL:=CL) k cA cA) hm) (h1 H Z Y ts vs _ S λv H1 Z1 g k1 q e=>o H1 Z1 Y _ _ _ q λv2 H2 Z2 f k2 p j=>by
  cases j with
  | @jN a _ gs hs _ _ m h i=>
   have c:=e.mono k2;obtain⟨_,_,rfl,s,r⟩:=e.lS;exact⟨a,_,ds,es,gs,hs,.tup ks,rfl,rfl,⟨m,h,i,ok.n,ok.d⟩,⟨l,c⟩,_,rfl,kk H2 Z2 QgU Qaf p⟩)
end
def So{b:World}{ds:BB}(h:∀d∈ds,d.xr w=d.xr b)(a:Addr)(vs us:B1):J5 w a ds vs us=J5 b a ds vs us:=by
 have one:∀{w b:World},(∀d∈ds,d.xr w=d.xr b)->∀g:Heap,J5 w a ds vs us g->J5 b a ds vs us g:=λ{w b} h g q=>by
  obtain⟨sm,xs,o,es,ep,h1,l,k,j,c,i,f⟩:=q;refine⟨sm,xs,o,es,ep,h1,l,k,?_,c,i,f⟩;rw[j];refine ow λx e=>?_;rw[h x.1 (by rw[<- c];exact hP.2 ⟨x,e,rfl⟩)]
 funext g;exact propext ⟨one h g,one (λd hd=>(h d hd).symm) g⟩
theorem alZ{c:World}{ds es:BB}(h:cL X CL b e U QgK δ1)(hw:∀d∈ds,d.xr w=d.xr c):cL X CL b e U Qoa δ1:=λH Z Y ts vs Q S k=>
 h H Z Y ts vs _ S λv H1 Z1 f k1 l r=>k v H1 Z1 f k1 l (by
  cases r with
  | @jN a _ gs hs _ _ j g i=>exact .jN (by rw[<- So hw];exact j) g i)
section
variable{x:Str}{d:D}
def ao{i:Int}{j:Nat}:cL X CL b QlQ U Qbr U:=au lB
def dY{j:Nat}:cL X CL b QlR U Qa4 U:=au dH
def aC(h:Nat.ble n 1000=true:=by rfl):n<=sizeLine:=IQ h
variable{α:Type}{l:Q8}{u0 u1 u2 v:α}
def qW:yO (v::l) 0=some v:=dQ rfl
def vY:yO (u0::v::l) 1=some v:=dQ rfl
def EC:yO (u0::u1::v::l) 2=some v:=dQ rfl
def Om:yO (u0::u1::u2::v::l) 3=some v:=dQ rfl
section
variable{scope:Scope}{Nc:At}{C:Addr}{fp:BY}(i:Nat)
def AY(h1:Nc[i]? = some x:=by rfl)(a:QhO:=by decide +kernel)(hd:AD x:=by decide)(iO:AE x:=by decide):Vn QbJ i x:=YO h1 a hd iO
def Of(h1:Nc[i]? = some x:=by rfl)(a:Qly:=by decide +kernel)(hd:AD x:=by decide)(iO:AE x:=by decide):Vn QbJ i x:=ak7 h1 a hd iO
def jl(h:U[i]? = some QdK:=by rfl)(n:Vn QbJ i x:=by exact AY _):cL QbJ CL b QaF U d U:=au (v_ n h)
def iK(h:U[i]? = some QdK:=by rfl)(n:Vn QbJ i x:=by exact Of _):cL QbJ CL b QaF U d U:=au (v_ n h)
def Hj(a:Qk4:=by decide +kernel):Gl QbJ x:=afN a
end
abbrev kD(X:Cx)(CL:BM)(b:Bx)(st:Stmt)(N:At){A:Type}(arg:Qap)(Pre:Qae)(res:QaV):Prop:=∀ ⦃a:A⦄,Pre a->cG X CL b QbE Qgv {nx:=λ_=>res a=.sh .non,rt:=λc _=>c=res a}
end
abbrev Jf(X:Cx)(s:Str):Prop:=X.env.kindOf s=some .cell
structure Wq(n:Nat)(p:Prop):Prop where
 h:p
structure jA(K:Frag)(x:Str)(st:Stmt)(f:Addr)(fd:QaN):Prop extends Vo K x x st f fd where
 m:InG K x f
 dn:fd.defaults=.none
structure nZ(K:Frag)(C:Addr)(x qual:Str)(st:Stmt)(f:Addr)(fd:QaN):Prop extends Vo K x qual st f fd where
 a:findIn K Qan x=some Qc2
 i:isFn K Qaj=true
 dn:fd.defaults=.none
variable{x:Str}{st:Stmt}{f:Addr}{fd:QaN}{ps:At}
theorem jA.binds(F:Qob)
  (h:∀(kV doc pm:Value) (an:Do) (d7 ct:Value) (us:B2),us.length=ps.length->bindArgs QkO ⟨us,[]⟩=pure QcD):Binds K fd ps []:=F.1.binds F.dn h
variable{C:Addr}{qual:Str}
theorem nZ.binds(F:Qt9)
  (h:∀(kV doc pm:Value) (an:Do) (d7 ct:Value) (us:B2),us.length=ps.length->bindArgs QfN ⟨us,[]⟩=pure QcD):Binds K fd ps []:=F.1.binds F.dn h
abbrev DdM(X:Cx)(CL:BM)(b:Bx)(st:Stmt)(N:At){A:Type}(arg:Qbv)(Pre:Qae)(res:QaV)(out:Qbv):Prop:=
 ∀a,Pre a->cG X CL b QbE Qjp {nx:=λU=>res a=.sh .non/\Keeps U Qfr,rt:=λc U=>c=res a/\Keeps U Qfr}
section
variable{oc kV doc pm d7 ct:Value}{od an:Do}{IB:Da}
def fn1(m:Qsg)(l:K.lookup f=some ⟨oc,od,.func QkO,IB⟩)(c:codeIn K d7 x=true)(k:Qgm):jA K x st f QkO:=⟨ZA l c k,m,rfl⟩
def fn2(a:findIn K Qan x=some Qc2)(i:isFn K Qaj=true)(l:Qqv)(c:QmP)(k:Qgm):nZ K C x qual st f QfN:=⟨ZA l c k,a,i,rfl⟩
end
abbrev LS(x qual:Str)(st:Stmt)(ps:At):Prop:=∀(kV doc pm:Value) (an:Do) (d7 ct:Value),EE ps.length λus=>bindArgs (W.fnOf x qual (gH st) QbE Qa7 Value.none kV doc pm an d7 ct) {pos:=us}=pure QcD
def apO(P:Qah)(w:World)(mg:Bi)(base:Heap){K:Frag}{h:Heap}(CL:BM)(l:K.In h)(G:Qu7){x:Str}{st:Stmt}{f:Addr}{fd:QaN}{N ps:At}(k:Nat){A:Type}(arg:Qap)(Pre:Qae)(res:QaV)(F:Qob)(S:Qdn)
  (j:∀{d7:Value} {i:Qaq} {outer:D2} {s:Qb} {H:Hp} {E:XK} {b:Bx} {a:A},eL k (i.deeper (envOfC x Qa7 s.heap.objs.size f d7))->VD (tF oS P w K mg base N x Qa7 f d7 i outer s H E).Q8->Pre a →
   cG (tF oS P w K mg base N x Qa7 f d7 i outer s H E).Q8 CL b QbE Qgv {nx:=λ_=>res a=.sh .non,rt:=λt _=>t=res a})
  (q:LS x x st ps:=by(repeat intro _);rfl) :
  ∃f fd g,dB P w K mg base oS Qao f fd g Qq8/\mg x=some Qaj/\keepIn K Qaj=true/\Binds K fd g []:=⟨f,fd,ps,kW F.1 S λ_ _ _ _ _ _ _ _ _ r p=>j r ⟨⟨S.nd,rfl,.never⟩,r.units⟩ p,j0 l G F.m,F.kp,F.binds λa b c d e f=>KL QnA⟩
def agG:zt X "list.extend" (λx vs H Q=>Pm X.K x vs H Q\/PH X.K x vs H Q):=by
 intro pins s Y H x vs v us Q I a b h;obtain h|h:=h
 .exact agn _ _ _ _ _ _ _ _ _ I a b h
 .exact agb _ _ _ _ _ _ _ _ _ I a b h
section
variable{tl tl0:Bn}{sq:BB->L3.D}{ds:BB}{D:cY}{pp pa pb pc:Pos}{i:Nat}{c f:Str}{dO:CA}{gs:BS}
def Nw(X:Cx)(CL:BM)(b:Bx)(e:Expr)(U:BA)(ds:BB)(δ1:BA):Prop:=
 ∀(H Z:Hp) (Y:L2.St) (ts:Bn) (vs:B1) (Q:VK),aV X.K CL b H Z U Y ts vs->(∀a us H' Z',ay Z Z'->ay H H'->aV X.K CL b H' Z' δ1 Y ts vs->av X.K CL Z' ds us->lQ X.K H' a us\/qh X.K H' a us->Q Qag H')->sX X e Y H Q
def Sh(h:cL X CL b e U (sq ds) δ1)(c:L3.D.aY ds=true)(hd:sq=.lst\/sq=.tup:=by first|exact .inl rfl|exact .inr rfl):Nw X CL b e U ds δ1:=λH Z Y ts vs Q S k=>h H Z Y _ _ _ S λv H1 Z1 g k1 d a=>by
 obtain rfl|rfl:=hd
 .obtain⟨_,_,rfl,f,a⟩:=a.gR;exact k _ _ _ _ g k1 d (av.jS d.tp c a) (.inl f)
 .obtain⟨_,_,rfl,f,a⟩:=a.lS;exact k _ _ _ _ g k1 d (av.jS d.tp c a) (.inr f)
def atm(h:Ql4):Nw X CL b e U ds δ1:=λH Z Y ts vs Q S k=>h H Z Y _ _ _ S λv H1 Z1 c k1 a=>by
 obtain⟨_,_,rfl,f,d⟩:=a.tO.gR;exact k _ _ _ _ c k1 a.pop d (.inl (a.zh.seq f))
def tS(n:QaW)(h0:U[i]? = some QiQ)(h:Nw X CL b e U ds δ1)(h1:δ1[i]? = some QdY)(hl:tl.length+ds.length<=1000000)(k:cG X CL b dO (δ1.set i (some Qs3)) D)
  (t:attributeBase QaO "extend" X.env Qux=eval QaO X.env:=by rfl)
  (o:Qhl:=by rfl)
  (d:Qf3:=by rfl) (hs:QaA:=by exact bz rfl) (w:swapsWith QpR none pos.line X.env=pure false:=by rfl) :
  cG X CL b (.Expr QpR pos::dO) U D:=bK λH Z Y ts vs E S M=>
 mZ (yR (IG y8 PySem.F.slot_list_extend PySem.F.type_list_extend agG Qet QaY t o d hs rfl) w) (by
  obtain⟨v0,e0,r⟩:=S.look h0;refine⟨ _,e0,?_,h H Z Y _ _ _ S λ_ us H1 Z1 m k1 v f c=>?_⟩
  .obtain⟨_,_,rfl,c,_⟩:=r.gR;exact .inl ⟨rfl,_,c⟩
  .obtain⟨a,ws,j,g,s,u⟩:=v.ab7 (p:=[]) f e0 h1 rfl rfl;have q:=M.nx _ Y _ _ m u k;have l:ws.length+us.length<=sizeLine:=by rw[s,<- f.length];exact ke (nk hl Wk)
   exact c.imp (λc=>⟨a,_,_,_,j,rfl,g,c,l,q⟩) λc=>⟨a,_,_,_,j,rfl,g,c,l,q⟩)
def fM(j:QfI)(n:QgD)(nm:QaW)(h:Qdv)(h1:δ1[i]? = some (some (.pin a (.ins c gs))))(hl:gs.length<1000)(k:cG X CL b dO (δ1.set i (some (.pin a (.ins c (oW f t gs))))) D)
  (hs:swapsWith e (some (.Attribute (.Name x pa) f pb)) pc.line X.env=pure false:=by rfl):cG X CL b (.Assign [.Attribute (.Name x pa) f pb] e pc::dO) U D:=bK λH Z Y ts vs E S M=>
 mZ (akz Qlz cA hs) (h H Z Y ts vs _ S λv H' Z' z d=>by
  obtain⟨v0,e0,_⟩:=d.look h1;obtain⟨m,dx,ws,l,g,hlen,o⟩:=d.Jc (p:=[]) (f:=f) e0 h1 rfl rfl;exact⟨_,e0,m,CL c,dx,ws,l,g,j,n,hlen▸hl,M.nx _ Y _ Z' z o k⟩)
end
def V1{W:XK}:Passes Qgc Qby W:=λpins Y H s ev s' I h=>by
 obtain⟨e,C,a0,B,H',rfl,i,g,f,d,c,b,a⟩:=h;exact⟨e,C,pins,Y,H,H',s,rfl,I.jb,a,i,g,.inr ⟨a0,B,⟨d,c,b⟩,.inr f⟩⟩
noncomputable def T.bad:T:=.pin 0 QoK
section
variable{U2 U':BA}{D:cY}{pp apos:Pos}{i k:Nat}{dO:CA}{W:XK}{c m:Str}{A:Type}{Pre:Qae}{exc:QcP}
def V2(i:Nat)(h:U[i]? = some (some T.bad)):cG X CL b dO U D:=λH Z Y ts vs E S M=>by
 obtain⟨fp,gp,e,r,nd,k⟩:=S.rep;obtain⟨v,_,_,_,_,_,rt,_⟩:=e.get h;unfold T.bad at rt;have d:=rt.RC;obtain⟨rfl,c⟩:=d;have a:=c.GX;cases a.2
theorem dX.at(e:dX b W C)(S:Qf5):dX ⟨H,Z⟩ W C:=λH' Z' d zz zh nw tp=>e H' Z' (S.bh.trans d) (S.zz.trans zz) zh (λa o q z=>by
 cases c:Z a with
 | none=>exact J7 S.bh (nw a o q c)
 | some u=>exact S.new a u c z) tp
theorem V3{arg:Qap}(a:A)(i:Qnn)(p:dX b W QdX)(F:QlW)(m:Qaz)(h:vb X CL b Qav U ((arg a).map T.sh) δ1)(j:Pre a)(hn:QcO:=by rfl)
  (g:AD x:=by decide) (he:Qaw:=by exact bz rfl) (hpl:QaK:=by rfl) :
  bR X CL b QbW U t U2:=λH Z Y ts vs Q S kk=>by
 obtain⟨f,fd,ps,q,hm,l,o⟩:=F.ex;refine bY (JR q F.room m hm l o .nil i J6 g he hpl) (h H Z Y ts vs _ S λus H1 Z1 hl r c=>?_);rw[hX];have d:us.length=(arg a).length:=by simp_all
 exact⟨Z1,a,c.zh,c.tp,c.Dq d,hn,j,c.RG,p.at c⟩
theorem arf{pl:Qhk}{arg:Qap}{fs:QuB}{ds:BB}(a:A)(z:Qnn)(K:dX b W QdX)(F:FqR X CL c m k n arg Pre exc)(E:cL X CL b o U Qa3 δ1)(h:G9 X CL b Qav δ1 Qct U2)(j:arg a=.ins c fs::ds)(C:Pre a)(hf:Qgz:=by rfl)(hn:QcO:=by rfl)
  (he:Qaw:=by exact bz rfl) (hpl:QaK:=by rfl)
  (B:eval Qhz X.env=(do
   let I ← eval o X.env
   standAt apos.atName
   let (f,first) ← holding [I] QiM
   callWith pos f first (backTo pos Qex) Qdz):=by rfl) :
  bR X CL b Qhz U t U':=λH Z Y ts vs Q S kk=>by
 obtain⟨f,fd,ps,M,N,J⟩:=F.ex;refine bY (JS cA F.cls M N F.room J .nil z J6 he hpl B) (E H Z Y ts vs _ S λv H1 Z1 R k1 L r=>?_);have u:=r;obtain⟨y,dx,gs,rfl,x,s⟩:=r.Eb;refine⟨y,dx,gs,rfl,x,s.none hf,h H1 Z1 Y ts vs _ L λus H2 Z2 hl P k2 g=>?_⟩;rw[hX];have i:us.length=ds.length:=by simp_all
 have p:=(g.Dq i).mono g.zh;refine⟨H2,a,.refl _,λ_ _ q _=>q,by rw[j];exact .cons (u.mono k2) p,hn,C,g.N1,λH' Z' G ww l nw tp=>?_⟩;obtain⟨Z3,O,d⟩:=g.grown G g.zh ww l nw tp;exact K H' Z3 d.bh d.zz d.zh d.new d.tp
def FF(K:Frag)(CL:BM)(n:Nat)(arg:Qbv)(Pre:Qae)(exc:QcP):Sp:=λvs H _ E=>
 ∃(W:Hp) (a:A) (gp:BY),ay W Qkm/\(∀c o,H c=some o->jd o=true->W c=some o)/\aN K CL H W Qce vs gp/\gp.Nodup/\(arg a).length=n/\Pre a/\m5 CL W/\dX ⟨tP H gp,W⟩ E QdX
theorem V4{mg:Bi}{base:Heap}{N:At}{arg:Qbv}(F:Qdm)(S:Qdn)
  (l:∀(d7:Value) (e:Qaq) (outer:D2) (s:Qb) (H:Hp) (E:XK) (b:Bx) (a:A),eL k (e.deeper QfO)->Pre a->dX b E QdX →
   cG ((tF Qfp P w K mg base N qual Qa7 f d7 e outer s H E).hu (XE (tF Qfp P w K mg base N qual Qa7 f d7 e outer s H E) E)) CL b QbE Qjp {nx:=λ_=>False,rt:=λ_ _=>False}) :
  dB P w K mg base Qfp Qao f fd ps (FF K CL ps.length arg Pre exc):=by
 obtain⟨dV,oc,od,kV,doc,pm,an,d7,ct,IB,rfl,lk,iO⟩:=F.ex;refine Vj lk iO S (λvs H Q E h=>?_) λe outer s H vs Q E i h=>?_
 .obtain⟨W,a,gp,_,_,r,_,hl,_⟩:=h;rw[<- r.length];exact hl
 .obtain⟨W,a,gp,g,tp,r,nd,hl,j,tb,m⟩:=h;have wn:∀c∈gp,W c=none:=λc d=>by
   cases q:W c with
   | none=>rfl
   | some o=>exact absurd d (jX (g c o q)).1
  have h0:e9 K CL H W Qjp Qok gp:=by
   unfold oX L2.start;rw[<- r.length];exact tQ _ r
  have h1:∀c o,W c=some o->W c=none->tP H gp c=none:=λc o q z=>by grind
  have body:=l d7 e outer s H E ⟨tP H gp,W⟩ a i j m H W _ [] [] {nx:=λ_ _=>False,rt:=λ_ _=>False} ⟨⟨gp,[],h0,.nil,by rw[hX];exact nd,λc d=>by rw[hX]at d;exact⟨wn c d,qU d⟩⟩,λc o q=>(jX q).2,.refl _,λc o q=>(jX (g c o q)).2,h1,tp,tb⟩ ⟨λ_ _ _ _ _ _ z=>z.elim,λ_ _ _ _ _ _ _ _ z=>z.elim,λ_ _ _ _ _ _ z=>z.elim,λ_ _ _ _ _ _ z=>z.elim⟩;refine⟨ _,XQ,λpins s1 I=>?_⟩;refine i8 QsQ (λfl s' z=>?_) λev s' z=>Zl rfl rfl rfl rfl z;cases fl with
  | next=>obtain⟨_,_,_,q⟩:=z;exact q.elim
  | brk=>obtain⟨_,_,_,q⟩:=z;exact q.elim
  | cont=>obtain⟨_,_,_,q⟩:=z;exact q.elim
  | ret u=>obtain⟨_,_,_,_,_,q⟩:=z;exact q.elim
structure Fu(X:Cx)(CL:BM)(c m:Str)(k n:Nat){A:Type}(arg:Qbv)(Pre:Qae)(exc:QcP):Prop where
 ex:∃f fd ps,Meth X.K (CL c) m f/\dB X.prog X.w X.K X.mg X.base Qgc k f fd ps (FF X.K CL n arg Pre exc)/\Binds X.K fd ps []
 room:eL k X.A
 cls:yU X.K (CL c)
theorem Oo{pl:Qhk}{arg:Qbv}{g:QgS}{dl:BB}{fs:BS}(a:Addr->A)(v:Qnn)(G:∀y,dX b W (CL (exc (a y))))(F:Fu X CL c m k n arg Pre exc)(nm:QaW)(hi:Qjf)(h:Qqq)(C:∀y,g y->Pre (a y))
  (hf:Qgz:=by rfl) (j:∀y,g y->arg (a y)=.pin y Qa3::dl.map T.sh:=by intros;rfl) (hlen:∀y,(arg (a y)).length=n:=by intros;rfl)
  (he:Qaw:=by exact bz rfl) (hpl:QaK:=by rfl)
  (B:eval Qel X.env=(do
   let I ← eval QaO X.env
   standAt apos.atName
   let (f,first) ← holding [I] QiM
   callWith pos f first (backTo pos Qex) Qdz):=by rfl) :
  bR X CL b Qel U t U2:=λH Z Y ts vs Q S kk=>by
 obtain⟨f,fd,ps,M,N,D⟩:=F.ex;obtain⟨y,dx,gs,q,ev,E,hn,L⟩:=S.recv hi;refine bY (JS Qlz F.cls M N F.room D .nil v J6 he hpl B) ⟨_,ev,y,dx,gs,rfl,E,hn m hf,h H Z Y _ _ _ L λus H1 Z1 hl O k1 u=>?_⟩;rw[hX];have o:aV X.K CL b H1 Z1 δ1 Y ((T.pin y Qa3::dl.map T.sh).reverse++ts) ((V.ref y::us).reverse++vs):=by simp_all
 obtain⟨gp,r,nd,l⟩:=o.cut Wp;obtain⟨s,p,pm⟩:=r.rev;have J:tP H1 gp=tP H1 s:=funext λc=>by
  by_cases d:c∈gp
  .rw[qU d,qU Qt6]
  .rw[jz d,jz QqQ]
 rw[J]at l;rw[<- j y q]at p;exact⟨Z1,a y,s,l.zh,u.tp,p,pm.nodup_iff.2 nd,hlen y,C y q,u.RG,(G y).at l⟩
end
variable{t0:T}{u v0 wv:V}{i:Nat}{ds es:BB}{k d:L3.D}
theorem aV.al0(S:aV K CL b H Z U Y (.sh k::.sh d::ts) (v::u::vs))(ev:Y[i]? = some Qcl)(hi:U[i]? = some Qb3)(o:T.k6 p t0=some QgK)(l:C6 H v0 p wv) :
  ∃a gs hs,wv=.ref a/\H a=some (.ext (J5 w a ds gs hs))/\av K CL Z ds gs/\av K CL Z es hs/\aV K CL b (upd H a (.ext (J5 w a Qkr (gs++[v]) (hs++[u])))) Z (U.set i (some (T.lD p (.jN w Qkr (es++[d])) t0))) Y ts vs:=by
 obtain⟨f2,gp,m,n,nd,go⟩:=S.AX ev hi o l;cases m with
 | @jN a _ gs hs _ _ q rs h=>
  cases n with
  | @cons _ _ _ _ s j q1 g=>
   replace q1:=q1.GX;obtain⟨rfl,q1⟩:=q1;cases g with
   | @cons _ _ _ _ r j e g=>
    replace e:=e.GX;obtain⟨rfl,e⟩:=e;have ne:∀c∈j,c≠a:=λc f z=>by subst z;exact(kn.1 nd).1 (by simp[f])
    exact⟨a,gs,hs,rfl,q,rs,h,go rfl List.mem_cons_self rfl (.jN aA (rs.snoc q1) (h.snoc e)) (g.mono QA λc f=>aq (ne c f)) (by simpa using nd) λc f=>by simpa using f⟩
section
variable{e0 e2:Expr}{t1:T}{ks:BB}{D:cY}{ps pb:Pos}{dO:CA}{c f:Str}{fs:BS}
def agJ(r:QaQ)(ok:FK ds)(h:Qh6)(y:QmJ)(z:bR X CL b e2 δ1 (.sh Qfe) δ1)(h1:δ1[i]? = some Qg6)(C:T.k6 p t1=some Qnz)(s:As 8 Qfe)(hn:L3.D.tup ks∉ds)(kk:cG X CL b dO (δ1.set i (some (T.lD p (.jN X.w (ds++[.tup ks]) (es++[d])) t1))) D)
  (hs:Qpt:=by rfl):cG X CL b Qk5 U D:=bK λH Z Y ts vs E S M=>
 mZ (agB (CL:=CL) r cA cA cA hs) (h H Z Y ts vs _ S λv H1 Z1 o k1 I=>y H1 Z1 Y _ _ _ I λv0 w H2 Z2 m k2 G ev q=>z H2 Z2 Y _ _ _ G λv2 L Z3 k k3 f=>by
  have j:=f.tO;have g:=j;obtain⟨c,us,rfl,K,J⟩:=j.lS;obtain⟨a,gs,hs,B,x,u,t,F⟩:=f.al0 ev h1 C (q.mono k3);exact⟨a,c,ds,es,gs,hs,.tup ks,B,rfl,⟨x,u.mono f.zh,t.mono f.zh,ok.n,ok.d⟩,⟨s,g.mono f.zh⟩,hn,ok.l,M.nx _ Y _ Z3 (o.trans (m.trans k)) F kk⟩)
def acr{z w:Int}(C:QfI)(n:QgD)(G:nC X CL b e0 U i p)(h1:U[i]? = some Qg6)(s:T.k6 p t1=some Qa3)(hf:fs.lookup f=some (.sh (.int z)))(h:Qs4)(hl:fs.length<1000)
  (k:cG X CL b dO (U.set i (some (T.lD p (.ins c (oW f (.sh (.int (z-w))) fs)) t1))) D):cG X CL b (.AugAssign (.Attribute e0 f pb) .Sub e pos::dO) U D:=bK λH Z Y ts vs E S M=>
 mZ (Xw cA cA akA) (G H Z Y ts vs _ S λv0 v H1 Z1 x k1 t ev q=>by
  obtain⟨v',f2,at',r⟩:=t.x7 ev h1 s;have:=at'.inj q;subst this;obtain⟨a,dx,gs,g,rfl,rfl,F,rs⟩:=r.Eb;obtain⟨y,g1,g2,g3,B,_,j,_⟩:=cJ.at _ rs hf;replace j:=j.GX;obtain⟨rfl,j⟩:=j;cases j;refine⟨a,CL c,dx,gs,_,rfl,F,C,n,B,h H1 Z1 Y ts vs _ t λv2 H2 Z2 u k2 L A=>?_⟩;cases A;obtain⟨N,o,m,I,l,hlen,J⟩:=(L.push (d:=.int (z-w)) Qbu).Jc (f:=f) ev h1 s (q.mono k2);cases I;exact⟨z,w,rfl,rfl,o,m,l,by rw[hlen];exact hl,M.nx _ Y _ Z2 (x.trans u) J k⟩)
end
def KQ{a:World}{ds:BB}(h:∀d∈ds,d.xr w=d.xr a):(D.tup ds).xr w=(D.tup ds).xr a:=by
 rw[D.xr,D.xr,zA,zA,ow h]
section
variable{D:cY}{dO:CA}
def LP(p:Qcq)(c:World)(hi:U[i]? = some Qb3)(n:T.xy p t0=some QgK)(hw:∀d∈ds,d.xr w=d.xr c)(k:cG X CL b dO (U.set i (some (T.Yq p Qoa t0))) D):cG X CL b dO U D:=λH Z Y ts vs E S M=>by
 refine k H Z Y ts vs E ?_ M;obtain⟨fp,gp,e,r,nd,kk⟩:=S.rep;obtain⟨v1,e1,e2,e3,hv,j,rt,put,_⟩:=e.get hi;obtain⟨h,f2,at',l,put2⟩:=rt.raw S.zh p n;have f:bw X.K CL H Z Qoa h f2:=by
  cases l with
  | @jN a _ gs hs _ _ o rs m=>exact .jN (by rw[<- So hw];exact o) rs m
 have g:=put QA Qcc (put2 f);rw[iI hv]at g;subst j;exact⟨⟨_,gp,g,r,nd,kk⟩,S.bh,S.zz,S.zh,S.new,S.tp,S.tab⟩
end
structure FnD(K:Frag)(x:Str)(st:Stmt)(f:Addr)(fd:QaN)(ps:At):Prop extends Vo K x x st f fd where
 m:InG K x f
 b:Binds K fd ps []
def fnD{tp:Addr}{oc:Value}{od an:Do}{IB:Da}{kV doc pm d7 ct:Value}{o:Obj}{items:Ch}(m:Qsg)(l:K.lookup f=some ⟨oc,od,.func Qpo,IB⟩)
  (c:codeIn K d7 x=true) (k:Qgm) (lt:K.lookup tp=some o) (od:o.data=.seq items n)
  (q:EE ps.length λus=>∃kk,bindArgs (W.fnOf x x (gH st) QbE Qa7 (.ref tp) kV doc pm an d7 ct) {pos:=us}=seqItems? (.ref tp) >>= kk/\kk (some items)=pure QcD) :
  FnD K x st f Qpo ps:=by
 refine⟨⟨⟨_,oc,_,kV,doc,pm,an,d7,ct,IB,rfl,l,c⟩,k⟩,m,λs us a hl=>?_⟩;rw[hX]at hl ⊢;obtain⟨kk,e1,e2⟩:=KL q us hl;exact .of_defaults rfl (a _ _ lt) od e1 e2
variable{dO:CA}
theorem cG.mono{D D':cY}(h:cG X CL b dO U D)(nx:∀U,D.nx U->D'.nx U)(rt:∀t U,D.rt t U->D'.rt t U)(bk:∀U,D.bk U->D'.bk U:=by intro _ z;exact z)(ct:∀U,D.ct U->D'.ct U:=by intro _ z;exact z):cG X CL b dO U D':=λH Z Y ts vs E S M=>
 h H Z Y ts vs E S ⟨λU' Y' H' Z' z a q=>M.nx U' Y' H' Z' z a (nx _ q),λt v H' Z' U' Y' z a q=>M.rt t v H' Z' U' Y' z a (rt _ _ q),λU' Y' H' Z' z a q=>M.bk U' Y' H' Z' z a (bk _ q),λU' Y' H' Z' z a q=>M.ct U' Y' H' Z' z a (ct _ q)⟩
namespace Dk
variable{prog:Qah}{it d:Addr}{ep:Nat}{es:QfC}{od:Obj}
def acu{Q:BN}(hd:Quz)(a:QsR)(hQ:Q QbT {s with heap:=s.heap.push {cls:=.type "dict_values",data:=.fields #[.ref d]}}):wpAny Qad A (call QpS [.ref d]) Q E s:=by
 refine w7 PySem.F.slot_dict_values a PySem.F.entry_dict_values ?_ (PySem.F.args_dict_values_1 _);show wpAny _ _ (Builtin.Dict.noArgs "values" ⟨[.ref d],[]⟩ >>= λd=>Builtin.Dict.showsAll d >>= λ_=>newFields "dict_values" [.ref d] >>= ret) _ _ s;unfold Builtin.Dict.noArgs;refine cz (cz (wpAny_notOrdered_dict a (show wpAny _ _ (pure d) _ _ s from hL ?_)));show wpAny _ _ (Builtin.Dict.showsAll d >>= _) _ _ s;unfold Builtin.Dict.showsAll;rw[bS (by rw[hd];exact km)];exact cz (hL (cz (xc (hL ⟨_,rfl,hQ⟩))))
theorem Yr{v:Addr}{Q:BN}(hv:s.heap.IsValuesView v d)(e:s.heap.get? d=some od)(c:QiR)
  (hQ:Q QbT {s with heap:=s.heap.push {cls:=.type "dict_valueiterator",data:=.fields #[.ref d,.int 0 0,.int es.size 0,.int ep 0]}}):wpAny Qad A (pyIter (.ref v)) Q E s:=by
 obtain⟨g,a,f,b⟩:=id hv;refine wpAny_pyIter_slot hv.typeIs PySem.F.slot_dict_values_iter (w7 PySem.F.slot_dict_values_iter hv.typeIs PySem.F.entry_dict_values_iter (cz (hL (cz ?_))) (PySem.F.args_dict_values_iter_1 _));unfold Builtin.Dict_items.dictOf;refine cz (G3 a b (x:=.ref d) rfl (hL (cz ?_)));unfold Builtin.Dict_items.newIterator;refine cz (wpAny_dictEntries e c (cz (wpAny_dictEpoch e c ?_)));simp only[show Builtin.Dict_items.ownsTuple "dict_valueiterator" = false by decide,nh,l6];exact wpAny_newObj_type (wpAny_pure ⟨_,rfl,"dict_valueiterator",_,⟨_,Heap.get?_push_size _ rfl,rfl⟩,PySem.F.slot_dict_valueiterator_next.lookup,by simpa [rawInt,Builtin.Dict_items.ownedTupleFields] using hQ⟩) (by simp only[sizeOk,Builtin.Dict_items.ownedTupleFields,List.size_toArray,List.length_append,List.length_cons,List.length_nil,sizeLine_eq];lia)
theorem Oq{Q:Qt7}(n:Qdl)(hit:s.heap.IsValIter it d i es.size ep)(f:s.heap.get? d=some od)(g:QiR)
  (hQ:∀e,es[i]? = some e->∀h',h'.IsValIter it d Qa5 es.size ep->Heap.SameBut it s.heap h'->Q (some e.val) {s with heap:=h'}) (q:es.size<=i->∀h',Heap.ExtBut it s.heap h'->Q none {s with heap:=h'}):wpAny Qad A Qi7 Q E s:=by
 obtain⟨o,h,p,hd⟩:=id hit;have j:Builtin.Dict_items.ownsTuple "dict_valueiterator" = false:=by decide
 unfold pyNext;refine cz (wpAny_attempt (aBD (name:=Str.ofString "__next__") hit.typeIs PySem.F.slot_dict_valueiterator_next (w7 PySem.F.slot_dict_valueiterator_next hit.typeIs PySem.F.entry_dict_valueiterator_next (cz (hL ?_)) (PySem.F.args_dict_valueiterator_next_1 _))));refine cz (cz (cz (MO hit.typeIs (hL (cz (wpAny_fieldsOf h hd ?_))))));simp only[j,nh,l6];show wpAny _ _ Qqb _ _ s;rw[bS (show ¬ (Qk8=true) from km)];refine cz (hL (cz (wpAny_dictEntries f g ?_)));rw[bS Wl];refine cz (hL (cz (wpAny_dictEpoch f g ?_)));rw[bS Wl];refine hL ?_;by_cases l:i<es.size
 .have c:=Array.getElem?_eq_getElem l;simp only[show ¬ ((i:Int)<0) from by lia,l6,ji,c];refine cz (cz (MO hit.typeIs (hL (cz (wpAny_isOneOf_valiter hit.typeIs ?_)))));show wpAny _ _ (setField Qbq 1 QdF >>= _) _ _ s;have k:(s.heap.update it (Obj.mapFields (·.setIfInBounds 1 QdF))).IsValIter it d Qa5 es.size ep:=
   ⟨_,uj _ h QqR,(Obj.cls_mapFields ..).trans p,by rw[w4 hd];simp[rawInt]⟩
  refine cz (y0 h hd Wl (cz (rq (cz (wpAny_isOneOf_valiter (s:={s with heap:=s.heap.update it (Obj.mapFields (·.setIfInBounds 1 QdF))}) k.typeIs ?_)))));refine cz (wpAny_isOneOf_valiter (s:={s with heap:=s.heap.update it (Obj.mapFields (·.setIfInBounds 1 QdF))}) k.typeIs ?_);show wpAny _ _ (pure es[i].val) _ _ _;exact hL (hL ⟨_,rfl,hL (hQ _ c _ k (ub ..))⟩)
 .have c:=Nat.le_of_not_lt l;simp only[show ¬ ((i:Int)<0) from by lia,l6,ji,wj c];refine cz (cz (MO hit.typeIs (hL ?_)));show wpAny _ _ (setField Qbq 0 .none >>= _) _ _ s;refine cz (y0 h hd Wl ?_);show wpAny _ _ (newExc Qse [] >>= _) _ _ _;refine cz ?_;simp only[newExc,newTuple];refine cz (xc (cz (m:=firstArgMember _ _) (wpAny_of_eq (a:=Value.none) (by first|rfl|(simp only[firstArgMember];rfl)) (xc ?_ (by size_fits)))) (by size_fits));simp only[raiseNew];refine cz (wpAny_handled ?_);rw[show A.in1.handled=none from n];refine cz (hL (wpAny_throw ?_));exact cz (wpAny_isInstance (T:="StopIteration") (b:=true) ⟨_,jj _ rfl,rfl⟩ isSubtype_stop (hL (q c _ (((ub ..).extBut.push _).push _))))
end Dk
def IP(a:Addr)(o:Obj)(gs:B0):It:=
 ⟨λi H=>i<gs.length/\H a=some Qab,λi H x H'=>H'=H/\∃k,gs[i]? = some (k,x),λi H=>gs.length<=i/\H a=some Qab⟩
theorem Ys{tg:Expr}{it:Addr}{o:Obj}{es:QfC}{ep:Nat}(m:Qnu):Turn P w K tg QjX [it] it (λi h=>h.IsValIter it a i es.size ep) where
 mem:=by simp
 obj:=λi h st b j=>by
  have e:b=it:=by simpa using j
  subst e;obtain⟨f,e,c,d⟩:=st;exact⟨f,e,λv z=>by rw[d]at z;cases z⟩
 keep:=λi h h' st k=>st.at λf e=>k it Wl f e
 item:=by
  intro X u hw A p i pins s Y H E I hf st n;subst u hw A;obtain⟨G,t⟩:=n;obtain⟨e,z,y,xs,r,o',D,F,l,c,d,g,nd⟩:=(show dD X.prog X.w H s.heap a Qab from I.ck a _ t);rw[e]at l;cases l;rw[m]at d;cases d;obtain⟨f0,f1,f2,C,f4,B⟩:=hf it Wl;obtain⟨q,O,q1,V,N⟩:=Paired.sx r (i:=i) (x:=gs[i]) (iB G);have J:es[i]? = some Qqc:=by
   rw[<- Array.getElem?_toList,g,ib,O];rfl
  refine Dk.Oq QjS st e m (λl he h' L M=>?_) λz=>absurd J (by rw[wj z];simp);rw[J]at he;cases he;have U:Inv X pins Y H {s with heap:=h'}:=I.turned (t':=s.toks) Qrd f0 f1 C f4 B;obtain⟨f,e2,T,d2⟩:=id L;exact⟨_,rfl,DV (s:={s with heap:=h'}) e2 T d2 Wk ⟨gs[i].2,H,U,N,⟨rfl,gs[i].1,iB G⟩,L,λb j=>(hf b j).1⟩⟩
 done:=by
  intro X u hw A p i pins s Y H E I hf st n;subst u hw A;obtain⟨R,t⟩:=n;obtain⟨e,z,y,xs,r,o',D,F,l,c,d,g,nd⟩:=(show dD X.prog X.w H s.heap a Qab from I.ck a _ t);rw[e]at l;cases l;rw[m]at d;cases d;obtain⟨f0,f1,f2,C,f4,B⟩:=hf it Wl;have hl:=wd r;have hsz:es.size=xs.length:=by rw[<- HA,g,cq]
  exact Dk.Oq QjS st e m (λl he=>by rw[wj We]at he;cases he) λ_ h' S=>⟨rfl,I.turned (t':=s.toks) Qsf f0 f1 C f4 B⟩
 self:=λ_ _ _ _ _ st h=>wpAny_pyIter_valiter st h
def atn(X:Cx)(te:TE):TI:=λY H R=>te Y H λx H1=>∃a gs,x=.ref a/\((H1 a=some Qam/\∀o,(∀b q,X.ip a≠some Qkn)->R QjX QgA)\/∃o,H1 a=some Qab/\R QjX H1)
def agK{te:TE}{tg:Expr}{apos xo:Pos}(he:QbQ)(D:Qp6:=by rfl)(g:QlF:=by rfl):PI X tg (.Call (.Attribute e "values" apos) [] [] xo) (atn X te):=by
 intro pins s Y H R I h;refine wpAny_Call_method0_late D g (dF QbV λv s1 zz=>?_);obtain⟨x,H1,l,n,a,gs,ex,q⟩:=zz;subst ex;cases n;have main:∀(H2:Hp) (o:Obj),L2.Inv X pins Y H2 s1->H2 a=some Qab->R QjX H2->wpAny Qr X.A Qua QkL X.xe s1:=λH2 o i f B=>by
  obtain⟨e,z,y,xs,r,o',es,ep,j,c,d,t,nd⟩:=(show dD X.prog X.w H2 s1.heap a Qab from i.ck a _ f);rw[e]at j;cases j;obtain⟨_,_,_,_,dd⟩:=wA i.ck (.inr ⟨o,f⟩);refine Dk.acu y dd.typeIs (Dk.Yr (s:={s1 with heap:=s1.heap.push _}) ⟨_,jj _ rfl,rfl,rfl⟩ Qdf d ?_);have hz:(s1.heap.push {cls:=.type "dict_values",data:=.fields #[.ref a]}).objs.size=s1.heap.objs.size+1:=y1 ..;refine⟨s1.heap.objs.size+1,[s1.heap.objs.size+1],_,_,H2,by rw[<- hz],i.kept (t':=s1.toks) λb m e=>ia _ Qdf,Ys d,⟨_,by rw[<- hz];exact jj _ rfl,rfl,rfl⟩,λb u=>?_,B⟩;have e:b=s1.heap.objs.size+1:=by simpa using u
  subst e;exact i.Av (mi _) (i.ck.fresh (mi _))
 have go:wpAny Qr X.A Qua QkL X.xe s1:=by
  obtain⟨f,q⟩|⟨o,f,q⟩:=q
  .obtain⟨o,e,hz,i⟩:=l.OA f;exact main _ o i aA (q o hz)
  .exact main _ o l f q
 have p:Rd H1 a Qam:=by
  obtain⟨f,_⟩|⟨o,f,_⟩:=q
  .exact .inl f
  .exact .inr ⟨o,f⟩
 obtain⟨_,_,_,_,dd⟩:=wA l.ck p;have k:=dd;obtain⟨m,E,ep,h1,C,K,J,G⟩:=k;exact⟨"dict","dict.values",PySem.F.plainAttrs_dict,PySem.F.slot_dict_values,PySem.F.type_dict_values,dd.typeIs,λL j=>⟨m,by cases j;exact h1,C.2.1⟩,Calls.callWith_builtin rfl (PySem.evalArgs_none go)⟩
section
variable{D:cY}{px pa pc:Pos}{body:CA}
def ItX(b:QlP)(a:Addr)(o:Obj)(gs:B0):It:=
 ⟨λi H=>i<gs.length/\H a=some Qab,λi H x H'=>H'=H/\b gs i H x,λi H=>gs.length<=i/\H a=some Qab⟩
def iDX(b:QlP)(X:Cx)(te:TE):TI:=λY H R=>te Y H λx H1=>∃a gs,x=.ref a/\((H1 a=some Qam/\∀o,(∀c q,X.ip a≠some (.bU c q))->R (ItX b a o gs) QgA)\/∃o,H1 a=some Qab/\R (ItX b a o gs) H1)
theorem T2{N:Expr}(W:QlP)(tr:CI->L3.D->T)(step:∀{F:Bx} {Z2 H2:Hp} {z:L2.St} {U2:BA} {ts:Bn} {vs:B1} {gs:B0} {j:Nat} {v:V},aV X.K CL F H2 Z2 U2 z ts vs->dN X.K CL Z2 kvs gs->W gs j H2 v->i<U2.length->∃k d,kvs[j]? = some (k,d)/\aV X.K CL F H2 Z2 (U2.set i (some (tr k d))) (z.set i QaL) ts vs)
  (pi:∀{te:TE},PE X e te->PI X Qe5 N (iDX W X te)) (g:Gx X) (nm:Qba) (P:Ee) (h:QdA) (h0:Qec) (hl:∀j U,P j U->i<U.length)
  (hs:∀(F:Bx) (j:Nat) (k:CI) (d:L3.D) U,kvs[j]? = some (k,d)->P j U->cG X CL F body (U.set i (some (tr k d))) {nx:=P QR,rt:=D.rt,bk:=λU2=>cG X CL b dO U2 D,ct:=P QR}) (hd:∀U,P kvs.length U->cG X CL b dO U D)
  (hq:AN X N):cG X CL b (.For Qe5 N body [] pos::dO) U D:=bK λH Z Y ts vs E S M=>
 Jd (mZ (Rn g.xe g.calm (pi cA) (vn g.nd nm.hi nm.loc nm.hf) XQ hq) (h H Z Y ts vs _ S λv H1 Z1 C k1 w=>by
  have r:=w.tO;cases r with
  | @dct a gs _ n G=>
   have xC:kvs.length=gs.length:=G.length;obtain n|⟨o,n⟩:=n
   .have hH:=w.zh a _ n;refine⟨a,gs,rfl,.inl ⟨hH,λo hz=>?_⟩⟩;have S2:=w.pop.ql n o;have IU:dN X.K CL QeQ kvs gs:=dN.conv (λc u q=>by
     by_cases e:c=a
     .subst e;rw[n]at q;cases q;exact .inr QlH
     .exact .inl (by rw[aq e];exact q)) G
    have t1:∀u,b.B a=some u->u=.dT gs:=λu q=>by
     have:=w.bh a u q;rw[hH]at this;exact(j2 this).symm
    have t2:∀u,b.Z a=some u->u=.dT gs:=λu q=>by
     have:=w.zz a u q;rw[n]at this;exact(j2 this).symm
    have t3:b.Z a=none->b.B a=none:=w.new a _ n;have back:∀{Z2:Hp},ay QeQ Z2->ay Z (upd Z2 a Qam):=λ{Z2} s c u q=>by
     have q1:=C c u q;by_cases e:c=a
     .subst e;rw[n]at q1;cases q1;exact aA
     .rw[aq e];exact s c u (by rw[aq e];exact q1)
    refine⟨λj m Y H2=>m=gs.length-j/\j<=gs.length/\∃Z2 U2,ay QeQ Z2/\aV X.K CL QeX H2 Z2 U2 Y ts vs/\P j U2,⟨_,rfl,hY _,_,δ1,.refl _,S2,h0⟩,?_⟩;rintro j m z H2 ⟨rfl,hj,Z2,U2,s,p,p2⟩;have l:Z2 a=some Qab:=s a _ aA;by_cases A:j<gs.length
    .refine .inr ⟨⟨A,p.zh a _ l⟩,λY' H'=>∃Z2 U2,ay QeQ Z2/\aV X.K CL QeX H' Z2 U2 Y' ts vs/\P QR U2,λY' H' h=>⟨gs.length-QR,We,rfl,A,h⟩,λy H' I=>?_⟩;obtain⟨rfl,J⟩:=I;obtain⟨k,d,R,O⟩:=step p (IU.mono s) J QjF;exact hs _ j k d U2 R p2 _ Z2 _ ts vs _ O ⟨λU' Y' H' Z' s' f k=>⟨Z',U',s.trans s',f,k⟩,λt v H' Z' U' Y' s' f k=>.inr ⟨a,o,gs,f.zh a _ (s' a _ l),hz,M.rt t v _ _ U' Y' (back QiI) Qsh k⟩,λU' Y' H' Z' s' f k=>.inr ⟨a,o,gs,f.zh a _ (s' a _ l),hz,M.nx U' Y' _ _ (back QiI) Qsh k⟩,λU' Y' H' Z' s' f k=>⟨Z',U',s.trans s',f,k⟩⟩
    .have L:j=gs.length:=by lia
     subst L;exact .inl ⟨⟨hI _,p.zh a _ l⟩,.inr ⟨a,o,gs,p.zh a _ l,hz,M.nx U2 z _ _ (back s) (p.Oj l t1 t2 t3) (hd U2 (xC▸p2))⟩⟩
   .refine⟨a,gs,rfl,.inr ⟨o,w.zh a _ n,?_⟩⟩;refine⟨λj m Y H2=>m=gs.length-j/\j<=gs.length/\∃Z2 U2,ay Z1 Z2/\aV X.K CL b H2 Z2 U2 Y ts vs/\P j U2,⟨_,rfl,hY _,_,δ1,.refl _,w.pop,h0⟩,?_⟩;rintro j m z H2 ⟨rfl,hj,Z2,U2,s,p,p2⟩;have l:Z2 a=some Qab:=s a _ n;by_cases A:j<gs.length
    .refine .inr ⟨⟨A,p.zh a _ l⟩,λY' H'=>∃Z2 U2,ay Z1 Z2/\aV X.K CL b H' Z2 U2 Y' ts vs/\P QR U2,λY' H' h=>⟨gs.length-QR,We,rfl,A,h⟩,λy H' I=>?_⟩;obtain⟨rfl,J⟩:=I;obtain⟨k,d,R,O⟩:=step p (G.mono s) J QjF;exact hs _ j k d U2 R p2 _ Z2 _ ts vs _ O ⟨λU' Y' H' Z' s' f k=>⟨Z',U',s.trans s',f,k⟩,λt v H' Z' U' Y' s' f k=>.inl (M.rt t v _ _ U' Y' Qu8 f k),λU' Y' H' Z' s' f k=>.inl (M.nx U' Y' _ _ Qu8 f k),λU' Y' H' Z' s' f k=>⟨Z',U',s.trans s',f,k⟩⟩
    .have L:j=gs.length:=by lia
     subst L;exact .inl ⟨⟨hI _,p.zh a _ l⟩,.inl (M.nx U2 z _ _ (C.trans s) p (hd U2 (xC▸p2)))⟩))
def agL(g:Gx X)(nm:Qba)(P:Ee)(h:QdA)(h0:Qec)(hl:∀j U,P j U->i<U.length)
  (hs:∀(a:Bx) (j:Nat) (k:CI) (d:L3.D) U,kvs[j]? = some (k,d)->P j U->cG X CL a body (U.set i (some (zo k))) {nx:=P QR,rt:=D.rt,bk:=λU2=>cG X CL b dO U2 D,ct:=P QR}) (hd:∀U,P kvs.length U->cG X CL b dO U D)
  (m:AN X e:=by intro _;rfl):cG X CL b (.For Qe5 e body [] pos::dO) U D:=
 T2 (λgs i H x=>∃b k v,x=.ref b/\gs[i]? = some (k,v)/\H b=some Qf6) (λk _=>zo k) (λ{a Z2 H2 r U2 ts vs gs j v} c f l hi=>by
  obtain⟨q,k,v,rfl,o,n⟩:=l;obtain⟨d,p,_⟩:=f.sx o;exact⟨k,d,p,(c.Su (.tup (c.tp _ _ n rfl) (aN.JU (zm _)))).set hi⟩) Se g nm P h h0 hl hs hd m
def agM(g:Gx X)(nm:Qba)(P:Ee)(h:QdA)(h0:Qec)(hl:∀j U,P j U->i<U.length)
  (hs:∀(c:Bx) (j:Nat) (k:CI) (d:L3.D) U,kvs[j]? = some (k,d)->P j U->cG X CL c body Qgy {nx:=P QR,rt:=D.rt,bk:=λU2=>cG X CL b dO U2 D,ct:=P QR}) (hd:∀U,P kvs.length U->cG X CL b dO U D)
  (o:Qp6:=by rfl) (a:(pa.endLine==pc.line)=true:=by rfl)
  (m:∀x,foldedSetIterable Qp7 X.env x=pure x:=by intro _;rfl):cG X CL b (.For Qe5 Qp7 body [] pos::dO) U D:=
 T2 (λgs i _ x=>∃k,gs[i]? = some (k,x)) (λ_ d=>.sh d) (λ{c Z2 H2 r U2 ts vs gs j v} p f l hi=>by
  obtain⟨k,n⟩:=l;obtain⟨d,q,rd⟩:=f.sx n;exact⟨k,d,q,(p.push rd).set hi⟩) (λhe=>agK he o a) g nm P h h0 hl hs hd m
end
variable{U2:BA}{e1 e2:Expr}
theorem agN(R:QaQ):yS X (compareOp .In) (λx y H Q=>∃a c,bC X.K CL H a x/\bC X.K CL H (.tup c) y/\lU 60 a/\(∀d∈c,lU 60 d)/\Q (.bl (c.any λd=>tM d a)) H):=by
 classical
 intro pins s Y H x y v u Q I E C h;obtain⟨a,c,F,rc,z,f,q⟩:=h;obtain⟨as,J⟩:=Kf I z F E;obtain⟨l,us,rfl,M,p⟩:=rc.lS;cases C;obtain⟨its,n,⟨o,e,P,k,O⟩,_⟩:=I.tuple M;have at':∀{us:B1} {its:B2} {c:BB},av X.K CL H c us->Vals us its->(∀d∈c,lU 60 d)->∀{j:Nat} {y:Value},its[j]? = some y->∃d,c[j]? = some d/\SeqAt.EqAt X.A.in1 s y v (tM d a):=by
  intro us
  induction us with
  | nil=>intro its c r v _ j y b;cases v;simp at b
  | cons u us L=>
   intro its c r v f j y b;cases r with
   | cons r rs=>
    cases v with
    | cons v vs=>
     cases j with
     | zero=>
      cases b;refine⟨_,rfl,?_⟩;obtain⟨bs,G⟩:=Kf I (f _ gF) r v;exact SeqAt.eqAt_reads _ _ _ _ _ _ _ _ G J (f _ gF).lay.1 z.lay.1 (by have:=z.lay.2;show X.A.units+1+_<_;lia)
     | succ j=>exact L rs vs (λd hd=>f d (hJ _ hd)) b
 have B:∀{us:B1} {its:B2} {c:BB},av X.K CL H c us->Vals us its->c.length=its.length:=λr v=>by rw[r.length,v.length]
 have hl:=B p n;refine SeqAt.in_tupleAt (λy=>decide (∃(j:Nat) (d:L3.D),its[j]? = some y/\c[j]? = some d/\tM d a=true)) ⟨o,e,P,k,O⟩ (λy t=>?_) ⟨.bl _,H,I,rfl,?_⟩
 .by_cases hz:∃(j:Nat) (d:L3.D),its[j]? = some y/\c[j]? = some d/\tM d a=true
  .rw[kf hz];obtain⟨j,d,h1,w,i⟩:=hz;obtain⟨d',m,g⟩:=at' p n f h1;rw[w]at m;cases m;rw[i]at g;exact g
  .rw[i3 hz];obtain⟨j,b⟩:=List.getElem?_of_mem (show y∈its from by simpa using t);obtain⟨d,m,g⟩:=at' p n f b;have:tM d a=false:=by
    cases N:tM d a with
    | false=>rfl
    | true=>exact absurd ⟨j,d,b,m,N⟩ hz
   rw[this]at g;exact g
 .have e:its.toArray.any (λy=>decide (∃(j:Nat) (d:L3.D),its[j]? = some y/\c[j]? = some d/\tM d a=true))=c.any λd=>tM d a:=by
   rw[List.any_toArray,xk,nv,nv];constructor
   .rintro⟨y,_,t⟩;obtain⟨j,d,_,w,i⟩:=iw t;exact⟨d,i0 w,i⟩
   .rintro⟨d,hd,i⟩;obtain⟨j,b⟩:=y4 hd;have S:=(ko.1 b).1;exact⟨its[j],pv We,kf ⟨j,d,iB We,b,i⟩⟩
  rw[e];exact q
def agO(j:QaQ)(h1:cL X CL b e1 U d δ1)(l:cL X CL b e2 δ1 QcW U2)(k1:lU 60 d)(k2:∀d∈ds,lU 60 d)(hm:QlX:=by rfl):sN X CL b QhU U (ds.any λe=>tM e d) U2:=λH Z Y ts vs Q S k=>
 y9 (vo (agN j) cA cA hm) (h1 H Z Y ts vs _ S λv1 H1 Z1 g c n i=>l H1 Z1 Y ts vs _ n λv2 H2 Z2 f a m h=>⟨d,ds,i.mono a,h,k1,k2,_,rfl,k H2 Z2 QgU QcE m⟩)
def gI(kvs:QiU):BB:=kvs.map λq=>nT q.1
variable{o:Obj}
theorem Jg(S:QrH)(e:Z1 a=some Qab)(c:dN X.K CL Z1 kvs gs):AO X CL b δ1 Y ts vs Z1 H1 (gI kvs) QgX H1:=by
 have hl:=c.length;have l:(gI kvs).length=gs.length:=by unfold gI;rw[cq,hl]
 refine⟨Z1,.refl _,.refl _,S,λi H2 s hi=>⟨We,s a _ e⟩,λi Z2 H2 x H' s1 s2 tp hi f=>?_,λH2 s=>⟨We,s a _ e⟩⟩;obtain⟨rfl,j,k,v,rfl,h,g⟩:=f;obtain⟨d,hd,rd⟩:=c.sx h;exact⟨Z2,nT k,by unfold gI;rw[ib,hd];rfl,.refl s2 tp,.tup (qh.of (tp _ _ g rfl)) (zm _)⟩
theorem tH(h:QdA)(S:Qf5):Oy X (sX X e) Y H (atj X CL b δ1 Y ts vs Z H (gI kvs)):=h H Z Y ts vs _ S λv H1 Z1 g k1 f=>by
 have r:=f.tO;cases r with
 | @dct a gs _ d i=>
  refine⟨a,gs,rfl,?_⟩;obtain d|⟨o,d⟩:=d
  .refine .inl ⟨f.zh a _ d,λo hz=>.inr ⟨a,o,gs,H1,Z1,d,g,k1,f.pop,hz,rfl,?_⟩⟩;refine Jg (f.pop.ql d o) aA (dN.conv (λc u q=>?_) i);by_cases e:c=a
   .subst e;rw[d]at q;cases q;exact .inr QlH
   .exact .inl (by rw[aq e];exact q)
  .obtain⟨Z2,q1,k,j⟩:=(Jg f.pop d i).ex;exact .inr ⟨o,f.zh a _ d,.inl ⟨Z2,g.trans q1,k1.trans k,j⟩⟩
variable{scope:Scope}{xs Nc:At}{ix:Co}{elt tg:Expr}{ifs:Cl}{p:L3.D->Bool}{g:L3.D->T}{δc:BA}{parts:Qnq}
def Ot(sc:Qcp)(l:QaU)(h:QdA)(n:(δc=zb δ1 ix/\∀d∈gI kvs,(g d).clean=true)\/δc=Ej δ1 ix)(inner:QkP)(hlen:QiD)
  (hs:AN X e:=by intro _;rfl) :
  bR X CL b Qhx U Qle δ1:=λH Z Y ts vs Q S k=>Sf λpins s I=>by
 have t:(gI kvs).length<=sizeLine:=by unfold gI;rw[cq];exact hlen
 rw[eval_ListComp];refine y2 (use:=none) rfl hs Qkl sc.kind sc.names ?_;refine dF QpI λv s1 h1=>dF h1 λE s2 zz=>?_;obtain⟨it,fp,tn,J,L,e,r,q,st,hf,C⟩:=zz;subst e;obtain C|⟨a,o,gs,H1,Z1,F,u,k1,G,hz,rfl,C⟩:=C
 .refine mR (RR:=λacc C=>compPost Qr X.A X.xe none (EP X pins Y _) acc C) sc l C r q st hf n inner t λD K s' H' Z' m io B ch ci c f i=>?_;obtain⟨m,hn⟩:=m;exact⟨m,hn,λh' j=>⟨.ref D,H',ci h' j,rfl,.inl (k _ H' Z' c f i)⟩⟩
 .refine mR (RR:=λacc C=>compPost Qr X.A X.xe none (EP X pins Y _) acc C) sc l C r q st hf n inner t λD K s' H' Z' m io B ch ci c f i=>?_;obtain⟨m,hn⟩:=m;obtain⟨q1,z,y,x⟩:=Ol F u k1 G c f i;exact⟨m,hn,λh' j=>⟨.ref D,H',ci h' j,rfl,.inr ⟨a,o,gs,q1,hz,k _ _ _ z y x⟩⟩⟩
def agP{D:cY}{y:Str}{py f:Pos}(i:Nat)(sc:Qcp)(t:QaU)(h:QdA)(u:(δc=zb δ1 ix/\∀d∈gI kvs,(g d).clean=true)\/δc=Ej δ1 ix)(inner:QkP)(hlen:QiD)
  (k:D.nx (δ1.set i (some Qle))) (hl:Qb5) (x:Qbm) (hi:X.N[i]? = some y) (r:Qnl) (c:AM X y)
  (W:swapsWith Qhx (some QfT) f.line X.env=pure true)
  (hs:AN X e:=by intro _;rfl) :
  Vr X CL b (.Assign [.Name y py] Qhx f) U D:=λH Z Y ts vs E S M=>Jd λpins s I=>by
 have F:(gI kvs).length<=sizeLine:=by unfold gI;rw[cq];exact hlen
 rw[exec_Assign_Name_used _ _ _ _ W];refine cz (yY (cz ?_));show wpAny _ X.A (do let _ ← comprehension Qhx scope X.env _ Qjz false QdH Qe3) _ _ s;refine cz (i8 (y2 (use:=some QkH) (Q:=λ_ s'=>SP X pins (KN X E) .next s') rfl hs Qkl sc.kind sc.names ?_) (λ_ s' P=>hL (hL P)) λ_ _ e=>e);refine dF QpI λv s1 h1=>dF h1 λO s2 zz=>?_;obtain⟨it,fp,tn,J,Hf,e,B,z,st,hf,C⟩:=zz;subst e;obtain C|⟨a,o,gs,H1,Z1,R,G,k1,T,hz,rfl,C⟩:=C
 .exact mR (RR:=λacc C=>compPost Qr X.A X.xe Qe3 Qqd acc C) sc t C B z st hf u inner F λD' V s' H' Z' m io l ch ci j q n=>Ko x hi r c m io l ch ci (.inl (M.nx _ _ _ Z' j (n.set hl) k))
 .refine mR (RR:=λacc C=>compPost Qr X.A X.xe Qe3 Qqd acc C) sc t C B z st hf u inner F λD' V s' H' Z' m io l ch ci j q n=>?_;obtain⟨q1,L,q3,K⟩:=Ol R G k1 T j q (n.set hl);exact Ko x hi r c m io l ch ci (.inr ⟨a,o,gs,q1,hz,M.nx _ _ _ _ L K k⟩)
def al1{D:cY}{a:Pos}(f:Gx X)(n:Qba)(sc:Qcp)(h:QdA)(j:(δc=zb δ1 ix/\∀d∈gI kvs,(g d).clean=true)\/δc=Ej δ1 ix)(inner:QkP)(hlen:QiD)
  (k:cG X CL b dO (δ1.set i (some Qle)) D) (hl:Qb5)
  (c:swapsWith QkX Qei pos.line X.env=pure true\/swapsWith QkX Qei pos.line X.env=pure false)
  (hs:AN X e:=by intro _;rfl) :
  cG X CL b (.Assign [.Name x pos'] QkX pos::dO) U D:=by
 obtain c|c:=c
 .exact bK (agP i sc f.calm h j inner hlen k hl f.nd n.hi n.loc n.hf c hs)
 .exact bK (Ka i (Ot sc f.calm h j inner hlen hs) k hl f.nd n.hi n.loc c n.hf)
variable{c:Str}{fs:QuB}
def agQ{kj:Nat}{p2:Pos}(h:cL X CL b e1 U Qa3 δ1):sN X CL b QkV U false δ1:=λH Z Y ts vs Q S k=>
 y9 (DT (Rj cA)) (h H Z Y ts vs _ S λv H1 Z1 a k1 d r=>by
   obtain⟨_,_,_,rfl,_,_⟩:=r.Eb;exact⟨_,rfl,by simpa using k H1 Z1 a k1 d⟩)
theorem acw(k:CI)(p:QaQ)(h1:Qru)(n:QsB)(g:Qjw)(hs:G7 e2:=by exactλ_ _=>rfl):bR X CL b QbU U QaR U2:=λH Z Y ts vs Q S kk=>
 bY (VZ We cA cA hs) (h1 H Z Y ts vs _ S λv H1 Z1 i k1 o=>n H1 Z1 Y _ _ _ o λv2 H2 Z2 h k2 c e=>by
  have r:=c.tO;cases r with
  | @dct a gs _ m j=>
   unfold nT at e;obtain⟨_,_,rfl,f,l⟩:=e.lS;rw[EB l]at f;rcases j.val (k:=k) with⟨h0,_⟩|⟨d',v',h0,hv,rd⟩
   .rw[g]at h0;cases h0
   .rw[g]at h0;cases h0;exact⟨a,v',gs,k,_,rfl,rfl,Rd.mono c.zh m,f,hv,kk v' H2 Z2 QjQ Qaf (c.pop.push rd)⟩)
structure EL(X:Cx)(N G:At):Prop extends VD X where
 ll:∀(i:Nat) {x:Str} (_:N[i]? = some x:=by rfl),Ln X i x
 gg:∀(i:Nat) {x:Str} (_:G[i]? = some x:=by rfl),Gl X x
noncomputable abbrev T1(N:At):Bool:=N.all λx=>!(x==("__debug__":Str)) && !(x==("__classdict__":Str))
variable{N P G:At}{tb:DO}
def gE(u:VD X)(c:QmK)(a:X.N=N:=by rfl)(hf:∀x,X.fn x=true:=by exactλ_=>rfl)(hd:T1 N=true:=by decide +kernel):EL X N G:=
 ⟨u,λi x h=>by
  have:=oD.1 hd _ (i0 h);simp only[kx,u6]at this;exact gL c i h (by rw[a];exact h) (hf x) this.1 this.2,λi x h=>gG c i h⟩
def KR{sc:Scope}(h:Q9 sc tb=true){k:NameKind}(m:(x,k)∈tb):sc.names.lookup x=some k:=by
 obtain⟨i,hi⟩:=List.mem_iff_getElem?.1 m;exact cV h i hi
def cE(u:VD X)(c:Q9 X.env.scope tb=true)(a:X.N=N:=by rfl)(hf:∀x,X.fn x=true:=by exactλ_=>rfl)(hd:T1 N=true:=by decide +kernel)
  (hl:∀x∈N,(x,.local)∈tb\/(x,.cell)∈tb:=by decide +kernel) (b:∀x∈G,(x,.globalImplicit)∈tb:=by decide +kernel):EL X N G:=
 ⟨u,λi x h=>by
  have:=oD.1 hd _ (i0 h);simp only[kx,u6]at this;obtain m|m:=hl x (i0 h)
  .exact xp (by rw[a];exact h) (KR c m) (hf x) this.1 this.2
  .exact mkC (by rw[a];exact h) (KR c m) (hf x) this.1 this.2,λi x h=>KR c (b x (i0 h))⟩
theorem Fq.at{m:Str}{k:Nat}{A:Type}{arg:Qap}{Pre:Qae}{res:QaV}(F:Fq X CL c m k n arg Pre res)(a:A)(b:Pre a):Fq X CL c m k n (λ_:Unit=>arg a) QgC (λ_=>res a):=by
 obtain⟨⟨f,fd,ps,m,G,B⟩,r,cl⟩:=F;refine⟨⟨f,fd,ps,m,G.imp λvs H Q E q=>?_,B⟩,r,cl⟩;obtain⟨W,_,h1,i,h,g,_,e,d⟩:=q;exact⟨W,a,h1,i,h,g,b,e,d⟩
abbrev V5(K:Frag)(x:Str):Prop:=nsIn K mainGlobals x=some none
abbrev AZ(K:Frag)(x:Str)(n:Int)(t:Tok):Prop:=nsIn K mainGlobals x=some (some (.int n t))
theorem jA.bA(F:Qob)(ps:At)(q:LS x x st ps:=by(repeat intro _);rfl):Binds K fd ps []:=F.binds λa b c d e f=>KL QnA
theorem nZ.bA(F:Qt9)(ps:At)(q:LS x qual st ps:=by(repeat intro _);rfl):Binds K fd ps []:=F.binds λa b c d e f=>KL QnA
open PySem.W in
def Yt(n:Nat){α:Type}(R:Qkg):KasT α->Prop
 | .ret a=>R a
 | .ask i j k=>i<n/\j<n/\∀c,Yt n R (k c)
open PySem.W in
noncomputable def Ar{α:Type}(f:Qu9):KasT α->α
 | .ret a=>a
 | .ask i j k=>Ar f (k (f i j))
section
open PySem.W
variable{α β:Type}{p:Qho}{R:Qkg}
theorem vz{S:β->Prop}{g:α->KasT β}(h:∀a,R a->Yt n S (g a)):∀{t:KasT α},Yt n R t->Yt n S (t.bind g)
 | .ret a,r=>h a r
 | .ask i j k,r=>⟨r.1,r.2.1,λc=>vz h (r.2.2 c)⟩
theorem V6{f:Qu9}{cmp:Nat->Nat->Qme->Shared->Prop}(h:∀i j C s,i<n->j<n->C (f i j) s->cmp i j C s):∀{t:KasT α},Yt n R t->R (Ar f t)/\∀Q s,Q (Ar f t) s->t.kasWp cmp Q s
 | .ret a,r=>⟨r,λQ s q=>q⟩
 | .ask i j k,r=>⟨(V6 h (r.2.2 _)).1,λQ s q=>h i j _ s r.1 r.2.1 ((V6 h (r.2.2 _)).2 Q s q)⟩
def Nj(n:Nat)(p:Qho):Prop:=p.Perm (List.toArray (List.range Qaa))
theorem Nj.gd(h:Nj n p){k:Nat}:p.getD k 0<n+1:=by
 unfold Array.getD;split
 .have:=h.mem_iff.1 (Array.getElem_mem ‹_›);simp_all
 .lia
theorem Nj.rev(h:Nj n p)(i j d:Nat):Nj n (mirror p i j d):=(mirror_perm p i j d).trans h
theorem Si(h:Nj n p):∀m k,Yt Qaa QgC (kas_asc p m k)
 | 0,_=>trivial
 | m+1,k=>⟨h.gd,h.gd,fun|true=>trivial|false=>Si h m _⟩
theorem KS:∀m (p:Qho) k q,Nj n p->Yt Qaa (λr=>Nj n r.1) (kas_desc m p k q)
 | 0,_,_,_,h=>h
 | m+1,p,k,q,h=>⟨h.gd,h.gd,fun
  | true=>by
   show Yt _ _ (if q > 0 then _ else _);split<;>exact KS m _ _ _ (by first|exact h.rev .. | exact h)
  | false=>⟨h.gd,h.gd,fun|true=>h|false=>KS m _ _ _ h⟩⟩
def acz(h:Nj n p)(k m:Nat):Yt Qaa QtL (kas_tail3 k m p):=vz (λ_ _=>by exact h.rev ..) (Si (h.rev ..) _ _)
def V7(h:Nj n p)(k m:Nat):Yt Qaa QtL (kas_descPart k m p):=vz (λr q=>by split<;>exact acz (by first|exact q.rev .. | exact q) _ _) (KS _ _ _ _ h)
theorem ED(h:Nj n p)(k:Nat):∀m l r,Yt Qaa QgC (kas_place p k m l r)
 | 0,_,_=>trivial
 | m+1,l,r=>by
  unfold kas_place;split
  .trivial
  .exact⟨h.gd,h.gd,fun|true=>ED h k m _ _|false=>ED h k m _ _⟩
theorem X2:∀m (p:Qho) k,Nj n p->Yt Qaa (Nj n) (kas_bin m p k)
 | 0,_,_,h=>h
 | m+1,p,k,h=>vz (λl _=>X2 m _ _ ((bubble_perm ..).trans h)) (ED h k k 0 k)
def V8:Yt Qaa (Nj n) (kas_sort Qaa):=by
 have h:Nj n _:=Array.Perm.refl _;refine vz (R:=λr=>Nj n r.2) (λr q=>?_) (vz (λk _=>?_) (Si h _ _))
 .split
  .exact X2 _ _ _ q
  .exact q
 .split
  .exact h
  .split
   .exact⟨h.gd,h.gd,fun|true=>h|false=>V7 (h.rev ..) _ _⟩
   .exact V7 h _ _
end
variable{α:Type}
noncomputable def qu(p:Co)(l:Q8):List α:=p.filterMap (l[·]?)
def n8(kz:AT):Co:=(Ar (λi j=>decide Qub) (PySem.W.kas_sort kz.length)).toList
def iD(g:α->Int)(l:Q8):List α:=qu (n8 (l.map g)) l
variable{β:Type}{g:α->Int}{l:Q8}
theorem EF(kz:AT):(n8 kz).Perm (List.range kz.length):=by
 cases kz with
 | nil=>exact .refl _
 | cons k kz=>exact Array.perm_iff_toList_perm.1 (V6 (λi j C s _ _ c=>c) V8).1
theorem Ou:∀l:List α,qu (List.range l.length) l=l
 | []=>rfl
 | a::l=>by
  unfold qu;rw[kq,List.range_succ_eq_map,me,List.filterMap_map];exact congrArg _ (Ou l)
variable{kz:AT}
noncomputable def Jh(h:kz.length=l.length):(qu (n8 kz) l).Perm l:=((EF _).filterMap _).trans (.of_eq (h▸Ou l))
def qX(l:Q8):(iD g l).Perm l:=Jh (cq _)
def Ji{x:α}:x∈iD g l↔x∈l:=(qX l).mem_iff
def A0(l:Q8):(iD g l).length=l.length:=(qX l).length_eq
def Jj(f:β->α)(l:List β):iD g Qdb=(iD (λy=>g (f y)) l).map f:=by
 unfold iD qu;rw[hW,List.map_filterMap];congr 1;funext i;exact ib ..
theorem A1{R:QnH}{m:List β}(h:l.length=m.length)(q:∀(i:Nat) a c,l[i]? = some a->m[i]? = some c->R a c):∀p,Paired R (qu p l) (qu p m)
 | []=>.nil
 | i::p=>by
  have b:=A1 h q p;unfold qu at b ⊢;rw[me,me];by_cases hi:i<l.length
  .have e1:=iB hi;have e2:=iB (h▸hi);rw[e1,e2];exact .cons (q i _ _ e1 e2) b
  simp_all
def zC(kz:AT)(xs:B1):B1:=qu (n8 kz) xs
def Jk{xs:B1}(h:Qva):(zC kz xs).length=xs.length:=(Jh h).length_eq
theorem Yu{g:D->Int}{ds:BB}(r:QnO):av K CL Z (iD g ds) (zC QoL us):=by
 have h:=A1 (R:=bC K CL Z) r.length (λi a c h1 b=>by
  obtain⟨v,e,q⟩:=r.get h1;simp_all) (n8 QoL)
 unfold iD zC;generalize qu _ _=x at h ⊢;generalize qu _ _=y at h ⊢
 induction h with
 | nil=>exact .nil
 | cons r _ i=>exact .cons r i
theorem Ov{keys:Ch}{us:B2}{xs:B1}(c:keys.size=us.length)(hl:QiJ)(r:QcK){p:Qho}(b:p.toList=n8 kz) :
  Vals Qfb ((p.map (kas_item Qih)).map (·.2)).toList:=by
 have e:∀q,(∀i∈q,i<us.length)->q.map (λi=>(kas_item Qih i).2)=qu q us:=by
  intro q
  induction q with
  | nil=>intro _;rfl
  | cons i q a=>
   intro h;have hi:=h i gF;unfold qu at a ⊢;rw[ik,a λj d=>h j QkE];simp[kas_item,hi,c]
 rw[Array.map_map,Array.toList_map,b];refine(e _ λi hi=>?_)▸A1 r.length (λi x u h1 f=>?_) _
 .have:=lx.1 ((EF _).mem_iff.1 hi);lia
 .obtain⟨v,e,q⟩:=r.get h1;simp_all
section
variable{kS l:Addr}{us:B2}{xs:B1}{J:Qj5}{e1:Nat}{P:QrX}
theorem agR{keys:Ch}{e:Nat}(I:Qbb)(v:Qn9)(x:QgO)(d:kS≠a)(ok:s.heap.get? kS=some QsO)(q:s.heap.get? a=some (seqObj "list" #[] e1))
  (m:IntsAre keys.toList kz) (hlen:QiJ) (F:QoI) (r:QcK)
  (h:∀s' out c,L2.Inv X pins Y H s'->s'.heap.get? a=some Qmg->Vals Qfb out.toList->P Qio s') :
  wpAny Qr A (ksk_end a false us.toArray e1 (.ref kS) keys) P E s:=by
 have hsz:keys.size=us.length:=by
  have h1:=m.length;rw[HA]at h1;lia
 have l:(keys.zip us.toArray).size=us.length:=by rw[Array.size_zip,hsz,nq,Nat.min_self]
 unfold ksk_end
 try dsimp only
 simp only[nh,l6];by_cases b:us.toArray.size<2
 .rw[ec b,ec b];refine cz (hL ?_);rw[StateT.run_pure];refine cz (hL ?_)
  try dsimp only
  rw[nq]at b;have ep:Qqm=n8 kz:=by
   rw[l,<- hlen]
   match kz,hlen with
   | [],_=>rfl
   | [_],_=>rfl
   | _::_::_,e=>rw[<- e]at b;simp at b;lia
  refine VG I v x d ok q We We rfl λs' c o o'=>h s' _ c o o' ?_;have:=Ov hsz hlen r (p:=List.toArray Qqm) ep
  rwa [kas_range]at this
 .rw[bS b,bS b];rw[nq]at b;rw[ksk_kind m (by rw[hsz];lia)];refine cz (hL ?_);obtain⟨n,hn⟩:∃n,kz.length=n+1:=⟨kz.length-1,We⟩;have G:=(V6 (f:=λi j=>decide Qub) (cmp:=kas_cmp X.prog X.w A oneType' Qih) (λi j C s hi D c=>?cmp) (V8 (n:=n))).2
  case cmp=>
   have it:∀i,i<n+1->∃t,(kas_item Qih i).1=.int (kz.getD i 0) t:=λi hi=>by
    have h1:i<keys.size:=by lia
    obtain⟨t,e⟩:=m.int_at i keys[i] (by simp[h1]);have b:i<us.length:=by lia
    exact⟨t,by rw[<- e];simp[kas_item,Array.getD,h1,b];rw[dif_pos We]⟩
   obtain⟨t,e1⟩:=it i hi;obtain⟨u,e2⟩:=it j D;unfold kas_cmp;rw[e1,e2,keyLt'_oneType];exact oneLt_int c
  have R:=PySem.W.kas_runs (E:=E) (n:=n+1) (s:=s) (Q:=λ_ k s'=>s'=s/\failedOf k=none/\∃p:Array Nat,p.toList=n8 kz/\arrOf k=p.map _) We We (λy k s' _ e1 e2 g=>⟨g.1,e2,y,g.2,e1⟩) (G (λp s'=>s'=s/\p.toList=n8 kz) s ⟨rfl,by unfold n8;rw[hn]⟩);unfold PySem.W.kas_st at R;rw[show n+1=(keys.zip us.toArray).size by lia,kas_range]at R;refine cz (i8 R ?_ λ_ _ e=>e);rintro⟨⟨⟩,k⟩ s' ⟨rfl,hf,p,B,e⟩;have z:(arrOf k).size=us.length:=by
   have:=(EF kz).length_eq;grind
  refine VG I v x d ok q We We hf λs' c o o'=>h s' _ c o o' ?_;rw[e];exact Ov hsz hlen r B
theorem acB(I:Qbb)(z:Qn9)(K:QgO)(q:kS≠a)(ok:s.heap.get? kS=some (seqObj "list" #[] 0))(R:s.heap.get? a=some (seqObj "list" #[] e1))(U:J H)
  (hlen:QiJ) (G:QoI) (r:QcK)
  (turn:∀(i:Nat) (x:V) (k:Int),xs[i]? = some x->kz[i]? = some k->∀(N:BC) (s':Qb) (u:Value) (H':Hp),L2.Inv X N Y H' s'->J H'->RelV x u →
   wpAny Qr A Qi6 (EP X N Y λv M=>v=.int k/\J M) Qbj s')
  (h:∀s' H' out c,L2.Inv X pins Y H' s'->J H'->H' a=none->s'.heap.get? a=some Qmg->Vals Qfb out.toList->P Qio s') :
  wpAny Qr A (ksk_rest a Qaj false us.toArray e1 (.ref kS)) P E s:=by
 refine cz (wpAny_rule ?_)
 first
  | rw[List.forIn_toArray]
  | (simp)
  | rw[<- Array.forIn_toList]
 refine cz (ksk_fold (λi s'=>∃H' g e,L2.Inv X _ Y H' s'/\J H'/\H' _=none/\H' a=none/\s'.heap.get? _=some (seqObj _ g e)/\s'.heap.get? a=some _/\IntsAre g.toList (kz.take i)) _ 0 s
  ⟨H,_,0,I,U,z.1,K.1,ok,R,by simpa using IntsAre.nil⟩ ?step ?done)
 case step=>
  rintro j u s' W ⟨H',g,e,L,D,C,na,d,l,y⟩;simp only[Nat.zero_add]at y ⊢;have Z:=(ko.1 W).1;obtain⟨k,p⟩:∃k,kz[j]? = some k:=⟨_,iB We⟩;obtain⟨x,o⟩:∃x,xs[j]? = some x:=⟨_,iB (r.length▸Z)⟩;have O:RelV x u:=by
   obtain⟨u',e1,e2⟩:=r.get o;lia
  have hz:g.size<=us.length:=by
   have h1:=y.length;simp at h1;lia
  have Ip:=L.pinned (λb m=>by
   obtain rfl|m:=fF.1 m
   .exact xt z C
   .exact hU.1 m▸xt K na) (λb m=>by
   obtain rfl|m:=fF.1 m
   .exact⟨_,d,We ⟩
   simp_all)
  refine cz (wpAny_attempt (i8 (turn j x k o p _ _ u _ Ip D O) (λv n he=>?_) λ_ _ hF=>hF.elim));obtain⟨w,H2,t,B,rfl,T⟩:=he;obtain⟨t2,rfl⟩:=B;have pk:=t.pin _ (hV _ (hV _ (jQ Wl d)));have pa:=t.pin _ (hV _ (hV _ (jQ Wl l)));have I3:=Dv t.tD (xt z pk.2.1) (Obj.mapSeq (·.push (.int k t2)));have s1:=ub n.heap kS (Obj.mapSeq (·.push (.int k t2)));obtain⟨c2,D5⟩:∃c2,(n.heap.update kS (Obj.mapSeq _)).get? kS=some _:=⟨_,get?_update_seq pk.1 (·.push _)⟩;have ek:kz.take QR=kz.take j++[k]:=by simp[rk,p]
  have ea:(g.push (Value.int k t2)).toList=g.toList++[Value.int k t2]:=by simp
  refine cz (listUpdate_at pk.1 rfl ?_ (by rw[kA];lia) (jq (Nat.le_of_eq (Array.size_push _)) (by rw[kA];lia)));exact hL ⟨rfl,_,_,_,I3,T,pk.2.1,pa.2.1,D5,(s1.2 a q.symm).trans pa.1,by rw[ea,ek];exact ksk_snoc y⟩
 case done=>
  rintro s' ⟨H',g,e,L,D,C,na,d,l,y⟩;have F:IntsAre g.toList kz:=by grind
  refine cz (listItems_at d rfl ?_);exact agR L (xt z C) (xt K na) q d l F hlen G r λs2 out c t S v2=>h _ _ _ c t D na S v2
theorem acC(I:Qbb)(q:QgO)(g:s.heap.get? a=some (seqObj "list" us.toArray n))(t:J H)
  (hlen:QiJ) (l:QoI) (r:QcK)
  (turn:∀(i:Nat) (x:V) (k:Int),xs[i]? = some x->kz[i]? = some k->∀(p:BC) (s':Qb) (u:Value) (H':Hp),L2.Inv X p Y H' s'->J H'->RelV x u →
   wpAny Qr A Qi6 (EP X p Y λv m=>v=.int k/\J m) Qbj s')
  (h:∀s' H' out c,L2.Inv X pins Y H' s'->J H'->H' a=none->s'.heap.get? a=some Qmg->Vals Qfb out.toList->P Qio s') :
  wpAny Qr A (ksk_tree a Qaj false) P E s:=by
 have y:=h9 g;obtain⟨e1,d⟩:∃e1,(s.heap.update a _).get? a=some (seqObj _ _ e1):=⟨_,get?_update_seq g _ ⟩;have B:=Dv I q (Obj.mapSeq λ_=>(#[]));have j:((s.heap.update a (Obj.mapSeq λ_=>(#[]))).push Qrl).objs.size=s.heap.objs.size+1:=by simp
 have z:L2.Inv X _ Y H {s with heap:=((s.heap.update a _).push Qrl).push (seqObj "list" #[] 0)}:=
  B.kept λb o e=>ia _ Qdf
 refine cz (listItems_at g rfl ?_);refine cz (listUpdate_at g rfl ?_ (by rw[nq,kA];lia) Wl);refine cz (seqEpoch_at d rfl ?_);refine cz (wpAny_newTuple ?_ (by show us.length<=_;rw[kA];lia));refine cz (wpAny_newList ?_ Wl);apply rq;refine acB
  z (I.Av Wl (I.ck.fresh Wl)) q (j▸Nat.ne_of_gt (Nat.lt_succ_of_lt y)) (jj _ rfl) (ia _ (ia _ d)) t hlen l r turn h
theorem Sj{Q:VK}(I:Qbb)(z:lQ X.K H l xs)(hlen:Qva)(B:xs.length<64)(y:J H)
  (turn:∀(i:Nat) (x:V) (k:Int),xs[i]? = some x->kz[i]? = some k->∀(n:BC) (s':Qb) (u:Value) (H':Hp),L2.Inv X n Y H' s'->J H'->RelV x u →
   wpAny Qr X.A.in1.in1 Qi6 (EP X n Y λv j=>v=.int k/\J j) Qbj s')
  (h:∀D H',J H'->H' D=none->Q Qfm (upd H' D (.lst Qfb))) :
  wpAny Qr X.A (call Qiw [.ref l] [(Str.ofString "key",.ref f)]) Qbe E s:=by
 obtain⟨us,r,pl,hz⟩:=I.list z;have G:=r.length;have hl:s.heap.IsList l us.toArray:=pl.isList;refine call_function_entry_kw kind_sorted plain_sorted entry_sorted (ksk_s1 _ _) ?_;unfold Builtin.«sorted»;refine cz (m:=checkCount "sorted" 1 1 _) (hL ?_);refine cz (collect_list hl ?_ (by rw[kA];lia));refine cz (wpAny_newList ?_ (by rw[kA];lia));have hsz:((s.heap.push (seqObj "list" #[] 0)).update s.heap.objs.size (Obj.mapSeq (· ++ us.toArray))).objs.size=s.heap.objs.size+1:=by
  rw[Heap.size_update,size_push']
 have a:(((s.heap.push (seqObj "list" #[] 0)).update s.heap.objs.size (Obj.mapSeq (· ++ us.toArray))).push QfW).get? Qbn=some QfW:=by
  rw[<- hsz];exact jj _ rfl
 have keep:∀b o,s.heap.get? b=some o->(((s.heap.push (seqObj "list" #[] 0)).update s.heap.objs.size (Obj.mapSeq (· ++ us.toArray))).push QfW).get? b=some o:=λb o q=>by
  have d:b<s.heap.objs.size:=h9 q;rw[Heap.get?_push_ne _ _ _ (by rw[hsz];exact i2 (Nat.lt_succ_of_lt d)),Heap.get?_update_ne _ _ _ _ (i2 d),Heap.get?_push_ne _ _ _ (i2 d)];exact q
 show wpAny _ _ _ _ _ {s with heap:=((s.heap.push (seqObj "list" #[] 0)).update s.heap.objs.size (Obj.mapSeq (· ++ us.toArray))).push QfW};rw[hsz];have C:L2.Inv X pins Y H {s with heap:=((s.heap.push (seqObj "list" #[] 0)).update s.heap.objs.size (Obj.mapSeq (· ++ us.toArray))).push QfW}:=I.kept (t':=s.toks) keep;have p:∀{H':Hp},H' Qbn=none->lA X pins H' Qbn:=λ{H'} e=>I.Av (mi _) e;refine cz (rq (wpAny_call_entry_kw slot_list_sort ⟨_,a,rfl⟩ entry_list_sort ?body (ksk_l1 _ _)))
 case body=>
  have g:=ksk_t1 f Qbn;show wpAny Qr X.A.in1.in1 (Builtin.«list.sort» ⟨[.ref Qbn],[(Str.ofString "key",.ref f)]⟩) _ _ _;rw[g];refine acC C (p Qmz) a y We We r turn λs' H' out c F t na o' v'=>⟨_,rfl,?_⟩;refine hL ⟨_,rfl,.ref Qbn,_,IX F (p na) (o:=.lst Qfb) ⟨?_,out.toList,c,v',?_⟩,rfl,h _ H' t na⟩
  .rw[Jk hlen];exact hz
  .simpa using o'
end
variable{body:Expr}{g:L3.D->Int}{y q tx:Str}{params:Qkc}{pp lp p2:Pos}
theorem EG(L:x3 X CL tx q)(g0:Gx X)(dp:X.A.depth<recursionLimit)(hm:QiT)(hg:Qjv)(sc:QfJ)(h:Qds)(hi:Qdt)(hl:ds.length<64)
  (inner:apo X CL q scope Nc body (zb δ1 ix) ds g) (O:Qsc:=by rfl)
  (Od:∀cl pm cd ct u,bindArgs QpG ⟨[u],[]⟩=pure [(y,u)]:=by intros;rfl) (G:Qtn:=by rfl) (P:Qto:=by rfl)
  (hs:QaA:=by exact bz rfl) :
  bR X CL b (.Call QmG [e] [⟨some "key",.Lambda params body scope lp,p2⟩] pos) U (.lst ((iD g ds).map T.sh)) δ1:=by
 intro H Z Y ts vs Q S k pins s I;have m:PA X [e] (Vh (sX X e) yn):=b8 cA dZ hs;have hk:PK X [⟨some "key",.Lambda params body scope lp,p2⟩] (Vh (sX X (.Lambda params body scope lp)) yn):=Vi cA aaI;refine pf (mX I hg hm qR ?_);refine callWith_kw (dF (m pos pins s Y H (λE H1=>∃v Z1,E=[v]/\ay Z Z1/\ay H H1/\aV X.K CL b H1 Z1 δ1 Y ts vs/\bC X.K CL H1 QbX v) I (h H Z Y ts vs _ S λv H1 Z1 C k1 l r=>⟨v,Z1,rfl,C,k1,l,r⟩)) λus s1 zz=>?_) (by rw[hs];rfl) (by rw[hs];rfl) rfl rfl;obtain⟨aa,H1,I1,r1,v1,Z1,e1,C,k1,l,rep1⟩:=zz;subst e1;have N:H1 (CL tx)=some (.tabs q):=by
  have:=l.N1 tx L.tab.1 L.tab.2.1;rw[L.tab.2.2]at this;exact this
 refine dF (hk pos pins s1 Y H1 (λzs H2=>∃f c,zs=[.ref f]/\ay H1 H2/\H2 f=some Qk0/\H2 c=some Qcm) I1
  (λlK s' W=>alx L W N (λy hy e=>W.ok.has y.1 (sc.frees y hy e).2) O λf c H2 s2 V k2 hf M _=>⟨.ref f,H2,V,rfl,f,c,rfl,k2,hf,M⟩)) λws s2 zz=>?_
 obtain⟨zs,H2,V,rz,f,c,e2,k2,hf,M⟩:=zz;subst e2;obtain⟨u,rfl,ru⟩:=rz.one;cases ru;obtain⟨v,rfl,rv⟩:=r1.one;obtain⟨p,VJ,rfl,hq,F⟩:=rep1.gR;cases rv;show wpAny _ _ (call Qiw [.ref p] [(Str.ofString "key",.ref f)]) _ _ s2;have hlen:=F.length;refine Sj (J:=λj=>∃Z3,ay H2 j/\ay H2 Z3/\ay Z3 j/\∀a o,j a=some o->jd o=true->Z3 a=some o) (kz:=ds.map g) V (k2.seq hq) (by rw[cq,hlen]) We
  ⟨H2,.refl _,.refl _,.refl _,λ_ _ q _=>q⟩ (λi x kk hx w lK s' u j R zz rx=>?_) λD j zz hD=>?_
 .obtain⟨Z3,a1,a2,a3,a4⟩:=zz;obtain⟨d,hd,rd⟩:=F.XM hx;have ek:kk=g d:=by
   rw[ib,hd]at w;exact(j2 w).symm
  subst ek;refine abN sc R R.ok.frames (R.ok.hd g0.calm) dp (a1 _ _ hf) (a1 _ _ M) rx Od G P ?_;have S0:aV X.K CL ⟨j,Z3⟩ j Z3 (some QaR::zb δ1 ix) (AJ Y ix (some x)) [] []:=
   ⟨⟨[]++[],[],.cons (.sh (rd.mono Qjl)) ((zc l ix j).mono Qjl λa m=>by cases m),.nil,lr,λa m=>by cases m⟩,.refl _,.refl _,a3,λa o q z=>(by have n:Z3 a=none:=z;rw[show Z3 a=some o from q]at n;cases n),a4,l.N1.mono Qjl⟩
  refine inner f c s' j ⟨j,Z3⟩ d (i0 hd) j Z3 _ [] [] _ S0 λv H5 Z5 z5 k5 B r5=>⟨?_,Z5,a1.trans k5,a2.trans z5,B.zh,B.tp⟩;cases r5;rfl
 .obtain⟨Z3,a1,a2,a3,a4⟩:=zz;obtain⟨Z',n,S4⟩:=l.back (t:=.sh (.int 0)) (v:=.int 0) (fp:=[]) (k2.trans a1) l.zh Qjl a3 (λa o q z=>z) a4 (.sh (.int 0)) lr (λa m=>by cases m) QaI;obtain⟨c5,B⟩:=(aV.kU (Yu (g:=g) ((av.jS l.tp hi F).mono n)) S4.pop).jU (g0:=[]) (by rw[Jk (by rw[cq,hlen]),cq,A0];exact hlen.symm) hD;exact k _ _ _ (C.trans n) ((k1.trans (k2.trans a1)).trans c5) B
end L3
namespace Law
open PySem L2 L3
noncomputable def top(i:Nat):Stmt:=PySem.Challenge.pw_moodtree_k64_idle_ways.main.body.getD i Qr2
noncomputable def A2:Nat->AT->Int->AT
 | 0,_,_=>[]
 | n+1,es,k=>if k=-1 then [] else k::A2 n es (es.getD k.toNat 0)
def bM(es:AT)(m:Int):AT:=A2 QdU es QiG
def dI(es:AT):Prop:=∀k:Nat,k<es.length->-1<=es.getD k 0/\es.getD k 0<k
variable{es:AT}
theorem dI.at(h:dI es){k:Int}(h0:0<=k)(h1:QfL):-1<=es.getD k.toNat 0/\es.getD k.toNat 0<k:=by
 have:=h k.toNat We;lia
noncomputable def dG(ks:At)(es ss:AT):D:=.ins "Tree" [("kinds",.lst Qc4),("elders",.lst Qb0),("starts",.lst Qc5)]
variable{ks:At}{ss:AT}
def jY:List.lookup ("kinds":Str) [(("kinds":Str),D.lst Qc4),("elders",.lst Qb0),("starts",.lst Qc5)]=some (.lst Qc4):=iP
def nU:List.lookup ("elders":Str) [(("kinds":Str),D.lst Qc4),("elders",.lst Qb0),("starts",.lst Qc5)]=some (.lst Qb0):=rfl
def Ow:List.lookup ("starts":Str) [(("kinds":Str),D.lst Qc4),("elders",.lst Qb0),("starts",.lst Qc5)]=some (.lst Qc5):=rfl
def bV(ds:BB):T.bU QdO=.lst ds:=by rw[T.bU,g6]
def aR(l:AT):(T.lst ((l.map D.int).map T.sh)).clean=true:=qk▸Ci _
theorem qY(l:At):(T.lst ((l.map D.str).map T.sh)).clean=true:=by
 induction l with
 | nil=>rfl
 | cons x l a=>exact a
noncomputable def EH(ks:At)(es ss:AT):BS:=[("kinds",.lst ((ks.map .str).map T.sh)),("elders",.lst ((es.map .int).map T.sh)),("starts",.lst ((ss.map .int).map T.sh))]
def Yv(ks:At)(es ss:AT):T.bU QlD=dG ks es ss:=by
 unfold EH;rw[T.bU,T.sW,T.sW,T.sW,bV,bV,bV];rfl
def Cr(ks:At)(es ss:AT):T.cR (EH ks es ss)=true:=by
 unfold EH;rw[T.cR,T.cR,T.cR,qY,aR,aR];rfl
theorem KW{es:AT}(h:dI es):∀(n:Nat) {k x:Int},-1<=k->k<es.length->x∈A2 n es k->0<=x/\x<=k
 | 0,k,x,_,_,a=>by cases a
 | n+1,k,x,h0,h1,a=>by
  rw[A2]at a;split at a
  .cases a
  .have b:=h.at We h1;obtain rfl|a:=fF.1 a
   .lia
   .have:=KW h n We We a;lia
theorem EI{es:AT}(h:dI es):∀(a b:Nat) {k:Int},-1<=k->k<es.length->k<a->k<b->A2 a es k=A2 b es k
 | 0,0,_,_,_,_,_=>rfl
 | 0,b+1,k,h0,_,e,_=>by
  rw[A2,A2,ec We]
 | a+1,0,k,h0,_,_,d=>by
  rw[A2,A2,ec We]
 | a+1,b+1,k,h0,h1,e,d=>by
  rw[A2,A2];split
  .rfl
  .have c:=h.at We h1;rw[EI h a b c.1 We We We]
theorem fV(h:dI es){m:Int}(h0:0<=m)(h1:QcQ):bM es m=if es.getD m.toNat 0=-1 then [] else es.getD m.toNat 0::bM es QiG:=by
 have hm:=h.at h0 h1;unfold bM;rw[A2];split
 .rfl
 .rename_i b;have a:=h.at (k:=es.getD m.toNat 0) We We;rw[EI h es.length QdU a.1 We We We]
variable{x:Int}
theorem bH(h:dI es){m:Int}(h0:0<=m)(h1:QcQ)(a:Qoz):0<=x/\x<m/\x<es.length:=by
 have hm:=h.at h0 h1;have:=KW h _ hm.1 We a;lia
theorem qv{es:AT}(h:dI es):∀(n:Nat) {m x:Int},0<=m->m<es.length->m<n->x∈bM es m->∃pre,bM es m=pre++x::bM es x/\∀y∈pre,y∈bM es m/\x∈bM es y
 | 0,m,x,h0,_,hn,_=>by lia
 | n+1,m,x,h0,h1,hn,a=>by
  have hm:=h.at h0 h1;have e:=fV h h0 h1;generalize d:es.getD m.toNat 0=k at hm e;by_cases c:k=-1
  .rw[e,ec c]at a;cases a
  .rw[bS c]at e;rw[e]at a;obtain rfl|a:=fF.1 a
   .exact⟨[],by rw[e];rfl,λy b=>by cases b⟩
   .obtain⟨pre,p1,p2⟩:=qv h n (m:=k) We We We a;refine⟨k::pre,by rw[e,p1];rfl,λy b=>?_⟩;obtain rfl|b:=fF.1 b
    .exact⟨by rw[e];exact gF,a⟩
    .exact⟨by rw[e];exact hJ _ (p2 y b).1,(p2 y b).2⟩
variable{y:Int}
theorem jZ(h:dI es){m:Int}(h0:0<=m)(h1:QcQ)(b:Qoz)(a:y∈bM es x):y∈bM es m:=by
 obtain⟨pre,p1,_⟩:=qv h QjY h0 h1 We b;exact p1▸hV _ (hJ _ a)
theorem qZ(h:dI es){m:Int}(h0:0<=m)(h1:QcQ)(b:Qoz)(a:y∈bM es m):x=y\/x∈bM es y\/y∈bM es x:=by
 obtain⟨pre,p1,p2⟩:=qv h QjY h0 h1 We b;rw[p1]at a;obtain a|a:=hG.1 a
 .exact .inr (.inl (p2 y a).2)
 .obtain e|a:=fF.1 a
  .exact .inl e.symm
  .exact .inr (.inr a)
theorem xD{es:AT}(h:dI es):∀(n:Nat) {m:Int},0<=m->m<es.length->m<n->(bM es m).Pairwise (λa b=>b<a)
 | 0,m,h0,_,hn=>by lia
 | n+1,m,h0,h1,hn=>by
  have hm:=h.at h0 h1;rw[fV h h0 h1];split
  .exact .nil
  .have hs:=xD h n (m:=es.getD m.toNat 0) We We We;refine l5.2 ⟨λx c=>?_,hs⟩;have:=bH h We We c;lia
def Yw(h:dI es){m:Int}(h0:0<=m)(h1:QcQ)(a:es.getD m.toNat 0 ≠ -1):es.getD m.toNat 0∈bM es m:=by
 rw[fV h h0 h1,bS a];exact gF
def nV(es:AT):Prop:=dI es/\∀k:Nat,k+1<es.length->es.getD Qao 0=k\/es.getD Qao 0∈bM es k
variable{k:Nat}
theorem nV.down(h:nV es)(c:k+1<es.length)(a:x∈bM es ((k+1:Nat):Int)):x=k\/x∈bM es k:=by
 have e:=fV h.1 (m:=((k+1:Nat))) We We;rw[ji]at e;have b:=h.2 k c;rw[e]at a;split at a
 .cases a
 .obtain a|a:=fF.1 a
  .obtain b|b:=b
   .exact .inl (a.trans b)
   .exact a ▸ .inr b
  .obtain b|b:=b
   .rw[b]at a;exact .inr a
   .exact .inr (jZ h.1 We We b a)
def cN(es:AT)(u m:Int):AT:=(m::(bM es m).takeWhile QcT).reverse
def zE(es:AT):Int->AT->Int->Prop
 | a,[],m=>a=m
 | a,x::l,m=>(0<=x/\x<es.length/\es.getD x.toNat 0=a)/\zE es x l m
theorem zE.snoc{es:AT}{m:Int}(h0:0<=m)(h1:QcQ):∀{l:AT} {a:Int},zE es a l QiG->zE es a (l++[m]) m
 | [],a,h=>⟨⟨h0,h1,Eq.symm h⟩,rfl⟩
 | x::l,a,h=>⟨h.1,zE.snoc h0 h1 h.2⟩
variable{u:Int}
theorem C7(h:dI es){m:Int}(h0:0<=m)(h1:QcQ)(c:u∈bM es m)(b:x∈(bM es m).takeWhile QcT):u∈bM es x:=by
 obtain⟨pre,p1,p2⟩:=qv h QjY h0 h1 We c;rw[p1]at b;have ne:∀y∈pre,decide (y≠u)=true:=λy a=>by
  have:=bH h (m:=y) (by have:=bH h h0 h1 (p2 y a).1;lia) (by have:=bH h h0 h1 (p2 y a).1;lia) (p2 y a).2;simp;lia
 have:(pre++u::bM es u).takeWhile QcT=pre:=by
  rw[MM ne,List.takeWhile_cons,bS Wl,hX]
 rw[this]at b;exact(p2 x b).2
def KY(dP:Cf)(es:AT)(a b:Int):Int:=((bM es a).find? (λx=>dP x&&decide (x∈bM es b))).getD (-1)
theorem EJ{α:Type}{p:α->Bool}:∀{l:Q8} {x:α},l.find? p=some x->∃pre a,l=pre++x::a/\p x=true/\∀y∈pre,p y=false
 | [],_,h=>by cases h
 | y::l,x,h=>by
  rw[nt]at h;cases e:p y with
  | true=>
   rw[e]at h;cases h;exact⟨[],l,rfl,e,Wl ⟩
  | false=>
   rw[e]at h;obtain⟨pre,a,h1,b,c⟩:=EJ h;refine⟨y::pre,a,Wp,b,λz hz=>?_⟩;obtain rfl|hz:=fF.1 hz
   .exact e
   simp_all
def V9(dP:Cf)(es:AT)(a b t:Int):Prop:=
 (t=-1/\∀x∈bM es a,x∈bM es b->dP x=false)\/(t∈bM es a/\t∈bM es b/\dP t=true/\∀x∈bM es a,x∈bM es b->dP x=true->x=t\/x∈bM es t)
variable{dP:Cf}
theorem agS(h:dI es){a b:Int}(h0:0<=a)(h1:a<es.length):V9 dP es a b (KY dP es a b):=by
 unfold KY;cases e:(bM es a).find? _ with
 | none=>
  refine .inl ⟨rfl,λx d k=>?_⟩;have:=t4.1 e x d;simp_all
 | some t=>
  obtain⟨pre,i,p1,p2,j⟩:=EJ e;have g:t∈bM es a:=by simp_all
  simp at p2;refine .inr ⟨g,p2.2,p2.1,λx d k n=>?_⟩;obtain c|c|c:=qZ h h0 h1 d g
  .exact .inl c
  .exact .inr c
  .exfalso;have hs:=xD h (a.toNat+1) h0 h1 We;rw[p1]at d hs;have m:=by
    have f:x∈bM es a:=p1▸d;have l:=bH h h0 h1 f;exact(bH h We We c).2.1
   obtain d|d:=hG.1 d
   .have:=j x d;lia
   .obtain e2|d:=fF.1 d
    .lia
    .have:=(l5.1 (Ha.1 hs).2.1).1 x d;lia
variable{t:Int}
theorem V9.symm{a b:Int}(h:V9 dP es a b t):V9 dP es b a t:=by
 obtain⟨e,h⟩|⟨h1,i,g,f⟩:=h
 .exact .inl ⟨e,λx d c=>h x c d⟩
 .exact .inr ⟨i,h1,g,λx d c=>f x c d⟩
theorem Wa{es:AT}{x:Int}(h:dI es):∀(n:Nat) {k:Int},-1<=k->k<es.length->A2 n Qks k=A2 n es k
 | 0,_,_,_=>rfl
 | n+1,k,h0,h1=>by
  rw[A2,A2];split
  .rfl
  .have a:=h.at We h1;have e:(es++[x]).getD k.toNat 0=es.getD k.toNat 0:=by
    rw[i4,Mo We,<- i4]
   rw[e,Wa h n a.1 We]
def EK(h:QfL):(es++[x]).getD k 0=es.getD k 0:=by
 rw[i4,Mo h,<- i4]
theorem agT(h:dI es){m:Int}(h0:0<=m)(h1:QcQ):bM Qks m=bM es m:=by
 have hm:=h.at h0 h1;unfold bM;rw[EK We,Wa h _ hm.1 We,EI h _ QdU hm.1 We WA We]
theorem dI.snoc(h:dI es)(h0:-1<=x)(h1:Qee):dI Qks:=λk a=>by
 simp at a;by_cases e:k<es.length
 .exact EK e▸h k e
 .have:k=es.length:=by lia
  simp_all
theorem nV.snoc(h:nV es)(d:k+1=es.length)(b:x=k\/x∈bM es k):nV Qks:=by
 have a:-1<=x/\x<es.length:=by
  obtain e|e:=b
  .lia
  .have:=bH h.1 We We e;lia
 refine⟨h.1.snoc a.1 a.2,λj c=>?_⟩;simp at c;rw[agT h.1 We We];by_cases e:j+1<es.length
 .exact EK e▸h.2 j e
 .have:j=k:=by lia
  simp_all
structure agU(es:AT)(m:Int)(L:Nat):Prop where
 le:m+1+L<=es.length
 iff:∀i:Nat,i<es.length->((m=-1\/m∈bM es i)↔m<i/\(i:Int)<m+1+L)
 eld:∀i:Nat,m<i->(i:Int)<m+1+L->m<=es.getD i 0
 beh:m+1+L=es.length\/es.getD (m+1+L).toNat 0<m
theorem Sl(h:nV es){m:Int}(h0:-1<=m)(h1:QcQ):∃L,agU es m L:=by
 by_cases hm:m=-1
 .subst hm;refine⟨es.length,We,λi hi=>⟨λ_=>by lia,λ_=>.inl rfl⟩,λi hi d=>(h.1 i We).1,.inl We⟩
 .have h0:0<=m:=by lia
  have o:∀i:Nat,i<es.length->m∈bM es i->m<i:=λi hi b=>(bH h.1 We We b).2.1;have go:∀(r L:Nat),m+1+L+r=es.length->(∀i:Nat,m<i->(i:Int)<m+1+L->m∈bM es i)->∃n:Nat,m+1+n<=es.length/\(∀i:Nat,m<i->(i:Int)<m+1+n->m∈bM es i)/\(m+1+n=es.length\/m∉bM es (m+1+n)):=by
   intro r
   induction r with
   | zero=>intro L e l;exact⟨L,We,l,.inl We⟩
   | succ r p=>
    intro L e l;by_cases hw:m∈bM es (m+1+L)
    .refine p (L+1) We λi f d=>?_;by_cases hi:(i:Int)<m+1+L
     .exact l i f hi
     .have:(i:Int)=m+1+L:=by lia
      rw[this];exact hw
    .exact⟨L,We,l,.inr hw⟩
  obtain⟨L,t,k,s⟩:=go (es.length-QjY) 0 We (λi f d=>by lia);have out:∀(r i:Nat),(i:Int)=m+1+L+r->i<es.length->m∉bM es i:=by
   intro r
   induction r with
   | zero=>
    intro i hi x b;obtain e|e:=s
    .lia
    .rw[show(i:Int)=m+1+L by lia]at b;exact e b
   | succ r p=>
    intro i hi x b;obtain⟨j,rfl⟩:∃j,i=j+1:=⟨i-1,We⟩;obtain e|e:=h.down x b
    .lia
    .exact p j We We e
  refine⟨L,t,λi hi=>⟨λhw=>?_,λ⟨a,c⟩=>.inr (k i a c)⟩,λi f d=>?_,?_⟩
  .have b:=hw.resolve_left hm;have:=o i hi b;refine⟨this,?_⟩;by_cases A:(i:Int)<m+1+L
   .exact A
   .exact absurd b (out (i-(m.toNat+1+L)) i We hi)
  .have b:=k i f d;have hi:i<es.length:=by lia
   have e:=fV h.1 (m:=(i:Int)) We We;rw[ji]at e;rw[e]at b;split at b
   .cases b
   .rename_i C;have y:=h.1 i hi;obtain e2|b:=fF.1 b
    .lia
    .have:=bH h.1 (m:=es.getD i 0) We We b;lia
  .by_cases u:m+1+L=es.length
   .exact .inl u
   .refine .inr ?_;obtain⟨j,D⟩:∃j:Nat,(j:Int)=m+L:=⟨(m+L).toNat,We⟩;have g:j+1<es.length:=by lia
    have nw:m∉bM es ((j+1:Nat):Int):=out 0 QR We g;have v:m=j\/m∈bM es j:=by
     by_cases e:m=j
     .exact .inl e
     .exact .inr (k j We We)
    have B:(m+1+L).toNat=j+1:=by lia
    rw[B];have e:=fV h.1 (m:=((j+1:Nat):Int)) We We;rw[ji]at e;have y:=h.1 QR g;by_cases q:es.getD QR 0=-1
    .lia
    .rw[bS q]at e;rw[e]at nw;have n1:m≠es.getD QR 0:=λz=>nw (by rw[<- z];exact gF);have n2:m∉bM es QuC:=λz=>nw (hJ _ z);obtain z|z:=h.2 j g
     .rw[z]at n1 n2;obtain w|w:=v
      .exact absurd w n1
      .exact absurd w n2
     .obtain w|w:=v
      .have:=bH h.1 (m:=(j:Int)) We We z;lia
      .rcases qZ h.1 (m:=(j:Int)) We We w z with c|c|c
       .exact absurd c n1
       .exact absurd c n2
       .have:=bH h.1 (m:=m) We We c;lia
theorem vA:∀(n:Nat) (es:AT) (k:Int),(A2 n es k).length<=n
 | 0,_,_=>hI _
 | n+1,es,k=>by
  rw[A2];split
  .exact hY _
  .exact Nat.succ_le_succ (vA n es _)
noncomputable def fW(ks:At)(x:Int):Bool:=decide (ks.getD x.toNat Str.empty="one")
noncomputable def jL(es:AT)(m:Int):AT:=((List.range es.length).filter (λ(i:Nat)=>decide (es.getD i 0=m))).map (λ(i:Nat)=>(i:Int))
def acD(es:AT)(m:Int):(((List.range es.length).map λ(i:Nat)=>D.tup [.int i,.int (es.getD i 0)]).filter (λd=>decide (d.at2.qI=m))).map (λd=>T.sh d.N6)=((jL es m).map D.int).map T.sh:=by
 unfold jL;rw[mB,hW,hW,hW];rfl
def Wb(es:AT)(m:Int):(jL es m).length<=es.length:=by
 unfold jL;rw[cq];exact jq Qfq Wl
theorem zF{m:Int}(h:x∈jL es m):0<=x/\x<es.length/\es.getD x.toNat 0=m:=by
 obtain⟨i,hi,rfl⟩:=hP.1 h;obtain⟨h1,a⟩:=js.1 hi;have h1:=lx.1 h1;have a:=iw a;exact⟨We,We,‹_› ⟩
theorem Dy{m:Int}(h0:0<=x)(h1:Qee)(a:es.getD x.toNat 0=m):x∈jL es m:=by
 refine List.mem_map.2 ⟨x.toNat,List.mem_filter.2 ⟨List.mem_range.2 We,by simpa using a⟩,We⟩
def ER(es:AT)(m:Int):(jL es m).Pairwise (· < ·):=by
 refine List.Pairwise.map _ (λa b h=>?_) (G4 _ List.pairwise_lt_range);exact Int.ofNat_lt.2 h
noncomputable def Ox(s:AT)(k:Int):Int:=if s.length=0 then k else s.getD (k % (s.length:Nat)).toNat 0 % 1000000007 / (1+k / (s.length:Nat))+k / (s.length:Nat)*k
def z3(es:AT)(m:Int)(n:Nat):Int:=(m::bM es m).getD n 0
variable{n:Nat}
theorem agV{m:Int}(hn:n<=(bM es m).length):z3 es m n=m\/z3 es m n∈bM es m:=by
 cases n with
 | zero=>exact .inl rfl
 | succ n=>
  refine .inr ?_;unfold z3;show(bM es m).getD n 0∈_;rw[i4,iB We];exact pv _
def EV(n:Int)(es:AT)(j:Nat):Int:=if n % 3=0 then(if 2<((bM es j).length:Int)+1 then 2 else((bM es j).length:Int)+1) else((bM es j).length:Int)+1
def AK(s:AT)(n:Int)(es:AT)(j:Nat):Int:=if ((bM es j).length:Int)=12 then(if 1 > Ox s QgY % EV n es j then 1 else Ox s QgY % EV n es j) else Ox s QgY % EV n es j
theorem acE(n:Int)(es:AT)(j:Nat):0<EV n es j/\EV n es j<=((bM es j).length:Int)+1:=by
 unfold EV;split
 .split<;>lia
 .lia
theorem al3(s:AT)(n:Int)(es:AT)(j:Nat):0<=AK s n es j/\AK s n es j<=((bM es j).length:Int):=by
 obtain⟨h1,c⟩:=acE n es j;have a:=lj (Ox s QgY) (b:=EV n es j) We;have b:=lL (Ox s QgY) h1;unfold AK;split
 .split<;>lia
 .lia
def o8(s:AT)(n:Int):Nat->AT
 | 0=>[-1]
 | j+1=>o8 s n j++[z3 Qj8 j (AK s n Qj8 j).toNat]
theorem al4(s:AT)(n:Int):∀j,(o8 s n j).length=j+1/\nV Qj8
 | 0=>⟨rfl,⟨λk a=>by
   have:(o8 s n 0).length=1:=rfl;have:k=0:=by lia
   subst this;exact⟨Int.le_refl _,show(-1)<0 by decide⟩,λk a=>by
   have:(o8 s n 0).length=1:=rfl;lia⟩⟩
 | j+1=>by
  obtain⟨h1,b⟩:=al4 s n j;refine⟨by show(o8 s n j++_).length=_;simp_all,?_⟩;have c:=al3 s n Qj8 j;exact b.snoc h1.symm (agV We)
noncomputable def zG(isAll:Cf)(es ch:AT):Nat->AT
 | 0=>[0]
 | j+1=>if es.getD QR 0∈zG isAll es ch j/\(isAll QuC=true\/ch.getD (es.getD QR 0).toNat 0=((j+1:Nat):Int)) then zG isAll es ch j++[((j+1:Nat):Int)] else zG isAll es ch j
theorem nW{isAll:Cf}{es ch:AT}:∀(j:Nat) {x:Int},x∈zG isAll es ch j->0<=x/\x<=j
 | 0,x,h=>by simp_all [zG]
 | j+1,x,h=>by
  rw[zG]at h;split at h
  .obtain h|h:=hG.1 h
   .have:=nW j h;lia
   .have:=by simpa using h
    lia
  .have:=nW j h;lia
noncomputable def bF(ks:At)(x:Int):Bool:=decide (ks.getD x.toNat Str.empty="all")
noncomputable def bf(ks:At)(x:Int):Bool:=decide Qq0
noncomputable def EW(dP:Cf)(es a acc:AT)(m:Int):AT:=if es.getD m.toNat 0∈a/\dP QiG=true then acc.set (es.getD m.toNat 0).toNat m else acc
def n7(dP:Cf)(es a acc ops:AT):AT:=ops.foldl (EW dP es a) acc
theorem Wc(dP:Cf)(es a:AT):∀(ops acc:AT),(n7 dP es a acc ops).length=acc.length
 | [],acc=>rfl
 | m::ops,acc=>by
  show(n7 _ es _ _ ops).length=_;rw[Wc _ es _ _];unfold EW;split
  .rw[rh]
  .rfl
def acF(dP:Cf)(es a acc ops:AT)(m:Int):n7 dP es a acc (ops++[m])=EW dP es a (n7 dP es a acc ops) m:=by
 unfold n7;simp
theorem Dz{isAll:Cf}{es ch:AT}(g:dI es):∀(j:Nat) {k:Nat},k<=j->j<es.length->(((k:Int)∈zG isAll es ch j)↔(k=0\/(es.getD k 0∈zG isAll es ch j/\(isAll Qoc=true\/ch.getD (es.getD k 0).toNat 0=(k:Int)))))
 | 0,k,n,h=>by
  have:k=0:=by lia
  subst this;simp[zG]
 | j+1,k,n,h=>by
  have mono:∀{x:Int},x∈zG isAll es ch j->x∈zG isAll es ch QR:=λ{x} a=>by
   rw[zG];split
   .exact hZ _ a
   .exact a
  have back:∀{x:Int},x<((j+1:Nat):Int)->x∈zG isAll es ch QR->x∈zG isAll es ch j:=λ{x} p a=>by
   rw[zG]at a;split at a
   .obtain z|z:=hG.1 a
    .exact z
    .have:x=((j+1:Nat):Int):=by simpa using z
     lia
   .exact a
  by_cases e:k=j+1
  .subst e;have o:=g QR h;have m:((j+1:Nat):Int)∉zG isAll es ch j:=λz=>by
    have:=nW j z;lia
   constructor
   .intro z;rw[zG]at z;split at z
    .rename_i c;exact .inr ⟨mono c.1,c.2⟩
    .exact absurd z m
   .rintro(z|⟨d,b⟩)
    .lia
    .rw[zG,ec ⟨back We d,b⟩];exact hV _ Wl
  .have f:=Dz (isAll:=isAll) (ch:=ch) g j (k:=k) We We;have o:=g k We;constructor
   .intro z;obtain w|⟨l,i⟩:=f.1 (back We z)
    .exact .inl w
    .exact .inr ⟨mono l,i⟩
   .rintro(z|⟨d,b⟩)
    .exact mono (f.2 Qck)
    .exact mono (f.2 (.inr ⟨back We d,b⟩))
theorem q8{isAll:Cf}{es ch:AT}:∀j,(zG isAll es ch j).Pairwise (· < ·)
 | 0=>oC _ _
 | j+1=>by
  rw[zG];split
  .refine Ha.2 ⟨q8 j,oC _ _,λa d b c=>?_⟩;have:=nW j d;have:=by simpa using c
   lia
  .exact q8 j
noncomputable def jO(ss mem:AT)(a:Bool)(e:Int):Int:=if a=true/\mem.getD e.toNat 0 ≠ -1 then mem.getD e.toNat 0 else ss.getD e.toNat 0
def Nk(aE isAll:Cf)(es ss mem:AT)(a:Bool)(m:Int):AT:=if aE m=true then [] else if isAll m=true then jL es m else [jO ss mem a m]
def j3(aE isAll:Cf)(es ss mem:AT)(far:Bool):Nat->Bool->Int->AT
 | 0,_,m=>[m]
 | d+1,near,m=>m::(Nk aE isAll es ss mem (far || near) m).flatMap (λp=>j3 aE isAll es ss mem far d false p)
structure eB(aE isAll:Cf)(es ss mem:AT):Prop where
 pre:nV es
 leaf:∀k:Nat,k<es.length->aE k=true->jL es k=[]
 one:∀k:Nat,k<es.length->aE k=false->isAll k=false->ss.getD k 0∈jL es k/\(mem.getD k 0=-1\/mem.getD k 0∈jL es k)
variable{aE isAll:Cf}{mem:AT}
def Wd(h:Qbh){u:Bool}(b:QfL)(h1:aE k=false)(d:isAll k=false):jO ss mem u k∈jL es k:=by
 obtain⟨a,c⟩:=h.one k b h1 d;unfold jO;split
 .rename_i z;exact c.resolve_left z.2
 .exact a
variable{p:Int}
def qw(h:Qbh){u:Bool}(b:QfL)(a:p∈Nk aE isAll es ss mem u k):p∈jL es k:=by
 unfold Nk at a;split at a
 .cases a
 .rename_i h1;split at a
  .exact a
  .rename_i c;have:=by simpa using a
   exact this▸Wd h b (by simpa using h1) (by simpa using c)
def X1(h:Qbh){u:Bool}(b:QfL)(a:p∈jL es k):p∈Nk aE isAll es ss mem u k↔(isAll k=true\/jO ss mem u k=p):=by
 have hl:aE k=false:=by
  cases e:aE k with
  | false=>rfl
  | true=>rw[h.leaf k b e]at a;cases a
 unfold Nk;rw[bS (by rw[hl];decide)];cases e:isAll k with
 | true=>rw[ec rfl];exact⟨λ_=>.inl rfl,λ_=>a⟩
 | false=>
  rw[bS Wk,hU];exact⟨λz=>.inr z.symm,λz=>z.elim (λz=>by cases z) (λz=>z.symm)⟩
theorem cg(h:nV es){k:Int}(b:p∈jL es k):0<=p/\p<es.length/\es.getD p.toNat 0=k/\k<p:=by
 have a:=zF b;have:=h.1 p.toNat We;refine⟨a.1,a.2.1,a.2.2,?_⟩;lia
theorem Oz(h:Qbh){far:Bool}:∀(a c:Nat) {near:Bool} {k:Nat},k<es.length->es.length<=k+a+1->es.length<=k+c+1->j3 aE isAll es ss mem far a near k=j3 aE isAll es ss mem far c near k
 | 0,0,_,_,_,_,_=>rfl
 | 0,c+1,near,k,d,f,_=>by
  have:Nk aE isAll es ss mem (far || near) k=[]:=List.eq_nil_iff_forall_not_mem.2 λp b=>by
   have:=cg h.pre QoW;lia
  rw[j3,j3,this];rfl
 | a+1,0,near,k,d,_,e=>by
  have:Nk aE isAll es ss mem (far || near) k=[]:=List.eq_nil_iff_forall_not_mem.2 λp b=>by
   have:=cg h.pre QoW;lia
  rw[j3,j3,this];rfl
 | a+1,c+1,near,k,d,f,e=>by
  rw[j3,j3];congr 1;rw[List.flatMap_def,List.flatMap_def];congr 1;apply ow;intro p b;have g:=cg h.pre QoW;obtain⟨q,rfl⟩:∃q:Nat,p=q:=⟨p.toNat,We⟩;exact Oz h a c We We We
theorem nX(h:Qbh){far:Bool}:∀(d:Nat) {near:Bool} {k:Nat},k<es.length->es.length<=k+d+1->∀x:Nat,x<es.length →
  ((x:Int)∈j3 aE isAll es ss mem far d near k↔(x=k\/(k<x/\es.getD x 0∈j3 aE isAll es ss mem far d near k/\(isAll QeY=true\/jO ss mem (far || (near&&decide (es.getD x 0=(k:Int)))) QeY=(x:Int)))))
 | 0,near,k,i,hd,x,g=>by
  rw[j3,hU];have u:=h.pre.1 x g;constructor
  .intro z;exact .inl We
  .rintro(z|⟨n,b,_⟩)
   .lia
   .lia
 | d+1,near,k,i,hd,x,g=>by
  have u:=h.pre.1 x g;rw[j3,fF,i5];have EX:∀p∈Nk aE isAll es ss mem (far || near) k,∀y:Nat,y<es.length->((y:Int)∈j3 aE isAll es ss mem far d false p↔((y:Int)=p\/(p<y/\es.getD y 0∈j3 aE isAll es ss mem far d false p/\(isAll (es.getD y 0)=true\/jO ss mem far (es.getD y 0)=(y:Int))))):=λp a y c=>by
   have l:=cg h.pre (qw h i a);obtain⟨q,rfl⟩:∃q:Nat,p=q:=⟨p.toNat,We⟩;have:=nX h (far:=far) d (near:=false) (k:=q) We We y c;rw[this];simp only[Bool.false_and,wb];constructor
   .rintro(z|⟨n,b⟩)
    .exact .inl We
    .exact .inr ⟨We,b⟩
   .rintro(z|⟨n,b⟩)
    .exact .inl We
    .exact .inr ⟨We,b⟩
  have f:∀(dd:Nat) (p:Nat),p<es.length->∀y:Int,y∈j3 aE isAll es ss mem far dd false p->(p:Int)<=y:=by
   intro dd
   induction dd with
   | zero=>intro p _ y c;rw[j3,hU]at c;lia
   | succ dd t=>
    intro p a y c;rw[j3,fF,i5]at c;obtain e|⟨q,v,c⟩:=c
    .lia
    .have l:=cg h.pre (qw h a v);obtain⟨r,rfl⟩:∃r:Nat,q=r:=⟨q.toNat,We⟩;have:=t r We y c;lia
  constructor
  .rintro(z|⟨p,a,z⟩)
   .exact .inl We
   .have j:=qw h i a;have l:=cg h.pre j;have w:p<=x:=by
     obtain⟨q,rfl⟩:∃q:Nat,p=q:=⟨p.toNat,We⟩;exact f d q We x z
    refine .inr ⟨We,?_⟩;rcases(EX p a x g).1 z with e|⟨e1,e2,e3⟩
    .have o:es.getD x 0=(k:Int):=by
      rw[<- e,ji]at l;exact l.2.2.1
     rw[o];refine⟨gF,?_⟩;rw[kf rfl,yB];have:=(X1 h i j).1 a;rw[<- e]at this;exact this
    .have s:p<=es.getD x 0:=by
      obtain⟨q,rfl⟩:∃q:Nat,p=q:=⟨p.toNat,We⟩;exact f d q We _ e2
     refine⟨hJ _ (i5.2 ⟨p,a,e2⟩),?_⟩;rw[i3 We,we,wb];exact e3
  .rintro(z|⟨n,b,m⟩)
   .exact .inl We
   .obtain e|b:=fF.1 b
    .
     have j:(x:Int)∈jL es k:=Dy We We (by rw[ji];exact e);rw[e,kf rfl,yB]at m;have a:=(X1 h i j).2 m;exact .inr ⟨x,a,(EX x a x g).2 Qal⟩
    .obtain⟨p,a,b⟩:=i5.1 b;have j:=qw h i a;have l:=cg h.pre j;have s:p<=es.getD x 0:=by
      obtain⟨q,rfl⟩:∃q:Nat,p=q:=⟨p.toNat,We⟩;exact f d q We _ b
     rw[i3 We,we,wb]at m;exact .inr ⟨p,a,(EX p a x g).2 (.inr ⟨We,b,m⟩)⟩
theorem bZ(h:Qbh){far:Bool}:∀(d:Nat) {near:Bool} {k:Nat},k<es.length->∀y∈j3 aE isAll es ss mem far d near k,0<=y/\y<es.length/\(y=k\/(k:Int)∈bM es y)
 | 0,near,k,g,y,a=>by
  rw[j3,hU]at a;exact⟨We,We,.inl a⟩
 | d+1,near,k,g,y,a=>by
  rw[j3,fF,i5]at a;obtain e|⟨p,j,a⟩:=a
  .exact⟨We,We,.inl e⟩
  .have l:=cg h.pre (qw h g j);obtain⟨q,rfl⟩:∃q:Nat,p=q:=⟨p.toNat,We⟩;obtain⟨f,c,i⟩:=bZ h d We y a;have b:(k:Int)∈bM es q:=by
    rw[fV h.pre.1 We We,l.2.2.1];simp
   refine⟨f,c,.inr ?_⟩;obtain e|e:=i
   .exact e▸b
   .exact jZ h.pre.1 f c e b
theorem ni(h:Qbh){far:Bool}:∀(d:Nat) {near:Bool} {k:Nat},k<es.length->(j3 aE isAll es ss mem far d near k).Pairwise (· < ·)
 | 0,_,_,_=>by rw[j3];exact oC _ _
 | d+1,near,k,g=>by
  rw[j3];refine l5.2 ⟨λy b=>?_,List.pairwise_flatMap.2 ⟨λp f=>?_,?_⟩⟩
  .obtain⟨p,f,b⟩:=i5.1 b;have r:=cg h.pre QoX;obtain⟨q,rfl⟩:∃q:Nat,p=q:=⟨p.toNat,We⟩;obtain⟨l,j,i⟩:=bZ h d (k:=q) We y b;obtain e|e:=i
   .lia
   .have:=bH h.pre.1 l j e;lia
  .have r:=cg h.pre QoX;obtain⟨q,rfl⟩:∃q:Nat,p=q:=⟨p.toNat,We⟩;exact ni h d We
  .have hs:(Nk aE isAll es ss mem (far || near) k).Pairwise (· < ·):=by
    unfold Nk;split
    .exact .nil
    .split
     .exact ER es k
     .exact oC _ _
   refine Md ?_ hs;intro p o f A u x v y b;have r:=cg h.pre QoX;have n:=cg h.pre (qw h g A);obtain⟨q,rfl⟩:∃q:Nat,p=q:=⟨p.toNat,We⟩;obtain⟨a,rfl⟩:∃a:Nat,o=a:=⟨o.toNat,We⟩;obtain⟨x0,B,s⟩:=bZ h d (k:=q) We x v;obtain⟨l,j,i⟩:=bZ h d (k:=a) We y b;obtain⟨L,S⟩:=Sl h.pre (m:=(q:Int)) We We;have xL:x<(q:Int)+1+L:=by
    obtain e|e:=s
    .lia
    .obtain⟨z,rfl⟩:∃z:Nat,x=z:=⟨x.toNat,We⟩;exact((S.iff z We).1 (.inr e)).2
   have t:¬ ((q:Int)∈bM es a):=λz=>by
    rw[fV h.pre.1 (m:=(a:Int)) We We,n.2.2.1,bS We]at z;obtain e|e:=fF.1 z
    .lia
    .have:=bH h.pre.1 (m:=(k:Int)) We We e;lia
   have w:(q:Int)+1+L<=a:=by
    have:=S.iff a We;by_cases c:(a:Int)<(q:Int)+1+L
    .exact absurd ((this.2 ⟨u,c⟩).resolve_left We) t
    .lia
   have:(a:Int)<=y:=by
    obtain e|e:=i
    .lia
    .have:=bH h.pre.1 l j e;lia
   lia
def xE(mode:Str):Prop:=mode="new" \/ mode="near" \/ mode="far"
noncomputable def d9(mode:Str):Bool:=decide (mode="far")
noncomputable def gV(mode:Str):Bool:=decide (mode="near")
def Jl(ks:At)(es ss mem:AT)(mode:Str)(m:Int):AT:=j3 Qa8 Qa9 es ss mem Qkh es.length (gV mode) m
variable{far near:Bool}
theorem zH(h:Qbh){d:Nat}(g:QfL):(j3 aE isAll es ss mem far d near k).length<=es.length:=by
 have hs:=ni h (far:=far) d (near:=near) g;have e:=bZ h (far:=far) d (near:=near) g;generalize j3 _ _ es ss _ _ d _ k=l at hs e;have go:∀(l:Qea) (lo:Int),l.Pairwise (· < ·)->(∀x∈l,lo<=x/\x<es.length)->l.length<=es.length-lo\/l=[]:=by
  intro l
  induction l with
  | nil=>intro lo _ _;exact .inr rfl
  | cons x r j=>
   intro lo h1 i;obtain⟨a,c⟩:=l5.1 h1;have b:=i x gF;rcases j _ c (λy f=>⟨a y f,(i y (hJ _ f)).2⟩) with z|z
   .left;grind
   .left;rw[z];simp;lia
 rcases go l 0 hs (λx b=>⟨(e x b).1,(e x b).2.1⟩) with z|z
 .lia
 simp_all
def iE(es:AT)(u t x:Int):Prop:=x=t\/(x∈bM es t/\(u=-1\/u∈bM es x))
theorem EY(h:dI es)(t0:0<=t)(t1:QbS)(a:Qgl)(x:Int):x∈cN es u t↔iE es u t x:=by
 unfold cN iE;rw[wx,fF];refine or_congr Iff.rfl ?_;obtain rfl|a:=a
 .have e:(bM es t).takeWhile (λx=>decide (x ≠ -1))=bM es t:=by
   have:=MM (p:=λx=>decide (x≠(-1:Int))) (l₁:=bM es t) (l₂:=[]) (λy b=>by
    have:=bH h t0 t1 b;simp;lia)
   simpa using this
  simp_all
 .have i:=bH h t0 t1 a;constructor
  .intro z;exact⟨(Hd _).subset z,.inr (C7 h t0 t1 a z)⟩
  .rintro⟨c,f⟩;obtain⟨pre,p1,p2⟩:=qv h (t.toNat+1) t0 t1 We a;have ne:∀y∈pre,decide (y≠u)=true:=λy b=>by
    have g:=bH h t0 t1 (p2 y b).1;have:=bH h (m:=y) We We (p2 y b).2;simp;lia
   have e:(bM es t).takeWhile QcT=pre:=by
    rw[p1,MM ne,List.takeWhile_cons,bS Wl,hX]
   rw[e];have k:=bH h t0 t1 c;have d:u∈bM es x:=f.resolve_left We;have j:=bH h (m:=x) We We d;rw[p1]at c;obtain z|z:=hG.1 c
   .exact z
   .obtain z|z:=fF.1 z
    .lia
    .have:=bH h (m:=u) We We z;lia
variable{t:Nat}
def nN(aE isAll:Cf)(es ss mem:AT)(far near:Bool)(u:Int)(t:Nat)(x:Int):Prop:=
 (iE es u t x/\x≠t)\/x∈j3 aE isAll es ss mem far es.length near t\/∃s p,iE es u t s/\s≠t/\isAll s=true/\p∈jL es s/\¬ iE es u t p/\x∈j3 aE isAll es ss mem false es.length false p
def Ct(aE isAll:Cf)(es ss mem:AT)(far near:Bool)(u:Int)(t:Nat)(e x:Int):Prop:=
 isAll e=true\/(jO ss mem ((decide (e=t)&&(far || near)) || Qpk) e=x/\(e=t\/¬ iE es u t e))
theorem jB(h:dI es)(b:QbS)(a:iE es u t x):0<=x/\x<=t:=by
 obtain e|⟨e,_⟩:=a
 .lia
 .have:=bH h We We e;lia
theorem Wg(h:dI es)(c:QbS){s:Int}(hs:iE es u t s)(d:p∈jL es s)(a:p∈bM es t\/p=t):iE es u t p:=by
 obtain a|a:=a
 .refine .inr ⟨a,?_⟩;have f:=jB h c hs;have b:=zF d;have pb:=bH h (m:=(t:Int)) We We a;have e:=fV h (m:=p) b.1 b.2.1;rw[b.2.2,bS We]at e;have st:s∈bM es t:=jZ h We We a (by rw[e];exact gF);obtain z|⟨_,z|z⟩:=hs
  .have:=bH h (m:=(t:Int)) We We st;lia
  .exact .inl z
  .exact .inr (by rw[e];exact hJ _ z)
 .exact .inl a
theorem zI(h:Qbh)(d:QbS){s:Int}(hs:iE es u t s)(c:s≠t)(f:p∈jL es s)(hpl:¬ iE es u t p)(b:x=p\/p∈bM es x)(x0:0<=x)(g:Qee):¬ iE es u t x/\¬ Qs5:=by
 have a:=h.pre.1;have i:=jB a d hs;have pb:=cg h.pre f;have up:=λz=>hpl (Wg a d hs f z);have key:¬ Qs5:=by
  rintro(z|z)
  .rw[z]at b;obtain e|e:=b
   .exact up (.inr e.symm)
   .exact up Qfk
  .obtain e|e:=b
   .rw[e,fV a (m:=p) pb.1 pb.2.1,pb.2.2.1,bS We]at z;obtain w|w:=fF.1 z
    .exact c w.symm
    .have:=bH a (m:=s) We We w;lia
   .obtain w|w|w:=qZ a x0 g z e
    .exact up (.inr w.symm)
    .rw[fV a (m:=p) pb.1 pb.2.1,pb.2.2.1,bS We]at w;obtain v|v:=fF.1 w
     .exact c v.symm
     .have:=bH a (m:=s) We We v;lia
    .exact up Qc6
 refine⟨λz=>?_,key⟩;obtain z|⟨z,_⟩:=z
 .exact key Qck
 .obtain e|e:=b
  .rw[e]at z;exact up Qck
  .exact up (.inl (jZ a We We z e))
theorem Wh(h:Qbh)(c:QbS)(x:Nat)(g:Qee) :
  nN aE isAll es ss mem far near u t x↔(iE es u t x\/(nN aE isAll es ss mem far near u t QeY/\¬ iE es u t x/\Ct aE isAll es ss mem far near u t QeY x)):=by
 have i:=h.pre.1;have N:=i x g;have f:=λy F=>bZ h (far:=far) (near:=near) es.length c y F;have vl:(t:Int)∈j3 aE isAll es ss mem far es.length near t:=(nX h es.length c We t c).2 Qal;have n:∀y:Int,y∈j3 aE isAll es ss mem far es.length near t->y≠t->¬ iE es u t y:=λy F L z=>by
  obtain⟨D,C,B⟩:=f y F;have:=jB i c z;obtain e|e:=B
  .exact L e
  .have:=bH i D C e;lia
 constructor
 .rintro(z|z|⟨s,p,a,l,j,o,A,m⟩)
  .exact .inl z.1
  .by_cases e:(x:Int)=t
   .exact .inl Qfk
   .refine .inr ?_;have I:=z;rw[nX h es.length c We x g]at I;obtain⟨r,d,b⟩:=I.resolve_left We;refine⟨.inr (.inl d),n x z e,?_⟩;unfold Ct;obtain b|b:=b
    .exact .inl b
    .refine .inr ⟨?_,?_⟩
     .rw[kf d,yB];rw[<- b];congr 1;cases far<;>cases near<;>simp
     .by_cases e2:es.getD x 0=t
      .exact .inl e2
      .exact .inr (n _ d e2)
  .have pb:=cg h.pre o;have K:=jB i c a;obtain⟨q,rfl⟩:∃q:Nat,p=q:=⟨p.toNat,We⟩;obtain⟨D,C,B⟩:=bZ h (far:=false) (near:=false) es.length (k:=q) We x m;obtain⟨M,P⟩:=zI h c a l o A B D C;refine .inr ⟨?_,M,?_⟩
   .rw[nX h es.length (k:=q) We We x g]at m;obtain w|⟨_,d,_⟩:=m
    .subst w;have:es.getD x 0=s:=by have:=pb.2.2.1;rwa [ji]at this
     rw[this];exact .inl ⟨a,l⟩
    .exact .inr (.inr ⟨s,q,a,l,j,o,A,d⟩)
   .rw[nX h es.length (k:=q) We We x g]at m;unfold Ct;obtain w|⟨_,d,b⟩:=m
    .subst w;have:es.getD x 0=s:=by have:=pb.2.2.1;rwa [ji]at this
     rw[this];exact .inl j
    .obtain b|b:=b
     .exact .inl b
     .obtain⟨e0,e1,e2⟩:=bZ h (far:=false) (near:=false) es.length (k:=q) We _ d;obtain⟨p1,p2⟩:=zI h c a l o A e2 e0 e1;refine .inr ⟨?_,.inr p1⟩;rw[i3 QsS,i3 Qqj];rw[<- b];congr 1;simp
 .rintro(z|⟨a,l,j⟩)
  .by_cases e:(x:Int)=t
   .rw[e];exact .inr (.inl vl)
   .exact .inl ⟨z,e⟩
  .unfold Ct at j;obtain a|a|⟨s,p,r,d,b,E,J,w6⟩:=a
   .
    have K:=jB i c a.1;have H:isAll QeY=true:=j.elim id (λw=>w.2.elim (λv=>absurd v a.2) (λv=>absurd a.1 v));have O:(x:Int)∈jL es QeY:=Dy We We (by rw[ji]);exact .inr (.inr ⟨_,x,a.1,a.2,H,O,l,(nX h es.length g We x g).2 Qal⟩)
   .obtain⟨e0,e1,e2⟩:=f _ a;have G:(t:Int)<=es.getD x 0:=by
     obtain e|e:=e2
     .lia
     .have:=bH i e0 e1 e;lia
    refine .inr (.inl ((nX h es.length c We x g).2 (.inr ⟨We,a,?_⟩)));obtain w|⟨w,_⟩:=j
    .exact .inl w
    .refine .inr ?_;rw[<- w,kf a,yB];congr 1;cases far<;>cases near<;>simp
   .have pb:=cg h.pre E;have K:=jB i c r;obtain⟨q,rfl⟩:∃q:Nat,p=q:=⟨p.toNat,We⟩;obtain⟨e0,e1,e2⟩:=bZ h (far:=false) (near:=false) es.length (k:=q) We _ w6;obtain⟨p1,p2⟩:=zI h c r d E J e2 e0 e1;have G:(q:Int)<=es.getD x 0:=by
     obtain e|e:=e2
     .lia
     .have:=bH i e0 e1 e;lia
    refine .inr (.inr ⟨s,q,r,d,b,E,J,(nX h es.length (k:=q) We We x g).2 (.inr ⟨We,w6,?_⟩)⟩);obtain w|⟨w,_⟩:=j
    .exact .inl w
    .refine .inr ?_;rw[<- w,i3 QsS,i3 Qqj];congr 1;simp
def rf(aE isAll:Cf)(es ss mem:AT)(far near:Bool)(u:Int)(t:Nat):AT:=
 (cN es u t).dropLast++j3 aE isAll es ss mem far es.length near t++((cN es u t).dropLast.filter QmQ).flatMap (λs=>((jL es s).filter Qla).flatMap (λp=>j3 aE isAll es ss mem false es.length false p))
def A3(es:AT)(u t:Int):(cN es u t).dropLast=((bM es t).takeWhile QcT).reverse:=by
 unfold cN;rw[pd,List.dropLast_concat]
theorem vC(h:dI es)(d:QbS)(b:x∈(cN es u t).dropLast):x∈cN es u t/\x≠t:=by
 have a:=b;rw[A3,wx]at b;have c:=(Hd _).subset b;have:=bH h We We c;exact⟨List.dropLast_subset _ a,We⟩
def Wi(a:x∈cN es u t)(b:x≠t):x∈(cN es u t).dropLast:=by
 rw[A3,wx];unfold cN at a;rw[wx]at a;exact(fF.1 a).resolve_left b
theorem DB(h:Qbh)(b:QbS)(j:Qgl)(x:Int):x∈rf aE isAll es ss mem far near u t↔nN aE isAll es ss mem far near u t x:=by
 have li:=EY h.pre.1 We We j;unfold rf nN;rw[hG,hG,or_assoc];refine or_congr ?_ (or_congr Iff.rfl ?_)
 .constructor
  .intro z;obtain⟨a,c⟩:=vC h.pre.1 b z;simp_all
  .rintro⟨a,c⟩;exact Wi ((li x).2 a) c
 .simp only[i5,js];constructor
  .rintro⟨s,⟨s1,s2⟩,p,⟨p1,p2⟩,z⟩;obtain⟨a,c⟩:=vC h.pre.1 b s1;refine⟨s,p,(li s).1 a,c,s2,p1,λw=>?_,z⟩;simp_all
  .rintro⟨s,p,i,g,f,e,k,d⟩;refine⟨s,⟨Wi ((li s).2 i) g,f⟩,p,⟨e,?_⟩,d⟩;simp_all
variable{l:AT}
theorem zJ(h:l.Pairwise (· < ·)):l.Nodup:=List.Pairwise.imp (λ{a b} c=>by lia) h
theorem A4(h:Qbh)(j:QbS)(Y:Qgl):(rf aE isAll es ss mem far near u t).Nodup:=by
 have d:=h.pre.1;have li:=EY d (u:=u) (t:=(t:Int)) We We Y;have D:(cN es u t).dropLast.Nodup:=by
  rw[A3];have hs:=xD d (t+1) (m:=(t:Int)) We We We;exact List.pairwise_reverse.2 (List.Pairwise.imp (λ{a b} (Z:b<a)=>(by lia:b≠a)) (List.Pairwise.sublist (Hd _) hs))
 have side:∀s∈(cN es u t).dropLast.filter QmQ,∀p∈(jL es s).filter Qla,iE es u t s/\s≠t/\p∈jL es s/\¬ iE es u t p:=λs hs p n=>by
  obtain⟨s1,s2⟩:=js.1 hs;obtain⟨p1,p2⟩:=js.1 n;obtain⟨a,c⟩:=vC d j s1;refine⟨(li s).1 a,c,p1,λw=>?_⟩;rw[kf ((li p).2 w)]at p2;cases p2
 have wit:∀s p x,iE es u t s->s≠t->p∈jL es s->¬ iE es u t p->x∈j3 aE isAll es ss mem false es.length false p->0<=x/\x<es.length/\(x=p\/p∈bM es x):=λs p x _ _ n _ v=>by
  have pb:=cg h.pre n;have I:∃q:Nat,p=q:=⟨p.toNat,by
   have:=pb.1;lia⟩
  obtain⟨q,rfl⟩:=I;exact bZ h es.length We x v
 unfold rf;refine kc.2 ⟨kc.2 ⟨D,zJ (ni h _ j),λa L b A e=>?_⟩,?_,λa L b A e=>?_⟩
 .subst e;obtain⟨a1,a2⟩:=vC d j L;have lb:=jB d j ((li a).1 a1);obtain⟨U,T,S⟩:=bZ h es.length j a A;obtain e|e:=S
  .exact a2 e
  .have:=bH d U T e;lia
 .refine List.pairwise_flatMap.2 ⟨λs hs=>List.pairwise_flatMap.2 ⟨λp n=>?_,?_⟩,?_⟩
  .obtain⟨_,_,p1,_⟩:=side s hs p n;have pb:=cg h.pre p1;have I:∃q:Nat,p=q:=⟨p.toNat,by
    have:=pb.1;lia⟩
   obtain⟨q,rfl⟩:=I;exact zJ (ni h _ We)
  .have J:((jL es s).filter Qla).Pairwise (· < ·):=G4 _ (ER es s);refine Md ?_ J;intro p l n M iH x v y F e;subst e;obtain⟨s1,s2,p1,p2⟩:=side s hs p n;obtain⟨_,_,i,r⟩:=side s hs l M;obtain⟨x0,C,B⟩:=wit s p x s1 s2 p1 p2 v;obtain⟨_,_,k⟩:=wit s l x s1 s2 i r F;have pb:=cg h.pre p1;have f:=cg h.pre i;have N:=jB d j s1;have R:∀z,z∈bM es l->z<=s:=λz hz=>by
    rw[fV d (m:=l) f.1 f.2.1,f.2.2.1,bS We]at hz;obtain w|w:=fF.1 hz
    .lia
    .have:=bH d (m:=s) We We w;lia
   have P:∀z,z∈bM es p->z<=s:=λz hz=>by
    rw[fV d (m:=p) pb.1 pb.2.1,pb.2.2.1,bS We]at hz;obtain w|w:=fF.1 hz
    .lia
    .have:=bH d (m:=s) We We w;lia
   obtain e|e:=B
   .obtain g|g:=k
    .lia
    .rw[e]at g;have:=P _ g;lia
   .obtain g|g:=k
    .rw[g]at e;have:=R _ e;lia
    .obtain w|w|w:=qZ d x0 C e g
     .lia
     .have:=R _ w;lia
     .have:=P _ w;lia
  .have K:((cN es u t).dropLast.filter QmQ).Nodup:=G4 _ D;refine Md ?_ K;intro s s' hs RN V x v y F e;subst e;obtain⟨p,n,v⟩:=i5.1 v;obtain⟨l,M,F⟩:=i5.1 F;obtain⟨s1,s2,p1,p2⟩:=side s hs p n;obtain⟨o,H,i,r⟩:=side s' RN l M;obtain⟨x0,C,B⟩:=wit s p x s1 s2 p1 p2 v;obtain⟨_,_,k⟩:=wit s' l x o H i r F;have pb:=cg h.pre p1;have f:=cg h.pre i;have N:=jB d j s1;have G:=jB d j o;have up:∀{s p s':Int},iE es u t s->p∈jL es s->¬ iE es u t p->iE es u t s'->0<=s'->¬ (p=s'\/p∈bM es s'):=λ{s p s'} ls pin np E _ z=>by
    refine np ?_;obtain z|z:=z
    .rw[z];exact E
    .refine Wg d j ls pin (.inl ?_);obtain w|⟨w,_⟩:=E
     .rw[<- w];exact z
     .exact jZ d We We w z
   have d1:¬ p∈bM es l:=λz=>by
    rw[fV d (m:=l) f.1 f.2.1,f.2.2.1,bS We]at z;exact up s1 p1 p2 o G.1 ((fF.1 z))
   have d2:¬ l∈bM es p:=λz=>by
    rw[fV d (m:=p) pb.1 pb.2.1,pb.2.2.1,bS We]at z;exact up o i r s1 N.1 ((fF.1 z))
   have O:p≠l:=λz=>V (by rw[<- pb.2.2.1,<- f.2.2.1,z]);obtain e|e:=B
   .obtain g|g:=k
    .exact O (e.symm.trans g)
    .rw[e]at g;exact d2 g
   .obtain g|g:=k
    .rw[g]at e;exact d1 e
    .obtain w|w|w:=qZ d x0 C e g
     .exact O w
     .exact d1 w
     .exact d2 w
 .subst e;obtain⟨s,hs,A⟩:=i5.1 A;obtain⟨p,n,A⟩:=i5.1 A;obtain⟨s1,s2,p1,p2⟩:=side s hs p n;obtain⟨x0,C,B⟩:=wit s p a s1 s2 p1 p2 A;obtain⟨X,W⟩:=zI h j s1 s2 p1 p2 B x0 C;obtain z|z:=hG.1 L
  .exact X ((li a).1 (vC d j z).1)
  .exact W ((bZ h es.length j a z).2.2.elim .inl .inr)
theorem LU(h:Qbh)(a:QbS)(c:QqS):0<=x/\x<es.length:=by
 obtain z|z|⟨s,p,i,g,f,b,e,w6⟩:=c
 .have:=jB h.pre.1 a z.1;lia
 .have:=bZ h _ a x z;lia
 .have pb:=cg h.pre b;have d:∃q:Nat,p=q:=⟨p.toNat,by
   have:=pb.1;lia⟩
  obtain⟨q,rfl⟩:=d;have:=bZ h _ We _ w6;lia
theorem zK{α:Type}{f:α->AT}{c:Nat}:∀{l:Q8},(∀x∈l,(f x).length<=c)->(l.flatMap f).length<=l.length*c
 | [],_=>by simp
 | x::l,h=>by
  rw[pz,iq,kq];have:=zK λy a=>h y (hJ _ a);have:=h x gF;lia
variable{α:Type}
theorem Yx(l:Q8):cutD l none QoA=l.dropLast:=by
 unfold cutD;have e1:HT.jR l.length 0 none=0:=rfl;have e2:HT.jR l.length l.length QoA=l.length-1:=by
  unfold HT.jR;lia
 rw[e1,e2,List.drop_zero,Nat.sub_zero,List.dropLast_eq_take]
def KI(dP:Cf)(es ch:AT):Prop:=∀k:Nat,k<es.length->dP k=true->ch.getD k 0∈jL es k
def X0(aE dP isAll:Cf)(es:AT):Prop:=∀k:Nat,k<es.length->(aE k=true/\dP k=false/\isAll k=false/\jL es k=[])\/(aE k=false/\dP k=true/\isAll k=false)\/(aE k=false/\dP k=false/\isAll k=true)
variable{ch:AT}
theorem Wj(b:dI es):∀(f:Nat) {t e:Int},0<=t->t<es.length->t<f->e∈bM es t->∃y:Int,QmY/\0<=y/\y<es.length/\es.getD y.toNat 0=e
 | 0,t,e,h0,_,hf,_=>by lia
 | f+1,t,e,h0,h1,hf,he=>by
  have a:=fV b h0 h1;have i:=b.at h0 h1;by_cases e1:es.getD t.toNat 0=-1
  .rw[a,ec e1]at he;cases he
  .rw[bS e1]at a;rw[a]at he;obtain z|z:=fF.1 he
   .exact⟨t,.inl rfl,h0,h1,z.symm⟩
   .obtain⟨y,h,g,d,c⟩:=Wj b f We We We z;refine⟨y,.inr ?_,g,d,c⟩;rw[a];obtain z|z:=h
    .exact z▸gF
    .exact hJ _ z
theorem Yy(h:dI es){t:Int}(t0:0<=t)(t1:QbS)(x0:0<=x)(e:Qee)(d:0<=y)(b:y<es.length)(he:es.getD x.toNat 0=es.getD y.toNat 0)(g:x=t\/x∈bM es t)(f:QmY):x=y:=by
 have no:∀a c:Int,0<=a->a<es.length->0<=c->c<es.length->es.getD a.toNat 0=es.getD c.toNat 0->¬ a∈bM es c:=λa c a0 a1 c0 i j hm=>by
  have k:=h.at a0 a1;rw[fV h c0 i]at hm;by_cases e1:es.getD c.toNat 0=-1
  .rw[ec e1]at hm;cases hm
  .rw[bS e1]at hm;obtain z|z:=fF.1 hm
   .lia
   .have:=bH h We We z;lia
 obtain rfl|g:=g<;>obtain rfl|f:=f
 .rfl
 .exact absurd f Qsi
 .exact absurd g QtM
 .obtain z|z|z:=qZ h t0 t1 g f
  .exact z
  .exact absurd z QtM
  .exact absurd z Qsi
theorem xF(h:nV es):∀(f t:Nat),t<f->t<es.length->t=0\/(0:Int)∈bM es t
 | 0,t,hf,_=>by lia
 | f+1,t,hf,b=>by
  by_cases e:t=0
  .exact .inl e
  .obtain⟨s,rfl⟩:∃s,t=s+1:=⟨t-1,We⟩;have d:=h.1 _ b;have g:0<=es.getD (s+1) 0:=by
    obtain z|z:=h.2 s b
    .lia
    .have:=bH h.1 We We z;lia
   have c:=fV h.1 (m:=((s+1:Nat))) We We;rw[ji]at c;refine .inr ?_;rw[c];obtain⟨q,a⟩:∃q:Nat,es.getD (s+1) 0=q:=⟨(es.getD (s+1) 0).toNat,We⟩;rw[a];obtain z|z:=xF h f q We We
   .rw[z];simp
   simp_all
def A5(es:AT)(u x:Int):Prop:=u=-1\/u∈bM es x
def KZ(c:dI es)(x0:0<=x)(a:Qee)(b:y∈bM es x)(d:A5 es u y):A5 es u x:=by
 obtain z|z:=d
 .exact .inl z
 .exact .inr (jZ c x0 a b z)
def EZ(b:Qgl)(a:iE es u t x):A5 es u x:=by
 obtain rfl|z:=a
 .exact b
 .exact z.2
theorem zL(h:Qbh)(f:QbS)(c:Qgl)(i:QqS):A5 es u x:=by
 have a:=h.pre.1;obtain z|z|⟨s,p,hs,_,_,e,_,z⟩:=i
 .exact EZ c z.1
 .obtain⟨x0,d,y⟩:=bZ h _ f x z;obtain rfl|y:=y
  .exact c
  .exact KZ a x0 d y c
 .have b:=cg h.pre e;have j:=jB a f hs;obtain⟨q,rfl⟩:∃q:Nat,p=q:=⟨p.toNat,We⟩;have g:=KZ a b.1 b.2.1 (b.2.2.1▸Yw a b.1 b.2.1 We) (EZ c hs);obtain⟨x0,d,y⟩:=bZ h _ We x z;obtain rfl|y:=y
  .exact g
  .exact KZ a x0 d y g
theorem yQ(X:X0 aE dP isAll es)(hc:KI dP es ch)(h:Qbh)(p:QbS)
  (M:u=-1\/(u∈bM es t/\dP u=true/\u∈zG isAll es ch Qbd)) :
  ∃A:AT,A.length=es.length/\KI dP es A ∧
   (zG isAll es A Qbd).Perm ((zG isAll es ch Qbd).filter (λx=>!(decide (u=-1) || decide (u∈bM es x)))++rf aE isAll es ss mem far near u t)/\(t:Int)∈zG isAll es A Qbd:=by
 classical
 have o:=h.pre.1;have hn:0<es.length:=by lia
 have d:u=-1\/u∈bM es t:=M.imp id (·.1);have F:∀e:Int,∃y:Int,e∈bM es t->QmY/\0<=y/\y<es.length/\es.getD y.toNat 0=e:=λe=>by
  by_cases z:e∈bM es t
  .obtain⟨y,hy⟩:=Wj o (t+1) (t:=(t:Int)) We We We z;exact⟨y,λ_=>hy⟩
  .exact⟨0,λy=>absurd y z⟩
 obtain⟨st,F⟩:∃st:Int->Int,∀e:Int,e∈bM es t->(st e=t\/st e∈bM es t)/\0<=st e/\st e<es.length/\es.getD (st e).toNat 0=e:=⟨λe=>Classical.choose (F e),λe=>Classical.choose_spec (F e)⟩
 let fl:Int->Bool:=λe=>(decide (e=t)&&(far || near)) || Qpk
 let c:Nat->Int:=λk=>if (k:Int)=u\/(iE es u t k/\(k:Int)≠t) then st k else if A5 es u k then jO ss mem (fl k) k else ch.getD k 0
 have Ni:∀k:Nat,k<es.length->((List.range es.length).map c).getD k 0=c k:=λk l=>by
  rw[i4,ib,ue l];rfl
 have L:∀e:Int,iE es u t e->nN aE isAll es ss mem far near u t e:=λe he=>by
  have Y:=jB o p he;obtain⟨q,rfl⟩:∃q:Nat,e=q:=⟨e.toNat,We⟩;exact(Wh h p q We).2 (.inl he)
 let N:Int->Prop:=λx=>(x∈zG isAll es ch Qbd/\¬ A5 es u x)\/nN aE isAll es ss mem far near u t x
 have K:∀x,N x->0<=x/\x<es.length:=λx hx=>by
  obtain z|z:=hx
  .have:=nW _ z.1;lia
  .exact LU h p z
 have hN:∀k:Nat,k<es.length->(N k↔(k=0\/(N Qoc/\(isAll Qoc=true\/c (es.getD k 0).toNat=(k:Int))))):=by
  intro k l;have J:=o k l;have n:=fV o (m:=(k:Int)) We We;rw[ji]at n;by_cases k0:k=0
  .subst k0;rw[ec We]at n;refine⟨λ_=>.inl rfl,λ_=>?_⟩;obtain z|z:=M
   .refine .inr (L _ ?_);obtain y|y:=xF h.pre (t+1) t We p
    .exact .inl We
    .exact .inr ⟨y,.inl z⟩
   .refine .inl ⟨(Dz o Qbd (k:=0) We We).2 Qal,?_⟩;rintro(y|y)
    .have:=nW _ z.2.2;lia
    .rw[n]at y;cases y
  .have e0:es.getD k 0 ≠ -1:=by
    obtain y|y:=xF h.pre (k+1) k We l
    .exact absurd y k0
    .intro z;rw[n,ec z]at y;cases y
   rw[bS e0]at n;have T:=Dz (isAll:=isAll) (ch:=ch) o Qbd (k:=k) We We;have U:=Wh (far:=far) (near:=near) (u:=u) h p k l;obtain⟨e,he⟩:∃e:Nat,es.getD k 0=e:=⟨(es.getD k 0).toNat,We⟩;rw[he]at n T U J ⊢;rw[ji]at T ⊢;have V:e<es.length:=by lia
   have eb:A5 es u e->A5 es u k:=λz=>KZ o We We (by rw[n];exact gF) z;have self:∀x:Int,0<=x->x<es.length->¬ x∈bM es x:=λx a0 a1 z=>by
    have:=bH o a0 a1 z;lia
   have C:(e:Int)∈bM es t->(st e=k↔((k:Int)=t\/(k:Int)∈bM es t)):=λz=>by
    obtain⟨s1,s2,s3,s4⟩:=F e z;constructor
    .intro y;rw[<- y];exact s1
    .intro y;exact Yy o (t:=(t:Int)) We We s2 s3 We We (by rw[s4,ji,he]) s1 y
   by_cases v:A5 es u k
   .by_cases i:(e:Int)=u
    .have g:=M.resolve_left We;rw[<- i]at g;have I:¬ A5 es u e:=by
      rintro(z|z)
      .lia
      .rw[i]at z;exact self u We We z
     have O:¬ isAll e=true:=λz=>by
      obtain y|y|y:=X e V
      .rw[y.2.1]at g;cases g.2.1
      .rw[y.2.2]at z;cases z
      .rw[y.2.1]at g;cases g.2.1
     have j:c e=st e:=ec Qku;rw[j];have P:¬ nN aE isAll es ss mem far near u t e:=λz=>I (zL h p d z);constructor
     .rintro(z|z)
      .exact absurd v z.2
      .obtain y|y:=U.1 z
       .refine .inr ⟨.inl ⟨g.2.2,I⟩,.inr ((C g.1).2 ?_)⟩;obtain y|y:=y
        .exact .inl y
        .exact .inr y.1
       .exact absurd y.1 P
     .rintro(z|⟨_,z|z⟩)
      .exact absurd z k0
      .exact absurd z O
      .refine .inr (L _ ?_);rcases(C g.1).1 z with y|y
       .exact .inl y
       .exact .inr ⟨y,v⟩
    .have s:A5 es u e:=by
      obtain z|z:=v
      .exact .inl z
      .rw[n]at z;obtain y|y:=fF.1 z
       .exact absurd y.symm i
       .exact .inr y
     have W:N k↔nN aE isAll es ss mem far near u t k:=⟨λz=>z.resolve_left (λy=>y.2 v),.inr⟩;have L2:N e↔nN aE isAll es ss mem far near u t e:=⟨λz=>z.resolve_left (λy=>y.2 s),.inr⟩;rw[W,L2,U];by_cases r:iE es u t e/\(e:Int)≠t
     .have j:c e=st e:=ec (.inr r);rw[j];have het:(e:Int)∈bM es t:=by
       obtain y|y:=r.1
       .exact absurd y r.2
       .exact y.1
      have hm:Ct aE isAll es ss mem far near u t e k↔isAll e=true:=by
       unfold Ct;constructor
       .rintro(z|z)
        .exact z
        .obtain y|y:=z.2
         .exact absurd y r.2
         .exact absurd r.1 y
       .exact .inl
      rw[hm,C het];constructor
      .rintro(z|z)
       .refine .inr ⟨L _ r.1,.inr ?_⟩;obtain y|y:=z
        .exact .inl y
        .exact .inr y.1
       .exact .inr ⟨z.1,.inl z.2.2⟩
      .rintro(z|⟨z1,E⟩)
       .exact absurd z k0
       .by_cases D:iE es u t k
        .exact .inl D
        .obtain E|E:=E
         .exact .inr ⟨z1,D,E⟩
         .refine absurd ?_ D;obtain y|y:=E
          .exact .inl y
          .exact .inr ⟨y,v⟩
     .have j:c e=jO ss mem (fl e) e:=by
       show Qo7=_;rw[bS (λz=>z.elim i r),ec s]
      rw[j];have H:¬ iE es u t k:=by
       rintro(z|z)
       .refine r ⟨.inr ⟨?_,s⟩,We⟩;rw[<- z,n];exact gF
       .have:=bH o (m:=(t:Int)) We We z.1;exact r ⟨.inr ⟨jZ o We We z.1 (by rw[n];exact gF),s⟩,We⟩
      have hm:Ct aE isAll es ss mem far near u t e k↔(isAll e=true\/jO ss mem (fl e) e=k):=by
       have:(e:Int)=t\/¬ iE es u t e:=by
        by_cases y:(e:Int)=t
        .exact .inl y
        .exact .inr (λw=>r ⟨w,y⟩)
       unfold Ct;constructor
       .rintro(z|z)
        .exact .inl z
        .exact .inr z.1
       .rintro(z|z)
        .exact .inl z
        .exact .inr ⟨z,this⟩
      rw[hm];constructor
      .rintro(z|z)
       .exact absurd z H
       .exact .inr ⟨z.1,z.2.2⟩
      .rintro(z|z)
       .exact absurd z k0
       .exact .inr ⟨z.1,H,z.2⟩
   .have B:¬ A5 es u e:=λz=>v (eb z);have i:(e:Int)≠u:=λz=>v (.inr (by rw[n,z];exact gF));have j:c e=ch.getD e 0:=by
     show Qo7=_;rw[bS (λz=>z.elim i (λy=>B (EZ d y.1))),bS B]
    rw[j];have W:N k↔(k:Int)∈zG isAll es ch Qbd:=⟨λz=>z.elim (·.1) (λy=>absurd (zL h p d y) v),λz=>.inl ⟨z,v⟩⟩;have L2:N e↔(e:Int)∈zG isAll es ch Qbd:=⟨λz=>z.elim (·.1) (λy=>absurd (zL h p d y) B),λz=>.inl ⟨z,B⟩⟩;rw[W,L2];exact T
 have Hg:∀x,x∈zG isAll es ((List.range es.length).map c) Qbd↔N x:=by
  have key:∀(f k:Nat),k<f->k<es.length->((k:Int)∈zG isAll es ((List.range es.length).map c) Qbd↔N k):=by
   intro f
   induction f with
   | zero=>intro k h;lia
   | succ f ih=>
    intro k aa l;rw[Dz o Qbd We We,hN k l];have J:=o k l;by_cases e:es.getD k 0=-1
    .rw[e];constructor
     .rintro(z|z)
      .exact .inl z
      .have:=nW _ z.1;lia
     .rintro(z|z)
      .exact .inl z
      .have:=K _ z.1;lia
    .obtain⟨q,n⟩:∃q:Nat,es.getD k 0=q:=⟨(es.getD k 0).toNat,We⟩;rw[n,ih q We We,ji,Ni q We]
  intro x;constructor
  .intro z;have:=nW _ z;obtain⟨q,rfl⟩:∃q:Nat,x=q:=⟨x.toNat,We⟩;exact(key (q+1) q We We).1 z
  .intro z;have:=K _ z;obtain⟨q,rfl⟩:∃q:Nat,x=q:=⟨x.toNat,We⟩;exact(key (q+1) q We We).2 z
 have Z:∀x:Int,((!(decide (u=-1) || decide (u∈bM es x)))=true↔¬ A5 es u x):=λx=>by
  unfold A5;simp
 refine⟨(List.range es.length).map c,Wl,λk l G=>?_,?_,(Hg _).2 (.inr (L _ Qal))⟩
 .rw[Ni k l];show(if (k:Int)=u\/(iE es u t k/\(k:Int)≠t) then st k else if A5 es u k then jO ss mem (fl k) k else ch.getD k 0)∈_;by_cases z:(k:Int)=u\/(iE es u t k/\(k:Int)≠t)
  .rw[ec z];have R:(k:Int)∈bM es t:=by
    obtain y|y:=z
    .rw[y];exact d.resolve_left We
    .exact(y.1.resolve_left y.2).1
   obtain⟨_,s2,s3,s4⟩:=F k R;exact Dy s2 s3 s4
  .rw[bS z];by_cases y:A5 es u k
   .rw[ec y];obtain w|w|w:=X k l
    .rw[w.2.1]at G;cases G
    .exact Wd h l w.1 w.2.2
    .rw[w.2.1]at G;cases G
   .rw[bS y];exact hc k l G
 .refine(List.perm_ext_iff_of_nodup (zJ (q8 _)) ?_).2 λx=>?_
  .rw[kc];refine⟨G4 _ (zJ (q8 _)),A4 h p d,λa ha b Y S=>?_⟩;subst S;exact(Z a).1 (js.1 ha).2 (zL h p d ((DB h p d a).1 Y))
  .rw[Hg,hG,js,DB h p d,Z]
abbrev p5:=AT×AT×AT
inductive J where
 | out (m:Int)|Nh (m:Int)|keep (m p q:Int)|put (x p q:Int)|X5 (w:Str) (ds:BB)
noncomputable def J.w:J->Str
 | .out _=>"out"
 | .Nh _=>"in"
 | .keep _ _ _=>"keep"
 | .put _ _ _=>"put"
 | .X5 w _=>w
noncomputable def J.ds:J->BB
 | .out m=>[.int m]
 | .Nh m=>[.int m]
 | .keep m p q=>[.int m,.int p,.int q]
 | .put x p q=>[.int x,.int p,.int q]
 | .X5 _ ds=>ds
def J.d(r:J):D:=.tup (.str r.w::r.ds)
def N9:At:=["sign","way","call","say","rest"]
def Sn(d:D):Prop:=(∃i,d=.int i)\/∃x,d=.str x
def J.ok(s:p5):J->Prop
 | .keep m _ _=>0<=m/\m<s.2.1.length
 | .put x _ _=>0<=x/\x<s.2.2.length
 | .X5 w ds=>w∈N9/\ds.length<=3/\∀d∈ds,Sn d
 | _=>True
def apX(back:Bool)(r:J)(ops:AT):AT:=match r with
 | .out m=>if back then sortI (ops++[m]) else ops.filter QsC
 | .Nh m=>if back then ops.filter QsC else sortI (ops++[m])
 | _=>ops
noncomputable def atx(back:Bool)(r:J)(mem:AT):AT:=match r with
 | .keep m p q=>mem.set m.toNat Qqx
 | _=>mem
noncomputable def aty(back:Bool)(r:J)(bs:AT):AT:=match r with
 | .put x p q=>bs.set x.toNat Qqx
 | _=>bs
def apY(back:Bool)(s:p5)(r:J):p5:=(apX back r s.1,atx back r s.2.1,aty back r s.2.2)
def Fits(back:Bool):List J->p5->Prop
 | [],s=>s.1.length<60
 | r::rs,s=>s.1.length<60/\r.ok s/\Fits back rs (apY back s r)
theorem Fits.len{back:Bool}{rs:List J}{s:p5}(h:Fits back rs s):s.1.length<60:=by
 cases rs with
 | nil=>exact h
 | cons r rs=>exact h.1
structure Sk(n:Nat)(s:p5):Prop where
 up:s.1.Pairwise (· < ·)
 lo:∀x∈s.1,0<=x/\x<n
 mem:s.2.1.length=n
def Right(n:Nat)(s:p5):J->Prop
 | .out m=>m∈s.1
 | .Nh m=>m∉s.1/\0<=m/\m<n
 | .keep m p _=>0<=m/\m<s.2.1.length/\s.2.1.getD m.toNat 0=p
 | .put x p _=>0<=x/\x<s.2.2.length/\s.2.2.getD x.toNat 0=p
 | .X5 w ds=>w∈N9/\ds.length<=3/\∀d∈ds,Sn d
theorem Right.ok{s:p5}{r:J}(h:Right n s r):r.ok s:=by
 cases r with
 | out m=>trivial
 | Nh m=>trivial
 | keep m p q=>exact⟨h.1,h.2.1⟩
 | put m p q=>exact⟨h.1,h.2.1⟩
 | X5 w ds=>exact h
theorem Sq{n:Nat}:∀{l:AT} {lo:Int},l.Pairwise (· < ·)->(∀x∈l,lo<=x/\x<n)->0<=lo->l.length<=((n:Int)-lo).toNat
 | [],_,_,_,_=>hY _
 | y::l,lo,b,hl,h0=>by
  have d:=hl y Wl;obtain⟨h1,c⟩:=l5.1 b;have:=Sq (lo:=y+1) c (λx a=>⟨by have:=h1 x a;lia,(hl x (hJ _ a)).2⟩) We;simp;lia
theorem Sk.len{s:p5}(h:Sk n s):s.1.length<=n:=by
 have:=Sq h.up h.lo Wl;lia
theorem E1(h:l.Pairwise (· <= ·))(nd:QfM):l.Pairwise (· < ·):=by
 induction l with
 | nil=>exact .nil
 | cons y l b=>
  obtain⟨h1,c⟩:=l5.1 h;obtain⟨n1,n2⟩:=kn.1 nd;refine l5.2 ⟨λx a=>?_,b c n2⟩;have:=h1 x a;have:y≠x:=λe=>n1 (e▸a);lia
theorem acL(h:l.Pairwise (· < ·)):l.Nodup:=h.imp We
noncomputable def J.m:J->Int
 | .out m=>m
 | .Nh m=>m
 | _=>0
noncomputable def eU(bs nm:BB)(tr:D)(is os ws:BB):D:=.ins "Chart" [("boxes",.lst bs),("names",.lst nm),("tree",tr),("ins",.lst is),("outs",.lst os),("ways",.lst ws)]
variable{bs nm is os ws:BB}{tr:D}
def OB:List.lookup ("boxes":Str) [(("boxes":Str),D.lst bs),("names",.lst nm),("tree",tr),("ins",.lst is),("outs",.lst os),("ways",.lst ws)]=some (.lst bs):=iP
def OD:List.lookup ("names":Str) [(("boxes":Str),D.lst bs),("names",.lst nm),("tree",tr),("ins",.lst is),("outs",.lst os),("ways",.lst ws)]=some (.lst nm):=rfl
def eV:List.lookup ("tree":Str) [(("boxes":Str),D.lst bs),("names",.lst nm),("tree",tr),("ins",.lst is),("outs",.lst os),("ways",.lst ws)]=some tr:=rfl
def Yz:List.lookup ("ins":Str) [(("boxes":Str),D.lst bs),("names",.lst nm),("tree",tr),("ins",.lst is),("outs",.lst os),("ways",.lst ws)]=some (.lst is):=rfl
def Ss:List.lookup ("outs":Str) [(("boxes":Str),D.lst bs),("names",.lst nm),("tree",tr),("ins",.lst is),("outs",.lst os),("ways",.lst ws)]=some (.lst os):=rfl
def dM:List.lookup ("ways":Str) [(("boxes":Str),D.lst bs),("names",.lst nm),("tree",tr),("ins",.lst is),("outs",.lst os),("ways",.lst ws)]=some (.lst ws):=rfl
noncomputable def E2(bs nm:BB):BS:=[("boxes",.lst (bs.map T.sh)),("names",.lst (nm.map T.sh))]
noncomputable def E3(is os ws:BB):BS:=[("ins",.lst (is.map T.sh)),("outs",.lst (os.map T.sh)),("ways",.lst (ws.map T.sh))]
def xG(bs nm:BB)(t:T)(is os ws:BB):BS:=E2 bs nm++(("tree":Str),t)::E3 is os ws
def Sv(bs nm:BB)(t:T)(is os ws:BB):T.bU (.ins "Chart" Qtp)=eU bs nm t.bU is os ws:=by
 unfold xG E2 E3;rw[l7,l7,rr,T.bU,T.sW,T.sW,T.sW,T.sW,T.sW,T.sW,bV,bV,bV,bV,bV];rfl
def bT{ds:BB}(h:Qdt):(T.lst Qct).clean=true:=by
 rw[qk]
 induction ds with
 | nil=>rfl
 | cons d ds a=>
  rw[D.aY,kx]at h;rw[ik,T.dR,a h.2,T.clean,h.1];rfl
def K0(h1:D.aY bs=true)(a:D.aY nm=true):T.cR (E2 bs nm)=true:=by
 unfold E2;rw[T.cR,T.cR,bT h1,bT a];rfl
def K1(h1:D.aY is=true)(b:D.aY os=true)(a:D.aY ws=true):T.cR (E3 is os ws)=true:=by
 unfold E3;rw[T.cR,T.cR,T.cR,bT h1,bT b,bT a];rfl
noncomputable def qx(p:QjG):D:=.tup [.str p.1,.int p.2]
noncomputable def KC(p:D×Str×BB):D:=.tup (p.1::.str p.2.1::p.2.2)
structure bO where
 src:Int
 sign:Str
 asks:BB
 Cu:BB
 ij:Int
 mode:Str
def j4(w:bO):D:=.tup [.int w.src,.str w.sign,.tup w.asks,.tup w.Cu,.int w.ij,.str w.mode]
noncomputable def w0:bO:=⟨0,Str.empty,[],[],0,Str.empty⟩
def f9(ws:Q4)(i:Int):bO:=ws.getD i.toNat w0
theorem nY{ws:Q4}{i:Int}(h0:0<=i)(h1:i<ws.length):f9 ws i∈ws:=by
 unfold f9;simp_all
def jP(ks:At)(es:AT)(w:bO):Int:=KY QcJ es w.src w.ij
def wF(es ops:AT)(u:Int):AT:=(ops.filter (λm=>decide (u=-1) || decide (u∈bM es m))).reverse
def Ap(es:AT)(u v:Int):Prop:=u ≠ -1/\v ≠ -1/\u≠v/\u∉bM es v/\v∉bM es u
theorem Ap.symm{v:Int}(h:Ap es u v):Ap es v u:=⟨h.2.1,h.1,λe=>h.2.2.1 e.symm,h.2.2.2.2,h.2.2.2.1⟩
def YB(b:dI es){v:Int}(x0:0<=x)(a:Qee)(ap:Ap es u v)(h:A5 es u x):¬ A5 es v x:=λk=>by
 have h:=h.resolve_left ap.1;have k:=k.resolve_left ap.2.1;obtain e|e|e:=qZ b x0 a h k
 .exact ap.2.2.1 e
 .exact ap.2.2.2.1 e
 .exact ap.2.2.2.2 e
theorem ic(nd:QfM)(b:∀x∈l,0<=x/\x<n):l.length<=n:=by
 have:=Sq (E1 (jy l) ((sortI_perm l).nodup_iff.2 nd)) (λx a=>b x (g8.1 a)) Wl;rw[mS]at this;lia
theorem xH{α:Type}{es:AT}(i:dI es){top:α->Int}{f:α->AT}:∀{gs:Q8},gs.Pairwise (λa c=>Ap es (top a) (top c))->(∀a∈gs,(f a).Nodup/\∀x∈f a,QiH/\A5 es (top a) x) →
  (gs.flatMap f).Nodup/\∀x∈gs.flatMap f,QiH/\∃a∈gs,A5 es (top a) x
 | [],_,_=>⟨Wl,λx b=>by simp at b⟩
 | a::gs,k,hf=>by
  obtain⟨h1,l⟩:=l5.1 k;obtain⟨i1,h⟩:=xH i l (λc d=>hf c QkE);obtain⟨f1,f2⟩:=hf a Wl;refine⟨kc.2 ⟨f1,i1,λx b y j e=>?_⟩,λx b=>?_⟩
  .subst e;obtain⟨b1,c,d,g⟩:=h x j;exact YB i b1.1 b1.2 (h1 c d) (f2 x b).2 g
  .obtain b|b:=hG.1 b
   .exact⟨(f2 x b).1,a,gF,(f2 x b).2⟩
   .obtain⟨b1,c,d,g⟩:=h x b;exact⟨b1,c,hJ _ d,g⟩
def Sw(ks:At)(es ss mem:AT)(w:bO):AT:=rf Qa8 Qa9 es ss mem (d9 w.mode) (gV w.mode) Qcg w.ij.toNat
def Goes(ks:At)(es:AT)(w:bO):Prop:=(0<=w.ij/\w.ij<es.length)/\(jP ks es w=-1\/jP ks es w∈bM es w.ij.toNat)
theorem ama(b:QlN){w:bO}(h:Goes ks es w):(Sw ks es ss mem w).Nodup/\∀x∈Sw ks es ss mem w,QiH/\A5 es Qcg x:=by
 have a:w.ij.toNat<es.length:=by have:=h.1;lia
 refine⟨A4 b a h.2,λx c=>?_⟩;have hi:=(DB b a h.2 x).1 c;exact⟨LU b a hi,zL b a h.2 hi⟩
def oZ(ks:At)(es ops:AT)(gs:Q4):AT:=(sortI (gs.flatMap λw=>wF es ops Qcg)).reverse
noncomputable def Jm(h:QfM):l.reverse.Nodup:=List.pairwise_reverse.2 (h.imp λh e=>h e.symm)
variable{ops:AT}
def tT:x∈wF es ops u↔x∈ops/\A5 es u x:=by
 unfold wF A5;simp
variable{gs:Q4}
def K2:x∈oZ ks es ops gs↔x∈ops/\∃w∈gs,A5 es Qcg x:=by
 unfold oZ;rw[wx,g8,i5];constructor
 .rintro⟨w,hw,a⟩;exact⟨(tT.1 a).1,w,hw,(tT.1 a).2⟩
 .rintro⟨a,w,hw,b⟩;exact⟨w,hw,tT.2 ⟨a,b⟩⟩
def OG(d:dI es)(e:ops.Pairwise (· < ·))(f:∀x∈ops,0<=x/\x<es.length)(g:QiX) :
  (gs.flatMap λw=>wF es ops Qcg).Nodup/\(gs.flatMap λw=>wF es ops Qcg).length<=es.length:=by
 have h:=xH d g (λw _=>⟨by
  exact Jm ((acL e).filter _),λx b=>⟨f x (tT.1 b).1,(tT.1 b).2⟩⟩)
 exact⟨h.1,ic h.1 λx b=>(h.2 x b).1⟩
def Jo(b:dI es)(d:ops.Pairwise (· < ·))(e:∀x∈ops,0<=x/\x<es.length)(f:QiX):(oZ ks es ops gs).Nodup/\(oZ ks es ops gs).length<=es.length:=by
 obtain⟨h1,g⟩:=OG b d e f;unfold oZ;exact⟨Jm ((sortI_perm _).nodup_iff.2 h1),by rw[rp,mS];exact g⟩
def YC{a c:AT}(h:a.Perm c):sortI a=sortI c:=Et ((sortI_perm a).trans h) (jy a)
def xJ(ks:At)(es ss mem:AT)(gs:Q4):AT:=sortI (gs.flatMap QeJ)
def E4(b:QlN)(f:QiX)(e:∀w∈gs,Goes ks es w) :
  (gs.flatMap QeJ).Nodup/\(gs.flatMap QeJ).length<=es.length/\∀x∈gs.flatMap QeJ,QiH/\∃w∈gs,A5 es Qcg x:=by
 have h:=xH b.pre.1 f (λw hw=>ama b (e w hw));exact⟨h.1,ic h.1 λx d=>(h.2 x d).1,h.2⟩
def FR(ks:At)(es ss mem ops:AT)(gs:Q4):AT:=sortI (ops.filter Qk2++xJ ks es ss mem gs)
theorem XX(l:QlN)(i:ops.Pairwise (· < ·))(k:∀x∈ops,0<=x/\x<es.length)(m:QiX)(j:∀w∈gs,Goes ks es w) :
  (FR ks es ss mem ops gs).Pairwise (· < ·)/\(∀x∈FR ks es ss mem ops gs,0<=x/\x<es.length)/\(ops.filter Qk2++xJ ks es ss mem gs).length<=es.length:=by
 obtain⟨o,_,f⟩:=E4 l m j;have nd:(ops.filter (λx=>!decide _)++xJ ks es ss mem gs).Nodup:=kc.2 ⟨(i.imp We).filter _,(sortI_perm _).nodup_iff.2 o,λx b y g e=>by
  subst e;obtain⟨h1,n⟩:=js.1 b;exact of_decide_eq_false (by simpa using n) (K2.2 ⟨h1,(f x (g8.1 g)).2⟩)⟩
 have d:∀x∈ops.filter Qk2++xJ ks es ss mem gs,0<=x/\x<es.length:=λx b=>by
  obtain z|z:=hG.1 b
  .exact k x (js.1 z).1
  .exact(f x (g8.1 z)).1
 refine⟨?_,λx b=>d x (g8.1 b),ic nd d⟩;exact((jy _).and ((sortI_perm _).nodup_iff.2 nd)).imp λh=>by lia
def nj(ws:Q4)(i:Int):Bool:=!decide ((f9 ws i).ij=-1)
def rj(ws:Q4)(some:AT):List bO:=(some.filter Qdg).map QbO
theorem pe{β:Type}{f:α->List β}(l:Q8)(j:Nat):((l.take j).flatMap f).length<=(l.flatMap f).length:=by
 have a:=wi j l
 conv=>rhs;rw[<- a]
 rw[ro,iq];lia
theorem A6{α:Type}{f:α->AT}:∀l:List α,(l.flatMap λa=>sortI (f a)).Perm (l.flatMap f)
 | []=>.refl _
 | a::l=>(sortI_perm _).append (A6 l)
def ze(n:Nat)(w:bO):Prop:=(0<=w.src/\w.src<n)/\(w.ij=-1\/(0<=w.ij/\w.ij<n))/\xE w.mode/\w.Cu.length<=12/\D.aY w.Cu=true/\D.aY w.asks=true
def Jp(es:AT)(m:Int)(w:bO):Bool:=(!decide (w.mode="new")&&decide (w.ij=m)) || (decide (w.mode="far")&&(decide (w.ij=-1) || decide (w.ij∈bM es m)))
def k7(ks:At)(es:AT)(ws:Q4)(m:Int):Bool:=fW ks m&&ws.any (Jp es m)
abbrev _root_.Dx:=List BB
def inR(is:Dx)(a:AT):BB:=a.flatMap λm=>D.tup [.str "in",.int m]::is.getD m.toNat []
def rA(is:Dx):Prop:=∀l∈is,l.length<=12/\D.aY l=true
def K3(C8:Cf)(os:Dx)(mem bh gone:AT):BB:=gone.flatMap λm=>D.tup [.str "out",.int m]::Qsj
def OI(ws:Q4)(some:AT):BB:=some.flatMap λi=>D.tup [.str "way",.int i]::(f9 ws i).Cu
theorem rA.get{is:Dx}(h:rA is)(k:Nat):(is.getD k []).length<=12/\D.aY (is.getD k [])=true:=by
 by_cases a:k<is.length
 .rw[i4,iB a];exact h _ Wl
 .rw[i4,Hc We];exact⟨Wl,rfl⟩
theorem j5{α β:Type}{f:α->List β}{c:Nat}:∀l:List α,(∀a∈l,(f a).length<=c)->(l.flatMap f).length<=c*l.length
 | [],_=>by simp
 | a::l,h=>by
  have h1:=h a gF;have e:=j5 l (λb d=>h b QkE);rw[pz,iq,kq];lia
def A7{f:α->BB}{l:Q8}(h:∀a∈l,D.aY (f a)=true):D.aY (l.flatMap f)=true:=fB λd hd=>by
 obtain⟨a,b,hd⟩:=i5.1 hd;exact qp (h a b) d hd
def OJ{a c:BB}(h1:D.aY a=true)(b:D.aY c=true):D.aY (a++c)=true:=fB λd hd=>(hG.1 hd).elim (qp h1 d) (qp b d)
theorem K4{C8:Cf}{os:Dx}{bh:AT}(h:rA os)(gone:AT):(K3 C8 os mem bh gone).length<=14*gone.length/\D.aY (K3 C8 os mem bh gone)=true:=by
 refine⟨j5 _ λm _=>?_,A7 λm _=>?_⟩
 .have:=(h.get m.toNat).1;have h1:(if C8 m=true then [D.tup [.str "keep",.int m,.int Qmw,.int QmL]] else []).length<=1:=by split<;>simp
  rw[kq,iq];lia
 .refine OJ ?_ (h.get _).2;split<;>rfl
theorem A8{is:Dx}(h:rA is)(a:AT):(inR is a).length<=13*a.length/\D.aY (inR is a)=true:=by
 refine⟨j5 _ λm _=>?_,A7 λm _=>?_⟩
 .have:=(h.get m.toNat).1;simp_all
 .exact(h.get _).2
theorem K5{ws:Q4}{some:AT}(h:∀i∈some,ze n Qci):(OI ws some).length<=13*some.length/\D.aY (OI ws some)=true:=by
 refine⟨j5 _ λm hm=>?_,A7 λm hm=>?_⟩
 .have:=(h m hm).2.2.2.1;simp;lia
 .exact(h m hm).2.2.2.2.1
def YD(C8:Cf)(os:Dx)(mem bh gone:AT)(m:Int):K3 C8 os mem bh (gone++[m])=K3 C8 os mem bh gone++(D.tup [.str "out",.int m]::Qsj):=by
 unfold K3;simp
def YF(ws:Q4)(some:AT)(i:Int):OI ws (some++[i])=OI ws some++(D.tup [.str "way",.int i]::(f9 ws i).Cu):=by
 unfold OI;simp
def acN(is:Dx)(a:AT)(m:Int):inR is (a++[m])=inR is a++(D.tup [.str "in",.int m]::is.getD m.toNat []):=by
 unfold inR;simp
def mv(ks:At)(es:AT)(ws:Q4)(mem ops:AT)(gs:Q4):AT:=n7 QcJ es ((oZ ks es ops gs).filter QeZ) mem ops
def FO(ks:At)(es ss:AT)(is os:Dx)(ws:Q4)(mem ops some:AT):BB:=
 K3 QeZ os mem QqT (oZ ks es ops (rj ws some))++OI ws some++inR is (xJ ks es ss QqT (rj ws some))
def Cv(ks:At)(es mem:AT):Prop:=mem.length=es.length/\∀k:Nat,k<es.length->fW ks k=true->mem.getD k 0=-1\/mem.getD k 0∈jL es k
structure n5(ks:At)(es ss:AT)(is os:Dx)(ws:Q4):Prop where
 n0:0<es.length
 n1:es.length<=13
 kl:ks.length=es.length
 sl:ss.length=es.length
 il:is.length=es.length
 ol:os.length=es.length
 kd:X0 Qa8 QcJ Qa9 es
 pre:nV es
 st:KI QcJ es ss
 ir:rA is
 or:rA os
 wo:∀w∈ws,ze es.length w
 wl:ws.length<=12
structure rB(ks:At)(es:AT)(ws:Q4)(some:AT):Prop where
 i:∀i∈some,0<=i/\i<ws.length
 l:some.length<=12
 ap:(rj ws some).Pairwise Qo5
section
variable{is os:Dx}{ws:Q4}{some:AT}
theorem n5.tree(h:QiB)(hm:Cv ks es mem):eB Qa8 Qa9 es ss mem:=⟨h.pre,(λk a e=>by
  obtain⟨_,_,_,z⟩|⟨z,_⟩|⟨z,_⟩:=h.kd k a
  .exact z
  .rw[z]at e;cases e
  simp_all),λk a e1 e2=>by
  obtain⟨z,_⟩|⟨_,z,_⟩|⟨_,_,z⟩:=h.kd k a
  .rw[z]at e1;cases e1
  .exact⟨h.st k a z,hm.2 k a z⟩
  simp_all⟩
theorem n5.kinds(h:QiB):∀k:Nat,k<es.length->bf ks k=true\/bF ks k=true\/ks.getD k Str.empty="one":=λk a=>by
 obtain⟨z,_⟩|⟨_,z,_⟩|⟨_,_,z⟩:=h.kd k a
 .exact .inl z
 .refine .inr (.inr ?_);have:=iw z;assumption
 .exact .inr Qck
def amb{w:bO}(hw:w∈rj ws some):∃i∈some,w=f9 ws i/\w.ij ≠ -1:=by
 obtain⟨i,hi,rfl⟩:=hP.1 hw;obtain⟨h1,a⟩:=js.1 hi;refine⟨i,h1,rfl,?_⟩;unfold nj at a;simpa using a
theorem rB.xq(h:QiB)(hs:rB ks es ws some):∀w∈rj ws some,Goes ks es w:=λw hw=>by
 obtain⟨i,hi,rfl,c⟩:=amb hw;obtain⟨b,i1⟩:=hs.i i hi;have vi:=h.wo _ (nY b i1);have a:=vi.2.1.resolve_left c;refine⟨a,?_⟩;have e:((f9 ws i).ij.toNat)=(f9 ws i).ij:=by lia
 obtain z|z:=agS h.pre.1 vi.1.1 vi.1.2
 .exact .inl z.1
 .exact .inr (e▸z.2.1)
theorem rB.vi(h:QiB)(hs:rB ks es ws some):∀i∈some,ze es.length Qci:=λi hi=>h.wo _ Qll
theorem XN{d:AT}(a:∀x∈d,0<=x):∀(ops acc:AT),(∀x∈ops,0<=x/\x<es.length)->Cv ks es acc->Cv ks es (n7 QcJ es d acc ops)
 | [],_,_,h=>h
 | m::ops,acc,c,h=>by
  obtain⟨m0,m1⟩:=c m Wl;apply XN a ops _ (λx f=>c x (hJ _ f));unfold EW;split
  .rename_i z;have g:=a _ z.1;refine⟨(rh ..).trans h.1,λk b h1=>?_⟩;by_cases e:(es.getD m.toNat 0).toNat=k
   .rw[<- e,i4,HH (by rw[e,h.1];exact b),Option.getD_some];refine .inr (Dy m0 m1 ?_);lia
   .rw[i4,List.getElem?_set_ne e];exact h.2 k b h1
  .exact h
noncomputable def Sa(a:∀x∈ops,0<=x/\x<es.length)(hm:Cv ks es mem)(gs:Q4):Cv ks es (mv ks es ws mem ops gs):=XN (λx b=>(a x (K2.1 (js.1 b).1).1).1) ops mem a hm
end
def OL{p:α->Bool}{l:Q8}{j:Nat}{x:α}(h:l[j]? = some x)(a:p x=true):l.any p=true:=nv.2 ⟨x,i0 h,a⟩
theorem any_none{p:α->Bool}{l:Q8}(h:∀(j:Nat) (x:α),l[j]? = some x->p x=false):l.any p=false:=by
 rw[List.any_eq_false];intro x a;obtain⟨j,b,e⟩:=List.getElem_of_mem a;rw[h j x Wp];decide
noncomputable def A9(a mo:Int)(bs:AT):Int:=if a=-1 then mo else bs.getD a.toNat 0+mo
inductive C9 where
 | put (x b m:Int)
 | call (s:Str)
 | say (s:Str) (b m:Int)
noncomputable def C9.w:C9->Str
 | .put _ _ _=>"put"
 | .call _=>"call"
 | .say _ _ _=>"say"
def C9.ds:C9->BB
 | .put x b m=>[.int x,.tup [.int b,.int m]]
 | .call s=>[.str s]
 | .say s b m=>[.str s,.tup [.int b,.int m]]
def C9.d(q:C9):D:=.tup (.str q.w::q.ds)
def NH(bs:AT)(b:Int):Prop:=b=-1\/(0<=b/\b<bs.length)
def C9.ok(bs:AT):C9->Prop
 | .put x b _=>(0<=x/\x<bs.length)/\NH bs b
 | .call _=>True
 | .say _ b _=>NH bs b
def C9.row(bs:AT):C9->J
 | .put x b m=>.put x (bs.getD x.toNat 0) (A9 b m bs)
 | .call s=>.X5 "call" [.str s]
 | .say s b m=>.X5 "say" [.str s,.int (A9 b m bs)]
inductive It where
 | out (m:Int)|keep (m p q:Int)|way (i:Int)|Nh (m:Int)|xK (q:C9)
def It.sj:It->J
 | .out m=>.out m
 | .keep m p q=>.keep m p q
 | .way i=>.X5 "way" [.int i]
 | .Nh m=>.Nh m
 | .xK q=>.X5 q.w q.ds
def It.d(x:It):D:=x.sj.d
def It.j(bs:AT):It->J
 | .xK q=>q.row bs
 | x=>x.sj
def It.ok(bs:AT):It->Prop
 | .xK q=>q.ok bs
 | _=>True
noncomputable def jC(ns:AT)(k:Int):Int:=if k<ns.length then ns.getD k.toNat 0 else 0
noncomputable def YG:Co:=(List.range 26).map (· + 97)++(List.range 10).map (· + 48)
def XB:("abcdefghijklmnopqrstuvwxyz0123456789":Str).cps.toList=YG:=by decide +kernel
def K6(k:Int):Str:=⟨#[YG.getD k.toNat 0]⟩
def amc:∀n∈YG,n<1114112:=by decide +kernel
def Xy(k:Int):PyData.strOk (K6 k)=true:=by
 unfold PyData.strOk K6;have:YG.getD k.toNat 0<1114112:=by
  simp;cases e:YG[k.toNat]? with
  | none=>decide
  | some n=>exact amc n (i0 e)
 simpa using this
noncomputable def w6:At:=["out","put","say","shut","then","to"]
def tU(l:AT):lU 60 QiW:=.lst λd hd=>by
 obtain⟨i,_,rfl⟩:=hP.1 hd;exact .int _ _
def OH(mk:Str)(i j:Int):Bool:=if mk="<" then decide (i<j) else if mk="<=" then decide (i<=j) else if mk="=" then decide (i=j) else !decide (i=j)
inductive xM where
 | Dc (op:Bool) (m:Int)
 | num (mk:Str) (b1 m1 b2 m2:Int)
def Ba:xM->D
 | .Dc op m=>.tup [.str (if op then "open" else "shut"),.int m]
 | .num mk b1 m1 b2 m2=>.tup [.str mk,.tup [.int b1,.int m1],.tup [.int b2,.int m2]]
noncomputable def YH:At:=["<","<=","=","!="]
def xM.Ok(n:Nat)(bs:AT):xM->Prop
 | .Dc _ m=>0<=m/\m<n
 | .num mk b1 _ b2 _=>mk∈YH/\(b1=-1\/(0<=b1/\b1<bs.length))/\(b2=-1\/(0<=b2/\b2<bs.length))
def acR(a:xM):(Ba a).jS=true:=by cases a<;>rfl
def ag2:∀x∈YH,PyData.strOk x=true:=by decide +kernel
def K7(es:AT)(t u:Int):Bool:=decide (t=u) || (decide (t=-1) || decide (u=-1)) || (decide (u∈bM es t) || decide (t∈bM es u))
theorem acS{a c:Int}:KY dP es a c=-1\/KY dP es a c∈bM es a:=by
 unfold KY;cases e:(bM es a).find? _ with
 | none=>exact .inl rfl
 | some x=>exact .inr (HE e)
def JV(ks:At)(es:AT)(w v:bO):Bool:=(!decide (w.ij=-1) && !decide (v.ij=-1))&&K7 es Qcg (jP ks es v)
def ap1(w v:bO):JV ks es w v=JV ks es v w:=by
 unfold JV K7;simp[Bool.and_comm (!decide (w.ij=-1))];have e1:decide (jP ks es w=jP ks es v)=decide (jP ks es v=jP ks es w):=by simp[eq_comm]
 rw[e1,Bool.or_comm (decide (jP ks es w=-1)),Bool.or_comm (decide (jP ks es v∈bM es _))]
noncomputable def axI:D->Int
 | .tup (_::_::_::_::.int t::_)=>t
 | _=>0
noncomputable def YJ(ln:AT)(y:Int):Nat:=ln.findIdx (λz=>decide (z=y))
variable{ln:AT}
noncomputable def amd(h:y∈ln):YJ ln y<ln.length:=List.findIdx_lt_length_of_exists ⟨y,h,Wl⟩
def ag3(h:y∈ln):ln[YJ ln y]? = some y:=by
 have hl:=amd h;have:=List.findIdx_getElem (w:=hl);exact iB hl▸congrArg _ (iw this)
def ame{i:Nat}(h:i<YJ ln y):ln[i]? ≠ some y:=λe=>by
 have:=List.not_of_lt_findIdx h;rw[(ko.1 e).2]at this;simp at this
def YK(ops:AT):D->Bool
 | .tup [.str k,.int m]=>if k="open" then decide QjL else if k="shut" then !decide QjL else true
 | _=>true
def OO(ops:AT)(l:BB):Bool:=l.all (YK ops)
def xM.Kt:xM->Prop
 | .Dc _ _=>True
 | .num mk _ _ _ _=>mk∈YH
theorem xM.Ok.mk{bs:AT}{a:xM}(h:a.Ok n bs):a.Kt:=by
 cases a with
 | Dc op m=>trivial
 | num mk b1 m1 b2 m2=>exact h.1
def ag4{mk:Str}(h:mk∈YH):mk≠"open" /\ mk≠"shut":=by
 have:∀x∈YH,x≠"open" /\ x≠"shut":=by decide +kernel
 exact this mk h
def acT(ops:AT)(op:Bool)(m:Int):YK ops (Ba (.Dc op m))=if op then decide QjL else !decide QjL:=by
 cases op
 .rfl
 rfl
def vx(ops:AT)(sg:Str)(ln:AT)(w:bO):Bool:=decide (w.sign=sg)&&(decide (w.src∈ln)&&OO ops w.asks)
def tj(ws:Q4)(ops:AT)(sg:Str)(ln:AT)(n:Nat):Co:=(List.range n).filter λk=>vx ops sg ln (ws.getD k w0)
def tc(ws:Q4)(ops:AT)(sg:Str)(ln:AT):AT:=iD (λk:Int=>(YJ ln (ws.getD k.toNat w0).src:Int)) ((tj ws ops sg ln ws.length).map λ(k:Nat)=>(k:Int))
def K8(ws:Q4)(ops:AT)(sg:Str)(ln:AT)(n:Nat):(tj ws ops sg ln n).length<=n:=by
 have:=nr (λk=>vx ops sg ln (ws.getD k w0)) (List.range n);rw[kr]at this;exact this
def acU(ws:Q4)(ops:AT)(sg:Str)(ln:AT)(n:Nat):tj ws ops sg ln Qaa=tj ws ops sg ln n++(if vx ops sg ln (ws.getD n w0)=true then [n] else []):=by
 unfold tj;rw[xf,oI,List.filter_cons,uu]
def ag5(ws:Q4)(ops:AT)(sg:Str)(ln:AT):(tc ws ops sg ln).length<=ws.length:=by
 unfold tc;rw[A0,cq];exact K8 _ _ _ _ _
def E5(ws:Q4):Prop:=∀w∈ws,∃l:List xM,w.asks=l.map Ba/\∀a∈l,a.Kt
abbrev Ask:=Str×Int×Int×Int×Int
noncomputable def zM(q:Ask):D:=.tup [.str q.1,.tup [.int q.2.1,.int q.2.2.1],.tup [.int q.2.2.2.1,.int q.2.2.2.2]]
def hQ(bs:AT)(q:Ask):Bool:=OH q.1 (A9 q.2.1 q.2.2.1 bs) (A9 q.2.2.2.1 q.2.2.2.2 bs)
def OQ(l:BB):BB:=l.filter λd=>!decide Qqr
abbrev _root_.Db:=List Ask
noncomputable def OF:xM->Db
 | .Dc _ _=>[]
 | .num mk b1 m1 b2 m2=>[(mk,b1,m1,b2,m2)]
theorem ag6{bs:AT}{l:List xM}(h:∀a∈l,a.Ok n bs):OQ QoP=(l.flatMap OF).map zM:=by
 unfold OQ
 induction l with
 | nil=>rfl
 | cons a l b=>
  have b:=b λq c=>h q (hJ _ c);have d:=h a gF;rw[ik,pz,h7,<- b];cases a with
  | Dc op m=>
   rw[y6]
   .rfl
   .show ¬ (!decide ((if op=true then("open":Str) else "shut")∈(["open","shut"]:At)))=true;grind
  | num mk b1 m1 b2 m2=>
   rw[y5]
   .rfl
   .have:∀x∈YH,(!decide (x∈(["open","shut"]:At)))=true:=by decide +kernel
    exact this mk d.1
def hD(vs:AT):D->Bool
 | .tup [.str mk,.tup [.int b1,.int m1],.tup [.int b2,.int m2]]=>OH mk (A9 b1 m1 vs) (A9 b2 m2 vs)
 | _=>true
def vD(n:Nat)(bs:AT)(ws:Q4):Prop:=∀w∈ws,∃l:List xM,w.asks=l.map Ba/\l.length<=12/\∀a∈l,a.Ok n bs
theorem vD.ok{bs:AT}{ws:Q4}(h:vD n bs ws):E5 ws:=λw hw=>by
 obtain⟨l,e,_,hl⟩:=h w hw;exact⟨l,e,λa b=>(hl a b).mk⟩
noncomputable def jM(l:AT)(s:Int):AT:=if s∈l then l else l++[s]
noncomputable def Wm(l:AT):List Qj0:=l.map λs=>((Sum.inl s:Key),D.bl true)
theorem ag7(l:AT)(s:Int):((Wm l).any λa=>decide (a.1=Sum.inl s))=decide (s∈l):=by
 unfold Wm
 induction l with
 | nil=>rfl
 | cons y l b=>
  by_cases h:y=s
  .subst h;simp
  .have h':¬ s=y:=λe=>h e.symm;simp_all
def ag8(l:AT)(s:Int):wB (Wm l) (.inl s) Qcj=Wm (jM l s):=by
 unfold wB;rw[ag7];unfold jM;by_cases h:s∈l
 .rw[ec (kf h),ec h];unfold Wm;rw[hW];refine ow λy _=>?_;simp
 .rw[if_neg (by simpa using h),if_neg h];unfold Wm;rw[h7];rfl
noncomputable def OE(ks:At)(x:Int):Bool:=decide Qq0
def Wn(ks:At)(ops:AT):AT:=ops.filter (OE ks)
variable{sg:Str}
theorem Wo{ws:Q4}{k:Int}(h:k∈tc ws ops sg ln):0<=k/\k<ws.length:=by
 obtain⟨i,hi,rfl⟩:=hP.1 (Ji.1 h);have:=lx.1 (js.1 hi).1;lia
noncomputable def YL(h:Cf)(tp:Qg4)(tm:Qgt)(s:Qhp)(k:Int):AT×AT:=
 if h k=true then(if s.2.any (tm (tp k))=true then s else(s.1++[k],s.2++[tp k])) else(s.1++[k],s.2)
def acV(es:AT)(t u:Int):K7 es t u=K7 es u t:=by
 unfold K7;have e1:decide (t=u)=decide (u=t):=by simp[eq_comm]
 rw[e1,Bool.or_comm (decide (t=-1)),Bool.or_comm (decide (u∈bM es t))]
def YM(es:AT)(ws:Q4)(k:Int):Int:=-((bM es (f9 ws k).src).length:Nat)
def nc(ks:At)(es:AT)(ws:Q4)(l:AT):AT×AT:=l.foldl Qhv ([],[])
def acX(ks:At)(es:AT)(ws:Q4)(l:AT)(k:Int):nc ks es ws (l++[k])=YL Qdg Qo6 (K7 es) (nc ks es ws l) k:=by
 unfold nc;simp
theorem ag9{h:Cf}{tp:Qg4}{tm:Qgt}(s:Qhp)(k:Int):(YL h tp tm s k).1.length<=s.1.length+1/\(YL h tp tm s k).2.length<=s.2.length+1:=by
 unfold YL;split
 .split
  .lia
  .simp
 .simp
theorem Wr(ks:At)(es:AT)(ws:Q4):∀l:AT,(nc ks es ws l).1.length<=l.length/\(nc ks es ws l).2.length<=l.length:=by
 have gen:∀(l:Qea) (s:List _×List _),(l.foldl Qhv s).1.length<=s.1.length+l.length/\(l.foldl Qhv s).2.length<=s.2.length+l.length:=by
  intro l
  induction l with
  | nil=>simp
  | cons k l a=>
   intro s;have h1:=ag9 (h:=nj ws) (tp:=λk=>jP ks es Qko) (tm:=K7 es) s k;have b:=a (YL Qdg Qo6 (K7 es) s k);simp;lia
 intro l;have:=gen l ([],[]);simpa [nc] using this
def RY(ks:At)(es:AT)(ws:Q4)(row:AT):AT:=sortI (nc ks es ws (iD Qb1 row)).1
abbrev Pl:=AT×AT
def at4:D->D
 | .tup (_::_::_::d::_)=>d
 | _=>.non
def xw:D->D
 | .tup (_::_::d::_)=>d
 | _=>.non
def xB(d:D):It:=if d.N6.toS="out" then .out d.at2.qI else if d.N6.toS="keep" then .keep d.at2.qI (xw d).qI (at4 d).qI else if d.N6.toS="way" then .way d.at2.qI else if d.N6.toS="in" then .Nh d.at2.qI
 else if d.N6.toS="put" then .xK (.put d.at2.qI (xw d).N6.qI (xw d).at2.qI) else if d.N6.toS="call" then .xK (.call d.at2.toS) else .xK (.say d.at2.toS (xw d).N6.qI (xw d).at2.qI)
theorem Xt(x:It):xB x.d=x:=by
 cases x with
 | out m=>rfl
 | keep m p q=>rfl
 | way i=>rfl
 | Nh m=>rfl
 | xK q=>
  cases q with
  | put i a c=>rfl
  | call s=>rfl
  | say s a c=>rfl
def pO(m:Nat)(a:Int):Prop:=a=-1\/(0<=a/\a<(m:Int))
def IS(m:Nat):It->Prop
 | .xK (.put i a _)=>(0<=i/\i<(m:Int))/\pO m a
 | .xK (.say s a _)=>PyData.strOk s=true/\pO m a
 | .xK (.call s)=>PyData.strOk s=true
 | _=>True
def vc(m:Nat)(d:D):Prop:=∃q:C9,d=q.d/\IS m (.xK q)
def p6(m:Nat)(d:D):Prop:=∃x:It,d=x.d/\IS m x
variable{m:Nat}
theorem vc.it{d:D}(h:vc m d):p6 m d:=by
 obtain⟨q,rfl,a⟩:=h;exact⟨ _,rfl,a⟩
def amj{l:BB}(h:∀d∈l,p6 m d):(l.map xB).map It.d=l/\∀x∈l.map xB,IS m x:=by
 refine⟨?_,λx a=>?_⟩
 .simp;refine(ow λd hd=>?_).trans (List.map_id _);obtain⟨x,rfl,_⟩:=h d hd;show(xB _).d=x.d;rw[Xt]
 .obtain⟨d,hd,rfl⟩:=hP.1 a;obtain⟨x,rfl,g⟩:=h d hd;rw[Xt];exact g
variable{P:Qkx}
theorem zN{l:Dx}(h:∀a∈l,∀d∈a,P d)(k:Nat):∀d∈l.getD k [],P d:=λd hd=>by
 simp at hd;cases e:l[k]? with
 | none=>rw[e]at hd;cases hd
 | some a=>rw[e]at hd;exact h a (i0 e) d hd
structure CH where
 bs:List QjG
 nm:BB
 ks:At
 es:AT
 ss:AT
 is:Dx
 os:Dx
 ws:List bO
def CH.d(c:CH):D:=eU QeN c.nm (dG c.ks c.es c.ss) (c.is.map .tup) (c.os.map .tup) (c.ws.map j4)
structure CH.Ok(c:CH):Prop where
 k:n5 c.ks c.es c.ss c.is c.os c.ws
 q:∀bs:AT,bs.length=c.bs.length->vD c.es.length bs c.ws
 i:∀l∈c.is,∀d∈l,vc c.bs.length d
 o:∀l∈c.os,∀d∈l,vc c.bs.length d
 w:∀w∈c.ws,∀d∈w.Cu,vc c.bs.length d
 nl:c.nm.length=c.es.length
 bl:c.bs.length<=1000
structure Gd(c:CH)(p:Pl):Prop where
 s:p.1.Pairwise (· < ·)
 b:∀x∈p.1,0<=x/\x<c.es.length
 m:Cv c.ks c.es p.2
def o3(c:CH)(p:Pl)(a:AT):BB:=FO c.ks c.es c.ss c.is c.os c.ws p.2 p.1 a
def toN(c:CH)(p:Pl)(a:AT):Pl:=(FR c.ks c.es c.ss QlA p.1 Qc3,mv c.ks c.es c.ws p.2 p.1 Qc3)
def ap5{t:Int}(h:K7 es t u=false):Ap es t u:=by
 unfold K7 at h;simp at h;exact⟨h.1.2.1,h.1.2.2,h.1.1,h.2.2,h.2.1⟩
variable{c:CH}
def Yf(h:c.Ok){p:Pl}{a:AT}(hs:Qvb):∀d∈o3 c p a,p6 c.bs.length d:=λd hd=>by
 obtain z|z:=hG.1 hd
 .obtain z|z:=hG.1 z
  .obtain⟨m,_,z⟩:=i5.1 z;obtain rfl|z:=fF.1 z
   .exact⟨.out m,rfl,trivial⟩
   .obtain z|z:=hG.1 z
    .split at z
     .rw[hU.1 z];exact⟨.keep m _ _,rfl,trivial⟩
     .cases z
    .exact(zN h.o _ d z).it
  .obtain⟨i,hi,z⟩:=i5.1 z;obtain rfl|z:=fF.1 z
   .exact⟨.way i,rfl,trivial⟩
   .exact(h.w _ Qll d z).it
 .obtain⟨m,_,z⟩:=i5.1 z;obtain rfl|z:=fF.1 z
  .exact⟨.Nh m,rfl,trivial⟩
  .exact(zN h.i _ d z).it
theorem ahc(h:c.Ok){p:Pl}(g:Gd c p){a:AT}(hs:Qvb):(o3 c p a).length<=600/\Gd c (toN c p a):=by
 obtain⟨j,i,hm⟩:=g;have b:=h.k;have d:=hs.xq b;have e:=Sa (ws:=c.ws) i hm Qc3;have f:=b.tree e;obtain⟨_,g2⟩:=Jo b.pre.1 j i hs.ap;obtain⟨_,m,_⟩:=E4 f hs.ap d;obtain⟨d1,d2,_⟩:=XX f j i hs.ap d;have n1:=b.n1;have sl:=hs.l;refine⟨?_,d1,d2,e⟩;unfold o3 FO;simp;have r:=(K4 (C8:=k7 c.ks c.es c.ws) (mem:=p.2) (bh:=mv c.ks c.es c.ws p.2 p.1 Qc3) b.or (oZ c.ks c.es p.1 Qc3)).1;have q:=(K5 (hs.vi b)).1;have o:=(A8 b.ir (xJ c.ks c.es c.ss QlA Qc3)).1;have n:(xJ c.ks c.es c.ss QlA Qc3).length<=c.es.length:=by unfold xJ;rw[mS];exact m
 lia
def YN(c:CH):Pl:=(Jl c.ks c.es c.ss QqU "new" 0,List.replicate c.es.length (-1))
def JE(c:CH):List It:=(inR c.is (YN c).1).map xB
noncomputable def Ws(ks:At)(es:AT):Cv ks es QhM:=⟨ui ..,λk a _=>.inl (by rw[i4,M1,ec a];rfl)⟩
def OS(h:c.Ok):eB (bf c.ks) (bF c.ks) c.es c.ss QqU:=h.k.tree (Ws ..)
theorem amk(h:c.Ok):Gd c (YN c)/\(JE c).map It.d=inR c.is (YN c).1/\(∀x∈JE c,IS c.bs.length x)/\(JE c).length<=200:=by
 have a:=OS h;have n0:=h.k.n0;have n1:=h.k.n1;have hl:=zH a (far:=d9 "new") (near:=gV "new") (d:=c.es.length) n0;have f:=(A8 h.k.ir (YN c).1).1;have hlen:(YN c).1.length<=c.es.length:=hl;obtain⟨i1,b⟩:=amj (l:=inR _ _) λd hd=>by
  obtain⟨m,_,z⟩:=i5.1 hd;obtain rfl|z:=fF.1 z
  .exact⟨.Nh m,rfl,trivial⟩
  .exact(zN h.i _ d z).it
 exact⟨⟨ni a _ n0,λx e=>by have:=bZ a _ n0 x e;lia,Ws ..⟩,i1,b,by show(List.map _ _).length<=200;simp;lia⟩
noncomputable def toQ:D->Db
 | .tup [.str mk,.tup [.int b1,.int m1],.tup [.int b2,.int m2]]=>[(mk,b1,m1,b2,m2)]
 | _=>[]
def vw(w:bO):Db:=w.asks.flatMap toQ
def tu(ws:Q4)(k:Int):Db:=vw (ws.getD k.toNat w0)
theorem Wt(l:List xM):(l.map Ba).flatMap toQ=l.flatMap OF:=by
 induction l with
 | nil=>rfl
 | cons a l b=>
  rw[ik,pz,pz,b];congr 1;cases a<;>rfl
abbrev _root_.CU:=List (Int×Bool)
noncomputable def YQ(hl:CU):List Qj0:=hl.map λp=>((Sum.inl p.1:Key),D.bl p.2)
def fP(hl:CU)(w:Int):Option Bool:=(hl.find? λp=>decide (p.1=w)).map (·.2)
def ahd(hl:CU)(w:Int):xA (YQ hl) Qc6=(fP hl w).map D.bl:=by
 unfold xA YQ fP
 induction hl with
 | nil=>rfl
 | cons p hl a=>
  rw[ik,nt,nt];by_cases e:p.1=w
  .subst e;simp
  .have e2:¬ (Sum.inl p.1:Key)=Sum.inl w:=λz=>e (Sum.inl.inj z);rw[i3 e2,i3 e];exact a
def ahe{hl:CU}{w:Int}(c:Bool)(h:fP hl w=none):wB (YQ hl) Qc6 (.bl c)=YQ (hl++[(w,c)]):=by
 unfold wB;rw[bS]
 .unfold YQ;rw[h7];rfl
 .intro z;obtain⟨d,b,e⟩:=nv.1 z;obtain⟨p,a,rfl⟩:=hP.1 b;have e:=Sum.inl.inj (iw e);unfold fP at h;rw[Option.map_eq_none_iff,t4]at h;exact h p a (kf e)
abbrev _root_.EU:=List AT
noncomputable def zO(r:EU):Nat:=(r.map λl=>l.length+1).sum
def eo(l:AT)(r:EU):zO Qft=l.length+1+zO r:=by unfold zO;rw[ik,List.sum_cons]
abbrev _root_.DA:=List (Db×AT)
def Kb(ws:Q4)(go:Db->AT->CU->DA):AT->Db->AT->CU->DA
 | [],q,p,h=>go q p h
 | w::l,q,p,h=>
  if tu ws w=[]\/fP h w=some true then go q Qd3 h
  else if fP h w=some false then Kb ws go l q p h
  else go QoQ Qd3 QnR++Kb ws go l q p QnB
def vG(ws:Q4):EU->Db->AT->CU->DA
 | [],q,p,_=>[(q,p)]
 | l::r,q,p,h=>Kb ws (vG ws r) l q p h
variable{ws:Q4}{q:Db}{p:AT}{h:CU}{w:Int}{r:EU}
def K9:vG ws [] q p h=[(q,p)]:=rfl
def E6:vG ws ([]::r) q p h=vG ws r q p h:=rfl
def E7(a:QhX):vG ws Qfu q p h=vG ws r q Qd3 h:=ec a
def E8(a:¬ QhX)(hf:fP h w=some false):vG ws Qfu q p h=vG ws Qft q p h:=(bS a).trans (ec hf)
def E9(a:¬ tu ws w=[])(hn:fP h w=none):vG ws Qfu q p h=vG ws r QoQ Qd3 QnR++vG ws Qft q p QnB:=by
 exact(bS λz=>z.elim a λz=>by rw[hn]at z;cases z).trans (bS λz=>by rw[hn]at z;cases z)
theorem Cw(h:CU)(w:Int):fP h w=some true\/fP h w=some false\/fP h w=none:=by
 cases fP h w with
 | none=>exact .inr QaI
 | some b=>cases b<;>simp
theorem Wu{P:EU->Db->AT->CU->Prop}
  (h0:∀q p h,P [] q p h) (h1:∀r q p h,P r q p h->P ([]::r) q p h)
  (i:∀w l r q p h,QhX->P r q Qd3 h->P Qfu q p h)
  (g:∀w l r q p h,¬ QhX->fP h w=some false->P Qft q p h->P Qfu q p h)
  (f:∀w l r q p h,¬ tu ws w=[]->fP h w=none->P r QoQ Qd3 QnR->P Qft q p QnB->P Qfu q p h) :
  ∀(n:Nat) (r:EU),zO r<=n->∀q p h,P r q p h:=by
 intro n
 induction n with
 | zero=>
  intro r a q p h;cases r with
  | nil=>exact h0 q p h
  | cons l r=>rw[eo]at a;lia
 | succ n c=>
  intro r a q p h
  match r,a with
  | [],_=>exact h0 q p h
  | []::r,a=>
   rw[eo]at a;exact h1 r q p h (c r We q p h)
  | (w::l)::r,a=>
   rw[eo,kq]at a;have i1:=c r We;have d:=c Qft (by rw[eo];lia);by_cases b:tu ws w=[]\/fP h w=some true
   .exact i w l r q p h b (i1 _ _ _)
   .obtain z|z|z:=Cw h w
    .exact absurd Qg3 b
    .exact g w l r q p h b z (d _ _ _)
    .exact f w l r q p h (λe=>b Qfk) z (i1 _ _ _) (d _ _ _)
structure Hl where
 i:Nat
 j:Nat
 qs:Db
 pk:AT
 hl:CU
def La(s:Hl):D:=.tup [.int s.i,.int s.j,.tup (s.qs.map zM),.tup (s.pk.map .int),.iC (YQ s.hl)]
def vW(x:Qdw):D:=.tup [.tup (x.1.map zM),.tup (x.2.map .int)]
noncomputable def Wv(s:Hl):Hl:=⟨s.i+1,0,s.qs,s.pk,s.hl⟩
def ml(s:Hl):Hl:=⟨s.i,s.j+1,s.qs,s.pk,s.hl⟩
def mT(s:Hl)(w:Int):Hl:=⟨s.i,s.j,s.qs,jM s.pk w,s.hl⟩
def yP(R:EU)(s:Hl):EU:=if s.i<R.length then(R.getD s.i []).drop s.j::R.drop (s.i+1) else []
def o7(ws:Q4)(R:EU)(s:Hl):DA:=vG ws Qhd s.qs s.pk s.hl
def nf(ws:Q4)(R:EU)(s:Hl):List Hl:=
 if s.j=(R.getD s.i []).length then [Wv s]
 else if tu ws ((R.getD s.i []).getD s.j 0)=[]\/fP s.hl ((R.getD s.i []).getD s.j 0)=some true then [Wv (mT s ((R.getD s.i []).getD s.j 0))]
 else if fP s.hl ((R.getD s.i []).getD s.j 0)=some false then [ml s]
 else [ml ⟨s.i,s.j,s.qs,s.pk,s.hl++[((R.getD s.i []).getD s.j 0,false)]⟩,Wv (mT ⟨s.i,s.j,s.qs++tu ws ((R.getD s.i []).getD s.j 0),s.pk,s.hl++[((R.getD s.i []).getD s.j 0,true)]⟩ ((R.getD s.i []).getD s.j 0))]
variable{R:EU}
theorem n6(i j:Nat)(q:Db)(p:AT)(h:CU):yP R (Wv ⟨i,j,q,p,h⟩)=R.drop Qa5:=by
 unfold yP Wv;simp_all
def ahg(l:AT)(s:Int):(jM l s).length<=l.length+1:=by
 unfold jM;split<;>simp
structure xI(M N:Nat)(ws:Q4)(R:EU)(s:Hl):Prop where
 i1:s.i<=R.length
 j1:s.j<=(R.getD s.i []).length
 q1:s.qs.length+100*zO Qhd<=100*M
 p1:s.pk.length+zO Qhd<=M
 h1:s.hl.length+zO Qhd<=M
def mN(R:EU)(s:Hl):Nat:=3 ^ zO Qhd
theorem aml{M N:Nat}{s:Hl}(h:xI M N ws R s)(hi:s.i<R.length)(C:∀w,(tu ws w).length<=100) :
  (∀t∈nf ws R s,xI M N ws R t)/\o7 ws R s=((nf ws R s).reverse.map Qkp).flatten/\((nf ws R s).map (mN R)).sum<mN R s/\(nf ws R s).length<=2:=by
 obtain⟨i,j,q,p,hl⟩:=s;obtain⟨k,u,x,v,d⟩:=h;dsimp only at k u x v d hi;have A:yP R ⟨i,j,q,p,hl⟩=(R.getD i []).drop j::R.drop Qa5:=by unfold yP;rw[ec hi]
 have f:∀(a:Db) (b:AT) (h':CU) (o:Nat),o=zO QeU->a.length+100*o<=100*M->b.length+o<=M->h'.length+o<=M->xI M N ws R (Wv ⟨i,j,a,b,h'⟩):=λa b h' o e a1 a2 a3=>by
  have e2:=n6 (R:=R) i j a b h';exact⟨by show i+1<=R.length;lia,hY _,by rw[e2,<- e];exact a1,by rw[e2,<- e];exact a2,by rw[e2,<- e];exact a3⟩
 unfold nf;dsimp only;rw[A]at x v d;rw[eo,w8]at x v d;unfold o7 mN;rw[A];by_cases y:j=(R.getD i []).length
 .rw[ec y];refine⟨λt c=>?_,?_,?_,hT rfl⟩
  .rw[hU.1 c];exact f _ _ _ _ rfl We We We
  .show vG ws _ _ _ _=vG ws Qjr _ _ _++[];rw[hX,n6,List.drop_eq_nil_of_le We,E6];rfl
  .show 3 ^ zO Qjr+0<_;rw[n6,eo];exact Nat.pow_lt_pow_right Wk We
 .rw[bS y];have B:j<(R.getD i []).length:=by lia
  have D:(R.getD i []).drop j=(R.getD i []).getD j 0::(R.getD i []).drop QR:=by
   rw[wt B,i4 (l:=R.getD i []),iB B];rfl
  have hw:=C ((R.getD i []).getD j 0);rw[D];generalize (R.getD i []).getD j 0=w at hw ⊢;have F:=ahg p w;have n:∀(a:Db) (b:AT) (h':CU),yP R Qsk=(R.getD i []).drop QR::R.drop Qa5:=λa b h'=>by unfold yP ml;dsimp only;rw[if_pos hi]
  have m:∀(a:Db) (b:AT) (h':CU),a.length<=q.length->b.length<=p.length->h'.length<=hl.length+1->xI M N ws R Qsk:=λa b h' a1 a2 a3=>by
   have e2:=n a b h';refine⟨k,by show j+1<=(R.getD i []).length;lia,?_,?_,?_⟩
   .rw[e2,eo,w8];show a.length+_<=_;lia
   .rw[e2,eo,w8];show b.length+_<=_;lia
   .rw[e2,eo,w8];show h'.length+_<=_;lia
  by_cases g:tu ws w=[]\/fP hl w=some true
  .rw[ec g];refine⟨λt c=>?_,?_,?_,hT rfl⟩
   .rw[hU.1 c];exact f q Qd3 hl _ rfl We We We
   .show vG ws _ _ _ _=vG ws Quc _ _ _++[];rw[hX,show mT ⟨i,j,q,p,hl⟩ w=⟨i,j,q,jM p w,hl⟩ from rfl,n6,E7 g];rfl
   .show 3 ^ zO Quc+0<_;rw[show mT ⟨i,j,q,p,hl⟩ w=⟨i,j,q,jM p w,hl⟩ from rfl,n6,eo];exact Nat.pow_lt_pow_right Wk We
  .rw[bS g];by_cases hf:fP hl w=some false
   .rw[ec hf];refine⟨λt c=>?_,?_,?_,hT rfl⟩
    .rw[hU.1 c];exact m _ _ _ (hI _) (hI _) We
    .show vG ws _ _ _ _=vG ws Qjs _ _ _++[];rw[hX,n,E8 g hf];rfl
    .show 3 ^ zO Qjs+0<_;rw[n,eo,eo,kq];exact Nat.pow_lt_pow_right Wk We
   .rw[bS hf];have hn:fP hl w=none:=by
     obtain z|z|z:=Cw hl w
     .exact absurd Qg3 g
     .exact absurd z hf
     .exact z
    have r:¬ tu ws w=[]:=λz=>g Qck;have E:mT ⟨i,j,q++tu ws w,p,hl++[(w,true)]⟩ w=⟨i,j,q++tu ws w,jM p w,hl++[(w,true)]⟩:=rfl;rw[E];refine⟨λt c=>?_,?_,?_,hT rfl⟩
    .simp only[fF,iu,or_false]at c;obtain rfl|rfl:=c
     .exact m _ _ _ (hI _) (hI _) (by rw[iq];simp)
     .refine f _ _ _ _ rfl ?_ We (by rw[iq,kv];lia);rw[iq];lia
    .show vG ws _ _ _ _=vG ws Qjr _ _ _++(vG ws Qjs _ _ _++[]);rw[hX,n6,n,E9 r hn];rfl
    .show 3 ^ zO Qjs+(3 ^ zO Qjr+0)<_;rw[n6,n,eo,eo,kq,w8];have a1:3 ^ zO QeU<=3 ^ ((R.getD i []).length-QR+1+zO QeU):=Nat.pow_le_pow_right Wk We;have a2:3 ^ ((R.getD i []).length-QR+1+1+zO QeU)=3 ^ ((R.getD i []).length-QR+1+zO QeU)*3:=by rw[<- Nat.pow_succ];congr 1;lia
     have a3:0<3 ^ ((R.getD i []).length-QR+1+zO QeU):=Nat.pow_pos Wk;lia
def Sx(ws:Q4):Prop:=∀w∈ws,w.asks.length<=100/\D.aY w.asks=true/\(∀d∈w.asks,∃x r,d=.tup (.str x::r))/\OQ w.asks=(vw w).map zM
theorem Sx.len(h:Sx ws)(k:Int):(tu ws k).length<=100:=by
 unfold tu;by_cases a:k.toNat<ws.length
 .rw[i4,iB a];have g:=h ws[k.toNat] Wl;have e:=congrArg List.length g.2.2.2;simp at e;have:=nr (λd=>!decide Qqr) ws[k.toNat].asks;unfold OQ at e;show(vw ws[k.toNat]).length<=100;lia
 .rw[i4,Hc We];exact hY _
noncomputable def L1(R:EU):D:=.lst Qrm
def Bb(ws:Q4)(ops:AT)(sg:Str)(es l:AT):EU:=l.map λm=>tc ws ops sg (m::bM es m)
noncomputable def RU(R:EU):T:=.lst QpT
theorem Fb:∀R:EU,T.dz QpT=R.map λl=>D.lst Qcx
 | []=>rfl
 | l::R=>by
  show T.dz (T.lst _::R.map _)=_;rw[T.dz,bV,Fb R];rfl
def YR(R:EU):(RU R).bU=L1 R:=by unfold RU L1;rw[T.bU,Fb]
theorem RS(R:EU):yP R ⟨0,0,[],[],[]⟩=R:=by
 unfold yP;cases R with
 | nil=>rfl
 | cons l R=>rfl
def ac6:∀r∈Bb ws ops sg es l,(∀w∈r,0<=w/\w<(ws.length:Int))/\r.length<=ws.length:=λr a=>by
 obtain⟨m,_,rfl⟩:=hP.1 a;exact⟨λw hw=>Wo hw,ag5 _ _ _ _⟩
theorem amm(h:∀r∈R,r.length<=k):zO R<=R.length*Qao:=by
 induction R with
 | nil=>exact hY _
 | cons l R a=>
  have:=a λr b=>h r QkD;have:=h l gF;rw[eo,kq];lia
noncomputable def oe(p:Qg2):D:=.tup [.int p.1,.int p.2]
variable{j:Nat}
abbrev _root_.Cn:=List (Int×Int)
theorem Ww{l:Cn}{d:D}(h:(l.map oe)[j]? = some d):∃p,l[j]? = some p/\d=oe p:=by
 rw[ib]at h;cases e:l[j]? with
 | none=>rw[e]at h;cases h
 | some p=>rw[e]at h;exact⟨p,rfl,(j2 h).symm⟩
def gw{l:Q8}{p:α}(h:l[j]? = some p):l.take QR=l.take j++[p]:=by
 rw[rk,h];rfl
def n4:Nat->Int->Str->Str
 | 0,_,x=>x
 | n+1,r,x=>if 0<r then n4 n (r / 36) (x++K6 Qkt) else x
theorem Wx:∀(n:Nat) (r:Int) (x:Str),(n4 n r x).length<=x.length+n
 | 0,r,x=>hI _
 | n+1,r,x=>by
  rw[n4];split
  .have:=Wx n (r / 36) (x++K6 Qkt);rw[str_len]at this;have e:(K6 Qkt).length=1:=rfl;lia
  .lia
theorem Ya:∀(n:Nat) (r:Int) (x:Str),PyData.strOk x=true->PyData.strOk (n4 n r x)=true
 | 0,r,x,h=>h
 | n+1,r,x,h=>by
  rw[n4];split
  .exact Ya n _ _ (alb _ _ h (Xy _))
  .exact h
theorem ahh(n:Nat){r:Int}(x:Str)(h:¬ 0<r):n4 n r x=x:=by
 cases n with
 | zero=>rfl
 | succ n=>rw[n4,bS h]
def Sy(m:Int):Str:=n4 20 (m / 26) (K6 (m % 26))
theorem ac8(m:Int):(Sy m).length<=21:=by
 have:=Wx 20 (m / 26) (K6 (m % 26));have e:(K6 (m % 26)).length=1:=rfl;unfold Sy;lia
noncomputable def ND:At:=["all","and","box","call","do","far","if","in","leaf","near","on","one","open","out","put","say","shut","then","to"]
def sv(m:Int)(us:At)(j:Nat):Bool:=!decide (Sy (m+j)∈us) && !decide (Sy (m+j)∈ND)
def tV(m:Int)(us:At):Str:=match (List.range QnS).find? (sv m us) with
 | some j=>Sy (m+j)
 | none=>""
def YS(m:Int)(us:At):(tV m us).length<=21:=by
 unfold tV;split
 .exact ac8 _
 .exact hY _
def ac9(m:Int)(us:At):PyData.strOk (tV m us)=true:=by
 unfold tV;split
 .exact Ya _ _ _ (Xy _)
 .decide +kernel
def ada{m:Int}{us:At}(a:j<us.length+20)(b:∀i,i<j->sv m us i=false)(h:sv m us j=true):tV m us=Sy (m+j):=by
 have e:(List.range QnS).find? (sv m us)=some j:=by
  rw[List.find?_range_eq_some];exact⟨h,lx.2 a,λi hi=>by rw[b i hi];rfl⟩
 unfold tV;rw[e]
def adb{m:Int}{us:At}(a:∀i,i<us.length+20->sv m us i=false):tV m us="":=by
 have e:(List.range QnS).find? (sv m us)=none:=by
  rw[t4];intro i hi;exact a i (lx.1 hi)▸km
 unfold tV;rw[e]
def De(c st:Int):Nat->At
 | 0=>[]
 | n+1=>De c st n++[tV (c+n*st) (De c st n)]
theorem Fd(c st:Int):∀n,(De c st n).length=n
 | 0=>rfl
 | n+1=>by rw[De,iq,Fd c st n];rfl
theorem Wy(c st:Int):∀n,∀x∈De c st n,x.length<=21/\PyData.strOk x=true
 | 0,x,h=>by cases h
 | n+1,x,h=>by
  obtain h|h:=hG.1 h
  .exact Wy c st n x h
  .cases hU.1 h;exact⟨YS _ _,ac9 _ _⟩
def Jq(s:AT):Int:=([1,26,936,33696,1213056]:AT).getD (jC s 1 % 5).toNat 0
def Kk(s:AT)(n:Nat):At:=De (jC s 0 % (26*36 ^ (10:Int).toNat)) (Jq s) n
theorem ade(s:AT):0<=Jq s/\Jq s<=1213056:=by
 unfold Jq;have:(jC s 1 % 5).toNat=0\/(jC s 1 % 5).toNat=1\/(jC s 1 % 5).toNat=2\/(jC s 1 % 5).toNat=3\/(jC s 1 % 5).toNat=4:=by lia
 obtain e|e|e|e|e:=this<;>rw[e]<;>decide
def c9(es:AT)(k:Nat):AT:=if (12:Int)<(([(k:Int)]++bM es k).length:Nat) then cutD ([(k:Int)]++bM es k) (some 1) none else [(k:Int)]++bM es k
theorem tW(h:dI es)(d:k+1=es.length):0<(c9 es k).length/\(c9 es k).length<=es.length+2/\∀x∈c9 es k,0<=x/\x<es.length:=by
 have hm:∀x∈[(k:Int)]++bM es k,0<=x/\x<es.length:=λx a=>by
  obtain h1|h1:=hG.1 a
  .have:x=k:=hU.1 h1;lia
  .have c:=h.at (k:=k) We We;have:=KW h _ c.1 We h1;lia
 have hl:([(k:Int)]++bM es k).length<=es.length+2:=by
  have:=vA QdU es (es.getD (k:Int).toNat 0);rw[iq];unfold bM;rw[kv];lia
 unfold c9;split
 .have e:cutD ([(k:Int)]++bM es k) (some 1) none=bM es k:=by simp[cutD,iq,kv,HT.jR]
  rw[e];have b:=iq (as:=[(k:Int)]) (bs:=bM es k);rw[kv]at b;exact⟨We,We,λx a=>hm x (hV _ a)⟩
 simp_all
theorem getD_mem(h:n<l.length):l.getD n 0∈l:=by simp_all
def xN(es:AT)(p:Qg2):AT:=if p.1 % 8<3 then es++[(c9 es Qbd).getD (p.1 / 8 % ((c9 es Qbd).length:Nat)).toNat 0] else es
def D4(l:Cn):AT:=l.foldl xN [-1]
theorem Wz(p:Qg2)(h:dI es)(h0:0<es.length):dI (xN es p)/\(xN es p).length=es.length+Qqy:=by
 unfold xN;split
 .obtain⟨e,d,a⟩:=tW (k:=es.length-1) h We;have b2:=lL Qg7 (b:=((c9 es Qbd).length)) We;have c:=a _ (getD_mem (n:=(p.1 / 8 % ((c9 es Qbd).length)).toNat) We);refine⟨h.snoc We c.2,?_⟩;simp
 simp_all
noncomputable def nu:Cn->Nat
 | []=>0
 | p::r=>(if p.1 % 8<3 then 1 else 0)+nu r
theorem Lb:∀(l:Cn) (es:AT),dI es->0<es.length->dI (l.foldl xN es)/\(l.foldl xN es).length=es.length+nu l
 | [],es,h,h0=>⟨h,rfl⟩
 | p::r,es,h,h0=>by
  obtain⟨a,c⟩:=Wz p h h0;obtain⟨a2,b⟩:=Lb r _ a We;refine⟨a2,?_⟩;rw[pj,b,c,nu];lia
theorem Fe:dI [-1]:=λk a=>by
 have:k=0:=by
  rw[kv]at a;lia
 subst this;exact⟨Int.le_refl _,show(-1:Int)<((0:Nat):Int) by decide⟩
theorem qy:∀l:Cn,nu l<=l.length
 | []=>hI _
 | p::r=>by
  have:=qy r;rw[nu,kq];split<;>lia
def WB(l:Cn):dI (D4 l)/\(D4 l).length=1+nu l:=Lb l [-1] Fe (u5 0)
noncomputable def Ff(l:Cn):AT:=(l.filter λp=>decide (p.1 % 8<3)).map (·.2)
theorem xO:∀l:Cn,(Ff l).length=nu l
 | []=>rfl
 | p::r=>by
  have:=xO r;unfold Ff at this ⊢;rw[nu,List.filter_cons];split
  .rename_i h;rw[ec (iw h),ik,kq,this];lia
  simp_all
def kindB(es cs:AT)(k:Nat):Str:=if jL es k=[] then "leaf" else if cs.getD k 0 % 2=1 then "all" else "one"
def tX(es cs:AT)(k:Nat):Int:=if jL es k=[] then -1 else if cs.getD k 0 % 2=1 then -1 else(jL es k).getD (cs.getD k 0 / 2 % ((jL es k).length:Nat)).toNat 0
def jf(es cs:AT)(n:Nat):At:=(List.range n).map (kindB es cs)
def iF(es cs:AT)(n:Nat):AT:=(List.range n).map (tX es cs)
def Fg(es cs:AT)(n:Nat):(jf es cs n).length=n:=by rw[jf,cq,kr]
def Fi(es cs:AT)(n:Nat):(iF es cs n).length=n:=by rw[iF,cq,kr]
def tY(es cs:AT)(n:Nat){x:Str}(h:x=kindB es cs n):((jf es cs n).map D.str).map T.sh++[T.sh Qa4]=((jf es cs Qaa).map D.str).map T.sh:=by
 subst h;rw[jf,jf,xf,h7,h7,h7];rfl
def OU(es cs:AT)(n:Nat)(h:x=tX es cs n):((iF es cs n).map D.int).map T.sh++[T.sh Qd1]=((iF es cs Qaa).map D.int).map T.sh:=by
 subst h;rw[iF,iF,xf,h7,h7,h7];rfl
def Sm:Nat->D->Prop
 | _,.int _=>True
 | _,.str _=>True
 | n+1,.lst ds=>ds.length<=1000/\∀d∈ds,Sm n d
 | n+1,.tup ds=>ds.length<=1000/\∀d∈ds,Sm n d
 | _,_=>False
noncomputable def Tu(bs:BB)(ns ks:At)(es ss:AT)(is os ws:BB):D:=.lst [.lst bs,.lst QeV,.lst Qc4,.lst Qb0,.lst Qc5,.lst is,.lst os,.lst ws]
structure wG(P:Qkx)(d:D):Prop where
 im:d.jS=true
 sm:∀n,Sm (n+2) d
 dp:∀n,lU (n+2) d
 pr:P d
def Fj(nb:Nat)(d:D):Prop:=∃a c:Int,d=.tup [.int a,.int c]/\(a=-1\/(0<=a/\a<nb))/\c.natAbs<10 ^ 30
def xP(nb:Nat)(d:D):Prop:=(∃n:Str,d=.tup [.str "call",.str n]/\n.length<=21)\/(∃(k:Int) (t:D),d=.tup [.str "put",.int k,t]/\(0<=k/\k<nb)/\Fj nb t)\/(∃(n:Str) (t:D),d=.tup [.str "say",.str n,t]/\n.length<=21/\Fj nb t)
def LI(nb nm:Nat)(d:D):Prop:=(∃(w:Str) (k:Int),d=.tup [.str w,.int k]/\(w="open" \/ w="shut")/\0<=k/\k<nm)\/(∃(w:Str) (s t:D),d=.tup [.str w,s,t]/\w∈(["<","<=","=","!="]:At)/\Fj nb s/\Fj nb t)
noncomputable def Lc(c:Int):Int:=if c % 2=1 then 0-c / 2 % 10 ^ (30:Int).toNat else c / 2 % 10 ^ (30:Int).toNat
def si(p c:Int)(n:Nat):D:=.tup [.int (p % ((n:Int)+1)-1),.int (Lc c)]
noncomputable def o2(c:Int)(n:Nat):Int:=c % ((n:Int)+1)-1
def m4(a c:Int)(n:Nat):Str:=if o2 c n=-1 then "new" else(["new","near","far"]:At).getD (a / 8 % 3).toNat Str.empty
def Kj(a c src:Int)(n:Nat)(ns:At):D:=.tup [.int src,.str (ns.getD (a / 24 % 3).toNat Str.empty),.tup [],.tup [],.int (o2 c n),.str (m4 a c n)]
def YT(a c:Int)(n m:Nat):D:=if a / 8 % 6 > 3 then .tup [.str ((["open","shut"]:At).getD (a / 8 % 6-4).toNat Str.empty),.int (c % (m:Int))]
 else .tup [.str ((["<","<=","=","!="]:At).getD (a / 8 % 6).toNat Str.empty),si (a / 8 / 6) c n,si (a / 8 / 24) Qsl n]
def wH(a c:Int)(n:Nat)(ns:At):D:=if a / 8 % 3=0 then .tup [.str "call",.str QpU]
 else if a / 8 % 3=1/\0<n then .tup [.str "put",.int (a / 24 / 4 % (n:Int)),si (a / 24) (c / 3) n] else .tup [.str "say",.str QpU,si (a / 24) (c / 3) n]
structure WY where
 src:Int
 sg:Str
 qs:BB
 ds:BB
 tg:Int
 md:Str
def WY.d(w:WY):D:=.tup [.int w.src,.str w.sg,.tup w.qs,.tup w.ds,.int w.tg,.str w.md]
structure OW where
 is:Dx
 os:Dx
 ws:List WY
noncomputable def vh:WY:=⟨0,Str.empty,[],[],0,Str.empty⟩
def NA(a c src:Int)(n:Nat)(ns:At):WY:=⟨src,ns.getD (a / 24 % 3).toNat Str.empty,[],[],o2 c n,m4 a c n⟩
def sO(l:Qef):WY:=l.getD QeE vh
def ny(l:Dx)(d:D):Dx:=l.set QeE Qud
def qz(nb nm:Nat)(ns:At)(o:OW)(p:Qg2):OW:=
 if p.1 % 8<3 then⟨o.is++[[]],o.os++[[]],o.ws⟩
 else if p.1 % 8=3 then⟨ny o.is Qna,o.os,o.ws⟩
 else if p.1 % 8=4 then⟨o.is,ny o.os Qna,o.ws⟩
 else if p.1 % 8=5\/o.ws=[]\/(sO o.ws).src≠(o.is.length:Int)-1 then⟨o.is,o.os,o.ws++[NA p.1 p.2 ((o.is.length:Int)-1) nm ns]⟩
 else if p.1 % 8=6 then⟨o.is,o.os,o.ws.set QmZ {sO o.ws with qs:=(sO o.ws).qs++[YT p.1 p.2 nb nm]}⟩
 else⟨o.is,o.os,o.ws.set QmZ {sO o.ws with ds:=(sO o.ws).ds++[wH p.1 p.2 nb ns]}⟩
noncomputable def oa:OW:=⟨[[]],[[]],[]⟩
structure RO(nm:Nat)(w:WY):Prop where
 s1:PyData.strOk w.sg=true
 s2:PyData.strOk w.md=true
 s3:w.sg.length<=21
 tg:w.tg=-1/\w.md="new" \/ (0<=w.tg/\w.tg<nm)/\w.md∈(["new","near","far"]:At)
structure vZ(nb nm m k:Nat)(w:WY):Prop where
 l3:w.qs.length+w.ds.length<=k
 g1:∀d∈w.qs,wG (LI nb nm) d
 g2:∀d∈w.ds,wG Qd7 d
 fin:RO nm w
 sr:0<=w.src/\w.src<m
structure nQ(P:Qkx)(k:Nat)(l:BB):Prop where
 l1:l.length<=k
 g1:∀d∈l,wG P d
structure Ld(nb nm k:Nat)(o:OW):Prop where
 n0:0<o.is.length
 n1:o.is.length<=k+1
 n2:o.os.length=o.is.length
 ii:∀l∈o.is,nQ Qd7 k l
 oo:∀l∈o.os,nQ Qd7 k l
 wl:o.ws.length<=k
 ww:∀w∈o.ws,vZ nb nm o.is.length k w
variable{nb:Nat}
theorem vZ.up{nm m2:Nat}{w:WY}(h:Qjm)(hm:m<=m2):vZ nb nm m2 Qao w:=⟨nz h.l3,h.g1,h.g2,h.fin,h.sr.1,by have:=h.sr.2;lia⟩
theorem vZ.l1{nm:Nat}{w:WY}(h:Qjm):w.qs.length<=k:=by have:=h.l3;lia
theorem vZ.l2{nm:Nat}{w:WY}(h:Qjm):w.ds.length<=k:=by have:=h.l3;lia
theorem nQ.up{l:BB}(h:nQ P k l):nQ P Qao l:=⟨nz h.l1,h.g1⟩
variable{d:D}
theorem nQ.add{l:BB}(h:nQ P k l)(g:wG P d):nQ P Qao (l++[d]):=by
 refine⟨?_,λx a=>?_⟩
 .have:=h.l1;simp;lia
 .obtain a|a:=hG.1 a
  .exact h.g1 x a
  simp_all
theorem nQ.nil(P:Qkx)(k:Nat):nQ P k []:=⟨hY _,λx a=>by cases a⟩
theorem zP{l:Q8}(z:α)(h:Qki):l.getD QeE z∈l:=by
 rw[i4,iB We];exact pv _
def OV{l:Dx}(h0:Qki)(h:∀x∈l,nQ P k x)(g:wG P d):∀x∈ny l d,nQ P Qao x:=λx a=>by
 obtain a|rfl:=List.mem_or_eq_of_mem_set a
 .exact(h x a).up
 .exact(h _ (zP [] h0)).add g
def DC(n:Nat)(p c:Int)(nb:Nat):Sm Qaa QoJ:=by
 refine⟨by show 2<=1000;decide,λd hd=>?_⟩;obtain rfl|hd:=fF.1 hd
 .cases n<;>trivial
 .cases hU.1 hd;cases n<;>trivial
def DE(n:Nat)(p c:Int)(nb:Nat):lU Qaa QoJ:=by
 refine .tup λd hd=>?_;obtain rfl|hd:=fF.1 hd
 .exact .int _ _
 .cases hU.1 hd;exact .int _ _
def good2{x y:D}(b:P (.tup [x,y]))(a:x.jS=true)(a2:y.jS=true)(c:∀n,Sm Qaa x)(f:∀n,Sm Qaa y)(e:∀n,lU Qaa x)(e2:∀n,lU Qaa y):wG P (.tup [x,y]):=by
 refine⟨?_,λn=>⟨by show(2:Nat)<=1000;decide,λd hd=>?_⟩,λn=>.tup λd hd=>?_,b⟩
 .rw[D.jS,D.aY,D.aY,D.aY,a,a2];rfl
 .obtain rfl|hd:=fF.1 hd
  .exact c n
  .cases hU.1 hd;exact f n
 .obtain rfl|hd:=fF.1 hd
  .exact e n
  .cases hU.1 hd;exact e2 n
def good3{x y z:D}(b:P (.tup [x,y,z]))(a:x.jS=true)(a2:y.jS=true)(a3:z.jS=true)(c:∀n,Sm Qaa x)(g:∀n,Sm Qaa y)(f:∀n,Sm Qaa z)(e:∀n,lU Qaa x)(e2:∀n,lU Qaa y)(e3:∀n,lU Qaa z):wG P (.tup [x,y,z]):=by
 refine⟨?_,λn=>⟨by show 3<=1000;decide,λd hd=>?_⟩,λn=>.tup λd hd=>?_,b⟩
 .rw[D.jS,D.aY,D.aY,D.aY,a,a2,a3];rfl
 .obtain rfl|hd:=fF.1 hd
  .exact c n
  obtain rfl|hd:=fF.1 hd
  .exact g n
  .cases hU.1 hd;exact f n
 .obtain rfl|hd:=fF.1 hd
  .exact e n
  obtain rfl|hd:=fF.1 hd
  .exact e2 n
  .cases hU.1 hd;exact e3 n
noncomputable def xQ(n:Nat)(x:Str):Sm Qaa Qa4:=trivial
noncomputable def Ts(n:Nat)(x:Int):Sm Qaa Qd1:=trivial
theorem vH{l:At}(h:∀x∈l,PyData.strOk x=true)(k:Nat):PyData.strOk (l.getD k Str.empty)=true:=by
 simp;cases e:l[k]? with
 | none=>decide +kernel
 | some x=>exact h x (i0 e)
theorem Fl{l:At}(h:∀x∈l,x.length<=21)(k:Nat):(l.getD k Str.empty).length<=21:=by
 rw[i4];cases e:l[k]? with
 | none=>exact hY _
 | some x=>exact h x (i0 e)
theorem ams(c:Int):(Lc c).natAbs<10 ^ 30:=by
 have d:=lL (c / 2) (show 0<10 ^ (30:Int).toNat by decide +kernel);unfold Lc;split<;>lia
theorem DF(p c:Int)(nb:Nat):Fj nb QoJ:=by
 have a:=lj p (show((nb:Int)+1)≠0 by lia);have d:=lL p (show(0:Int)<(nb:Int)+1 by lia);exact⟨_,_,rfl,We,ams c⟩
structure YV(ns:At):Prop where
 ln:∀x∈ns,x.length<=21
 ok:∀x∈ns,PyData.strOk x=true
variable{ns:At}
theorem mU(a c:Int)(nb:Nat)(h:YV ns):wG Qd7 (wH a c nb ns):=by
 unfold wH;split
 .exact good2 (.inl ⟨_,rfl,Fl h.ln _⟩) rfl rfl QdM QdM Qmx Qq1
 split
 .exact good3 (.inr (.inl ⟨_,_,rfl,⟨lj _ We,lL _ We⟩,DF _ _ _⟩)) rfl rfl rfl QdM Que Qip Qmx Qtq Qiq
 .exact good3 (.inr (.inr ⟨_,_,rfl,Fl h.ln _,DF _ _ _⟩)) rfl rfl rfl QdM QdM Qip Qmx Qq1 Qiq
def Sz{l:At}(h:k<l.length):l.getD k Str.empty∈l:=by
 rw[i4,iB h];exact pv h
theorem OX(a c:Int)(nb:Nat){nm:Nat}(h:0<nm):wG (LI nb nm) (YT a c nb nm):=by
 unfold YT;split
 .refine good2 (.inl ⟨_,_,rfl,?_,lj _ We,lL _ We⟩) rfl rfl QdM Que QrY Qtq;have:=Sz (l:=["open","shut"]) (k:=(a / 8 % 6-4).toNat) (by show _<2;lia);simp_all
 .exact good3 (.inr ⟨_,_,_,rfl,Sz (by show _<4;lia),DF _ _ _,DF _ _ _⟩) rfl rfl rfl QdM Qip Qip QrY Qiq Qiq
def amt(a c:Int)(n:Nat):PyData.strOk (m4 a c n)=true:=by
 unfold m4;split
 .decide +kernel
 .exact vH Wf _
theorem ahk(a c src:Int){nm:Nat}(h:YV ns):RO nm (NA a c src nm ns):=by
 have m0:=lj c (show((nm:Int)+1)≠0 by lia);have m1:=lL c (show 0<(nm:Int)+1 by lia);refine⟨vH h.ok _,amt _ _ _,Fl h.ln _,?_⟩;show o2 c nm=-1/\m4 a c nm="new" \/ (0<=o2 c nm/\o2 c nm<nm)/\m4 a c nm∈(["new","near","far"]:At);unfold m4;split
 .rename_i e;exact .inl ⟨e,rfl⟩
 .rename_i e;refine .inr ⟨?_,Sz (by show _<3;lia)⟩;unfold o2 at e ⊢;lia
def To{nm:Nat}{l:Qef}{w:WY}(h:∀x∈l,vZ nb nm m k x)(hw:vZ nb nm m Qao w):∀x∈l.set j w,vZ nb nm m Qao x:=λx a=>by
 obtain a|rfl:=List.mem_or_eq_of_mem_set a
 .exact(h x a).up (hI _)
 .exact hw
def Le{P:Qkg}{l:Q8}{y:α}(h:∀x∈l,P x)(b:P y):∀x∈l++[y],P x:=λx a=>by
 obtain a|a:=hG.1 a
 .exact h x a
 .cases hU.1 a;exact b
theorem ahl{nm:Nat}{o:OW}(p:Qg2)(hn:YV ns)(hm:0<nm)(h:Ld nb nm k o):Ld nb nm Qao (qz nb nm ns o p):=by
 obtain⟨n0,n1,n2,ii,oo,wl,ww⟩:=h;have b:∀l∈o.is,nQ Qd7 Qao l:=λl hl=>(ii l hl).up;have a:∀l∈o.os,nQ Qd7 Qao l:=λl hl=>(oo l hl).up;have e:∀w∈o.ws,vZ nb nm o.is.length Qao w:=λw hw=>(ww w hw).up (hI _);unfold qz;split
 .have e1:(o.is++[[]]).length=o.is.length+1:=by rw[iq,kv]
  refine⟨?_,?_,?_,Le b (nQ.nil _ _),Le a (nQ.nil _ _),nz wl,λw hw=>(ww w hw).up ?_⟩
  .show 0<(o.is++[[]]).length;lia
  .show(o.is++[[]]).length<=_;lia
  .show(o.os++[[]]).length=(o.is++[[]]).length;rw[iq,iq,n2]
  .show o.is.length<=(o.is++[[]]).length;lia
 split
 .have e1:(ny o.is Qna).length=o.is.length:=by rw[ny,rh]
  refine⟨?_,?_,?_,OV n0 ii (mU _ _ _ hn),a,nz wl,λw hw=>(ww w hw).up ?_⟩
  .show 0<(ny o.is _).length;lia
  .show(ny o.is _).length<=_;lia
  .show o.os.length=(ny o.is _).length;lia
  .show o.is.length<=(ny o.is _).length;lia
 split
 .refine⟨n0,nz n1,?_,b,OV We oo (mU _ _ _ hn),nz wl,e⟩;show(ny o.os _).length=_;rw[ny,rh,n2]
 split
 .refine⟨n0,nz n1,n2,b,a,?_,Le e ⟨hY _,(λd hd=>by cases hd),(λd hd=>by cases hd),ahk _ _ _ hn,?_⟩⟩
  .show(o.ws++[_]).length<=_;rw[iq,kv];lia
  .show 0<=(o.is.length:Int)-1/\(o.is.length:Int)-1<o.is.length;lia
 rename_i hz;have c:o.ws≠[]:=λz=>hz (.inr Qck);have hl:vZ nb nm o.is.length k (sO o.ws):=ww _ (zP vh (zd.2 c));have hlen:∀w,(o.ws.set QmZ w).length<=k+1:=λw=>by
  rw[rh];lia
 split
 .have:=(nQ.mk hl.l1 hl.g1).add (OX p.1 p.2 nb hm);have f:=hl.l3;exact⟨n0,nz n1,n2,b,a,hlen _,To ww ⟨by show((sO o.ws).qs++[_]).length+(sO o.ws).ds.length<=_;rw[iq,kv];lia,this.g1,hl.g2,⟨hl.fin.1,hl.fin.2,hl.fin.3,hl.fin.4⟩,hl.sr⟩⟩
 .have:=(nQ.mk hl.l2 hl.g2).add (mU p.1 p.2 nb hn);have f:=hl.l3;exact⟨n0,nz n1,n2,b,a,hlen _,To ww ⟨by show(sO o.ws).qs.length+((sO o.ws).ds++[_]).length<=_;rw[iq,kv];lia,hl.g1,this.g1,⟨hl.fin.1,hl.fin.2,hl.fin.3,hl.fin.4⟩,hl.sr⟩⟩
theorem Lf{nb nm:Nat}{ns:At}(hn:YV ns)(hm:0<nm):∀(l:Cn) (k:Nat) (o:OW),Ld nb nm k o->Ld nb nm (k+l.length) (l.foldl QdV o)
 | [],k,o,h=>h
 | p::r,k,o,h=>by
  have:=Lf hn hm r _ _ (ahl p hn hm h);simp
  rwa [show k+(r.length+1)=k+1+r.length by lia]
def SD(nb nm:Nat):Ld nb nm 0 oa:=⟨hI _,hI _,rfl,λl hl=>by cases hU.1 hl;exact nQ.nil _ _,λl hl=>by cases hU.1 hl;exact nQ.nil _ _,hI _,λw hw=>by cases hw⟩
def C3(nb nm:Nat)(ns:At)(l:Cn):OW:=l.foldl QdV oa
def Fo{l:BB}(h:nQ P k l):(D.tup l).jS=true:=by
 rw[D.jS];exact fB λd hd=>(h.g1 d hd).im
variable{nm:Nat}
def SG{w:WY}(h:Qjm):w.d.jS=true:=by
 have a:=Fo ⟨h.l1,h.g1⟩;have c:=Fo ⟨h.l2,h.g2⟩;show(D.tup _).jS=true;rw[D.jS,D.aY,D.aY,D.aY,D.aY,D.aY,D.aY,D.aY,a,c];rfl
def DG{l:Dx}(h:∀x∈l,nQ P k x):D.aY (l.map D.tup)=true:=fB λd hd=>by
 obtain⟨x,a,rfl⟩:=hP.1 hd;exact Fo (h x a)
def WC{l:Qef}(h:∀x∈l,vZ nb nm m k x):D.aY (l.map WY.d)=true:=fB λd hd=>by
 obtain⟨x,a,rfl⟩:=hP.1 hd;exact SG (h x a)
def amv{l:Qef}(h:∀x∈l,vZ nb nm m k x):lU 60 (.lst (l.map WY.d)):=by
 refine .lst λd hd=>?_;obtain⟨x,a,rfl⟩:=hP.1 hd;have a:=h x a;refine .tup λd hd=>?_;obtain rfl|hd:=fF.1 hd
 .exact .int _ _
 obtain rfl|hd:=fF.1 hd
 .exact .str _ _ a.fin.s1
 obtain rfl|hd:=fF.1 hd
 .exact .tup λd hd=>(a.g1 d hd).dp 55
 obtain rfl|hd:=fF.1 hd
 .exact .tup λd hd=>(a.g2 d hd).dp 55
 obtain rfl|hd:=fF.1 hd
 .exact .int _ _
 .cases hU.1 hd;exact .str _ _ a.fin.s2
theorem Lg(ds:BB):tM QbX Qdc=decide (ds=[]):=by
 cases ds with
 | nil=>decide +kernel
 | cons d ds=>
  rfl
theorem Lh(h:0<n):RA n (-1)=some (n-1):=by
 unfold RA;rw[bS Wk,ec We];congr 1;lia
theorem Fp{f:α->D}{l:Q8}(z:α)(h:Qki):yO Qdb (-1)=some Qtr:=by
 unfold yO;rw[cq,Lh h];show(l.map f)[l.length-1]? = _;rw[ib,i4,iB We];rfl
theorem Tn{f:α->D}{l:Q8}(z:α)(h:Qki):yO Qdb ((l.length:Int)-1)=some Qtr:=by
 have:=eS (f:=f) (l:=l) (k:=l.length-1) z We We;simp_all
theorem Th(h:0<n):RA n ((n:Int)-1)=some (n-1):=by
 unfold RA;rw[ec We,ec We];congr 1;lia
noncomputable def Nn(l:Dx):T:=.lst ((l.map D.tup).map T.sh)
def mO(l:Qef):T:=.lst ((l.map WY.d).map T.sh)
def OY(l:Dx):T.lst ((l.map D.tup).map T.sh++[T.sh (.tup [])])=Nn (l++[[]]):=by
 rw[Nn,h7,h7];rfl
def ado(l:Qef)(w:WY):T.lst ((l.map WY.d).map T.sh++[T.sh w.d])=mO (l++[w]):=by
 rw[mO,h7,h7];rfl
def WD(l:Dx)(d:D):T.lst (((l.map D.tup).map T.sh).set QeE (T.sh (.tup Qud)))=Nn (ny l d):=by
 rw[Nn,ny,v3,v3]
def WG(l:Qef)(j:Nat)(w:WY):T.lst (((l.map WY.d).map T.sh).set j (T.sh w.d))=mO (l.set j w):=by
 rw[mO,v3,v3]
def Li{nm ws:BB}{t:T}(h1:D.aY bs=true)(e:D.aY nm=true)(d:t.clean=true)(c:D.aY is=true)(b:D.aY os=true)(a:D.aY ws=true):T.cR Qtp=true:=by
 unfold xG E2 E3;rw[l7,l7,rr,T.cR,T.cR,T.cR,T.cR,T.cR,T.cR,bT h1,bT e,d,bT c,bT b,bT a];rfl
def atE:¬ (HT.jR 6 0 none=0/\HT.jR 6 6 (some 2)=6):=by decide
noncomputable def OC:¬ (HT.jR 6 0 (some 3)=0/\HT.jR 6 6 none=6):=by decide
def atF:¬ (HT.jR 6 0 none=0/\HT.jR 6 6 (some 3)=6):=by decide
def atG:¬ (HT.jR 6 0 (some 4)=0/\HT.jR 6 6 none=6):=by decide
abbrev lE:=CI
variable{hs bg pr:BB}{R:D}{TR:T}
noncomputable def Df(bs hs bg pr:BB)(R:D):List (Str×D):=[("boxes",.lst bs),("signs",.lst hs),("begin",.tup bg),("flats",.lst pr),("rows",R)]
noncomputable def Lj(bs hs bg pr:BB)(t:T):BS:=[("boxes",.lst (bs.map T.sh)),("signs",.lst (hs.map T.sh)),("begin",.sh (.tup bg)),("flats",.lst (pr.map T.sh)),("rows",t)]
def OZ:List.lookup ("signs":Str) Qm0=some (.lst hs):=by
 unfold Df;rw[cC Wf,iP]
def O1:List.lookup ("flats":Str) Qm0=some (.lst pr):=by
 unfold Df;rw[cC Wf,cC Wf,cC Wf,iP]
def j6:List.lookup ("rows":Str) Qm0=some R:=by
 unfold Df;rw[cC Wf,cC Wf,cC Wf,cC Wf,iP]
def YW:List.lookup ("rows":Str) (Lj bs hs bg pr TR)=some TR:=by
 unfold Lj;rw[cC Wf,cC Wf,cC Wf,cC Wf,iP]
def YX{y:Addr}{l:List (lE×T)}{t2:T}:T.lD [.fld "rows"] t2 (.pin y (.ins "Table" (Lj bs hs bg pr (.dct l))))=.pin y (.ins "Table" (Lj bs hs bg pr t2)):=rfl
noncomputable def gK(kvs:QcR):List (lE×T):=kvs.map λq=>(q.1,T.lst Qn2)
noncomputable def fQ(kvs:QcR):List (lE×D):=kvs.map λq=>(q.1,D.lst q.2)
def O2(bs hs bg pr:BB)(kvs:QcR):BS:=Lj bs hs bg pr (.dct (gK kvs))
def SJ(bs hs bg pr:BB)(kvs:QcR):D:=.ins "Table" (Df bs hs bg pr (.dct (fQ kvs)))
theorem Jr(kvs:QcR):T.XJ (gK kvs)=fQ kvs:=by
 induction kvs with
 | nil=>rfl
 | cons q r a=>
  show T.XJ ((q.1,T.lst _)::gK r)=(q.1,D.lst q.2)::fQ r;rw[T.XJ,bV,a]
def adp(bs hs bg pr:BB)(kvs:QcR):T.bU QqL=SJ bs hs bg pr kvs:=by
 unfold O2 Lj SJ Df;rw[T.bU,T.sW,T.sW,T.sW,T.sW,T.sW,T.sW,bV,bV,bV,T.bU,T.bU,Jr]
theorem Lk{l:List (lE×α)}(nd:(l.map (·.1)).Nodup){k:lE}{x:α}(h:l[j]? = some (k,x)):oY l k=some x:=by
 induction l generalizing j with
 | nil=>simp at h
 | cons p l a=>
  rw[ik,kn]at nd;cases j with
  | zero=>
   simp at h;subst h;exact zq rfl
  | succ j=>
   rw[zu λe=>nd.1 (e▸hP.2 ⟨ _,i0 h,rfl⟩)];exact a nd.2 h
def SK(kvs:QcR):(fQ kvs).map (·.1)=kvs.map (·.1):=by
 unfold fQ;rw[hW];rfl
def SM(kvs:QcR):(gK kvs).map (·.1)=kvs.map (·.1):=by
 unfold gK;rw[hW];rfl
abbrev k8:=Db×BB×Nat
def WH(r:k8):D:=.tup [.tup (r.1.map zM),.tup r.2.1,.int (r.2.2:Nat)]
noncomputable def v5(p:Pl):D:=.tup [.tup (p.1.map .int),.tup (p.2.map .int)]
abbrev _root_.Ev:=List Pl
structure GS where
 fl:Ev
 rs:List Qie
 sp:Nat
noncomputable def zQ(n:Nat)(x:Str):lE:=[.inl (n:Int),.inr x]
def fX(l:QoR):List (lE×BB):=l.map λq=>(q.1,q.2.map WH)
noncomputable def Lp(n:Nat):BB:=(List.range n).map λ(i:Nat)=>D.int (i:Int)
variable{cd:D}{mo:Nat}{fl pl rs s:T}
noncomputable def Bc(cd:D)(mo:Nat)(fl pl rs s:T):BS:=[("chart",.sh cd),("most",.sh (.int mo)),("flats",fl),("places",pl),("rows",rs),("spare_rows",s)]
def k9:List.lookup ("chart":Str) Qcu=some (.sh cd):=by unfold Bc;rw[iP]
def WK:List.lookup ("most":Str) Qcu=some (.sh (.int mo)):=by unfold Bc;rw[cC Wf,iP]
def eu:List.lookup ("flats":Str) Qcu=some fl:=by unfold Bc;rw[cC Wf,cC Wf,iP]
def gy:List.lookup ("places":Str) Qcu=some pl:=by unfold Bc;rw[cC Wf,cC Wf,cC Wf,iP]
def DH:List.lookup ("rows":Str) Qcu=some rs:=by unfold Bc;rw[cC Wf,cC Wf,cC Wf,cC Wf,iP]
def tZ:List.lookup ("spare_rows":Str) Qcu=some s:=by unfold Bc;rw[cC Wf,cC Wf,cC Wf,cC Wf,cC Wf,iP]
def ahn(t:T):oW "flats" t Qcu=Bc cd mo t pl rs s:=by unfold Bc;rw[dJ Wf,dJ Wf,IV]
def aho(t:T):oW "places" t Qcu=Bc cd mo fl t rs s:=by unfold Bc;rw[dJ Wf,dJ Wf,dJ Wf,IV]
def ahp(t:T):oW "spare_rows" t Qcu=Bc cd mo fl pl rs t:=rfl
variable{f:Str}{fs:BS}
def gW{y:Addr}{t:T}(h:Qgb)(q:T.k6 [] t=some t:=by rfl):T.k6 [.fld f] Qjb=some t:=by
 show(List.lookup f fs).bind _=_;rw[h];exact q
def Lq{y:Addr}{t:T}(h:Qgb):T.xy [.fld f] Qjb=some t:=by
 show(List.lookup f fs).bind _=_;rw[h];rfl
def adq{y:Addr}{gs:BS}{t u:T}(h:Qgb)(e:oW f u fs=gs):T.Yq [.fld f] u Qjb=.pin y (.ins "Growth" gs):=by
 have a:(T.core Qjb).VP (.fld f)=some t:=h;rw[T.Yq,a,<- e];rfl
def Np(cd:D)(mo:Nat)(w:World)(s:GS):BS:=Bc cd mo (.lst ((s.fl.map v5).map T.sh)) (.jN w QeO (Lp s.fl.length)) (.dct QoB) Qm5
theorem Ft:∀{a c:AT},a.map D.int=c.map D.int->a=c
 | [],[],_=>rfl
 | [],_::_,h=>by cases h
 | _::_,[],h=>by cases h
 | x::a,y::c,h=>by
  injection h with h1 b;injection h1 with h1;rw[h1,Ft b]
def Lr{p q:Pl}(h:v5 p=v5 q):p=q:=by
 injection h with h;injection h with h1 a;injection h1 with h1;injection a with a _;injection a with a;exact Prod.ext (Ft h1) (Ft a)
def DI{l:Ev}{p:Pl}:v5 p∈l.map v5↔p∈l:=by
 constructor
 .intro h;obtain⟨q,a,e⟩:=hP.1 h;rw[<- Lr e];exact a
 .exactλh=>xa h
theorem WL{p:Pl}:∀l:Ev,(l.map v5).idxOf (v5 p)=l.idxOf p
 | []=>rfl
 | q::l=>by
  rw[ik,List.idxOf_cons,List.idxOf_cons,WL l];by_cases e:q=p
  .subst e;simp
  .have e2:=λz=>e (Lr z);rw[beq_false_of_ne e,beq_false_of_ne e2]
def YY{l:Ev}(h:QfM):(l.map v5).Nodup:=by
 rw[List.nodup_iff_pairwise_ne,List.pairwise_map];exact(List.nodup_iff_pairwise_ne.1 h).imp λz e=>z (Lr e)
def Ls(p:Pl):As 8 (v5 p):=.tup λd hd=>by
 obtain rfl|hd:=fF.1 hd
 .exact .tup λx a=>by obtain⟨i,_,rfl⟩:=hP.1 a;exact .int _ _
 .cases hU.1 hd;exact .tup λx a=>by obtain⟨i,_,rfl⟩:=hP.1 a;exact .int _ _
def ahq(p:Pl)(w b:World):(v5 p).xr w=(v5 p).xr b:=by
 refine KQ λd hd=>?_;obtain rfl|hd:=fF.1 hd
 .exact KQ λx a=>by obtain⟨i,_,rfl⟩:=hP.1 a;rfl
 .cases hU.1 hd;exact KQ λx a=>by obtain⟨i,_,rfl⟩:=hP.1 a;rfl
def Lv(l:Ev)(w a:World):∀d∈l.map v5,d.xr w=d.xr a:=λd hd=>by
 obtain⟨p,_,rfl⟩:=hP.1 hd;exact ahq p w a
theorem Tb{l:Ev}(h:QfM)(hl:l.length<=1000):FK (l.map v5):=⟨λd hd=>by obtain⟨p,_,rfl⟩:=hP.1 hd;exact Ls p,YY h,by rw[cq];lia⟩
def ahr{i:Nat}(h:i<n):(Lp n)[i]? = some (.int (i:Int)):=by
 unfold Lp;rw[ib,ue h];rfl
def YZ(n:Nat):Lp n++[.int (n:Int)]=Lp Qaa:=by
 unfold Lp;rw[xf,h7];rfl
noncomputable def Ho(fl:Ev)(p:Pl):Ev:=if p∈fl then fl else fl++[p]
noncomputable def sM(fl:Ev)(p:Pl):Nat:=if p∈fl then fl.idxOf p else fl.length
theorem RI{fl:Ev}(h:fl.Nodup)(p:Pl):(Ho fl p).Nodup/\sM fl p<(Ho fl p).length/\fl.length<=(Ho fl p).length/\(Ho fl p).length<=fl.length+1/\(Ho fl p)[sM fl p]? = some p:=by
 unfold Ho sM;by_cases b:p∈fl
 .rw[ec b,ec b];have:=List.idxOf_lt_length_of_mem b;refine⟨h,this,Wl,Wl,?_⟩;simp_all
 .rw[bS b,bS b];refine⟨?_,Wl,Wl,Wl,?_⟩
  .rw[kc];exact⟨h,Wl,λa f c d e=>by simp_all ⟩
  .rw[MI Wl,Nat.sub_self];rfl
def Lw{t:T}(h:Qgb)(q:T.k6 [] t=some t:=by rfl):T.k6 [.fld f] QhH=some t:=by
 show(List.lookup f fs).bind _=_;rw[h];exact q
def ahs(p:Pl):Ho [] p=[p]:=by unfold Ho;rw[bS iu];rfl
def aht{gs:BS}{t u:T}(h:Qgb)(e:oW f u fs=gs)(q:T.lD [] u t=u:=by rfl):T.lD [.fld f] u QhH=.ins "Growth" gs:=by
 have a:(T.core QhH).VP (.fld f)=some t:=h;rw[T.lD,a,<- e];show T.ins _ _=_;rw[q]
def adt(n:Nat):(List.replicate n [D.int (-1)]).flatten=(List.replicate n (-1:Int)).map D.int:=by simp
theorem vD.g{vs:AT}(h:vD n vs ws):Sx ws:=λw hw=>by
 obtain⟨l,e,hl,b⟩:=h w hw;refine⟨by rw[e,cq];lia,e▸gU (acR) _,λd hd=>?_,?_⟩
 .rw[e]at hd;obtain⟨a,_,rfl⟩:=hP.1 hd;cases a with
  | Dc op m=>exact⟨_,_,rfl⟩
  | num mk b1 m1 b2 m2=>exact⟨_,_,rfl⟩
 .rw[e,ag6 b];unfold vw;rw[e,Wt]
def Y0{G:Int->Prop}(r:EU)(q:Db)(p:AT)(h:CU):p.Nodup->(∀k∈p,G k)->(∀l∈r,∀w∈l,G w)->∀x∈vG ws r q p h,x.2.Nodup/\∀k∈x.2,G k:=by
 have add:∀{p:AT} {w:Int},p.Nodup->(∀k∈p,G k)->G w->(jM p w).Nodup/\∀k∈jM p w,G k:=λ{p w} nd b hw=>by
  unfold jM;split
  .exact⟨nd,b⟩
  .rename_i hn;refine⟨?_,λk o=>?_⟩
   .rw[kc];exact⟨nd,kn.2 ⟨iu,lr⟩,λa s c g e=>by cases hU.1 g;exact hn (e▸s)⟩
   .obtain z|z:=hG.1 o
    .exact b k z
    .cases hU.1 z;exact hw
 refine Wu (ws:=ws) (P:=λr q p h=>p.Nodup->(∀k∈p,G k)->(∀l∈r,∀w∈l,G w)->∀x∈vG ws r q p h,x.2.Nodup/\∀k∈x.2,G k) ?_ ?_ ?_ ?_ ?_ (zO r) r (hI _) q p h
 .intro q p h nd b _ x f;rw[K9]at f;rw[hU.1 f];exact⟨nd,b⟩
 .intro r q p h i nd b d;rw[E6];exact i nd b λl hl=>d l (hJ _ hl)
 .intro w l r q p h g i nd b d;rw[E7 g];obtain⟨a1,a2⟩:=add nd b (d _ gF w gF);exact i a1 a2 λl hl=>d l (hJ _ hl)
 .intro w l r q p h g hf i nd b d;rw[E8 g hf];refine i nd b λm hm=>?_;obtain rfl|hm:=fF.1 hm
  .exactλv hv=>d _ gF v (hJ _ hv)
  .exact d m (hJ _ hm)
 .intro w l r q p h n hn i1 j nd b d x f;rw[E9 n hn]at f;obtain z|z:=hG.1 f
  .obtain⟨a1,a2⟩:=add nd b (d _ gF w gF);exact i1 a1 a2 (λl hl=>d l (hJ _ hl)) x z
  .refine j nd b (λm hm=>?_) x z;obtain rfl|hm:=fF.1 hm
   .exactλv hv=>d _ gF v (hJ _ hv)
   .exact d m (hJ _ hm)
def G0(c:CH)(l:AT):AT:=RY c.ks c.es c.ws l
def ou(c:CH)(p:Pl)(sg:Str):DA:=vG c.ws (Bb c.ws p.1 sg c.es (Wn c.ks p.1)) [] [] []
theorem ap6{p:Pl}(g:Gd c p):p.1.length<=c.es.length:=ic (g.s.imp λh e=>by lia) g.b
def O4{p:Pl}(sg:Str):∀x∈ou c p sg,x.2.Nodup/\∀k∈x.2,0<=k/\k<c.ws.length:=by
 refine Y0 _ _ _ _ Wl Wl λl hl w hw=>?_;obtain⟨m,hm,rfl⟩:=hP.1 hl;exact Wo hw
structure Nf(h:Cf)(tp:Qg4)(tm:Qgt)(P:AT)(s:Qhp):Prop where
 sub:s.1.Sublist P
 Dg:s.2=(s.1.filter h).map tp
 apart:∀a∈s.1,∀b∈s.1,a≠b->h a=true->h b=true->tm (tp a) (tp b)=false
theorem Ta{h:Cf}{tp:Qg4}{tm:Qgt}(k:∀a b,tm a b=tm b a):∀(l P:AT) (s:Qhp),Nf h tp tm P s->Nf h tp tm (P++l) (l.foldl (YL h tp tm) s)
 | [],P,s,I=>by rw[hX];exact I
 | x::l,P,s,I=>by
  rw[show P++x::l=(P++[x])++l by simp,pj];refine Ta k l (P++[x]) _ ?_;have keep:(∀z∈s.1,h x=true->h z=true->tm (tp x) (tp z)=false)->∀t,t=((s.1++[x]).filter h).map tp->Nf h tp tm (P++[x]) (s.1++[x],t):=λhz t m=>by
   refine⟨I.sub.append (mx _),m,λa d b c ne i g=>?_⟩;obtain d|d:=hG.1 d
   .obtain c|c:=hG.1 c
    .exact I.apart a d b c ne i g
    .rw[hU.1 c]at g ⊢;rw[k];exact hz a d g i
   .rw[hU.1 d]at i ne ⊢;obtain c|c:=hG.1 c
    .exact hz b c i g
    .exact absurd (hU.1 c).symm ne
  unfold YL;by_cases f:h x=true
  .rw[ec f];by_cases d:s.2.any (tm (tp x))=true
   .rw[ec d];exact⟨I.sub.trans Qri,I.Dg,I.apart⟩
   .rw[bS d];refine keep (λz hz _ j=>?_) _ ?_
    .cases e:tm (tp x) (tp z) with
     | false=>rfl
     | true=>exact absurd (nv.2 ⟨tp z,by rw[I.Dg];exact hP.2 ⟨z,js.2 ⟨hz,j⟩,rfl⟩,e⟩) d
    .rw[oI,y5 f];simp[I.Dg]
  .rw[bS f];refine keep (λz hz j _=>absurd j f) _ ?_;rw[oI,y6 f];simp[I.Dg]
theorem WM(h:c.Ok)(nd:QfM)(pk:∀k∈l,0<=k/\k<c.ws.length):rB c.ks c.es c.ws (G0 c l):=by
 have b:=Ta (h:=nj c.ws) (tp:=λk=>jP c.ks c.es (f9 c.ws k)) (acV c.es) (iD (YM c.es c.ws) l) [] ([],[]) ⟨.slnil,rfl,λa q=>(by cases q)⟩;rw[rr]at b;have sub:∀k∈G0 c l,k∈l:=λk p=>(qX _).mem_iff.1 (b.sub.subset (g8.1 p));have snd:(G0 c l).Nodup:=(sortI_perm _).nodup_iff.2 (List.Nodup.sublist b.sub ((qX _).nodup_iff.2 nd));refine⟨λi hi=>pk i (sub i hi),?_,?_⟩
 .have:=ic (n:=c.ws.length) snd λx m=>pk x (sub x m);have:=h.k.wl;lia
 .unfold rj;rw[List.pairwise_map];have:(G0 c l).Pairwise λx y=>x≠y:=snd;refine((this.sublist List.filter_sublist).imp_of_mem λ{x y} m o e=>?_);obtain⟨j,g⟩:=js.1 m;obtain⟨f,d⟩:=js.1 o;exact ap5 (b.apart x (g8.1 j) y (g8.1 f) e g d)
def rb(c:CH)(p:Pl)(x:QcS)(a:Qdw):Ev×List k8:=(Ho x.1 (toN c p Qbp),x.2++[(a.1,o3 c p Qbp,sM x.1 (toN c p Qbp))])
def tf(c:CH)(mo:Nat)(p:Pl)(x:QcS)(a:Qdw):Prop:=toN c p Qbp∉x.1/\x.1.length=mo
instance(c:CH)(mo:Nat)(p:Pl)(x:QcS)(a:Qdw):Decidable (tf c mo p x a):=by unfold tf;exact inferInstance
def O5(c:CH)(mo:Nat)(p:Pl):DA->Ev×List k8->Option Qo9
 | [],x=>some x
 | a::l,x=>if tf c mo p x a then none else O5 c mo p l Qos
theorem Lx(c:CH)(mo:Nat)(p:Pl):∀(a l:DA) (x:QcS),O5 c mo p (a++l) x=(O5 c mo p a x).bind (O5 c mo p l)
 | [],l,x=>rfl
 | b::a,l,x=>by
  rw[l7,O5,O5];split
  .rfl
  .exact Lx c mo p a l _
def Rc(c:CH)(mo:Nat)(s:GS)(n:Nat)(sg:Str):Option GS:=
 if s.sp<(ou c Qim sg).length then none
 else(O5 c mo Qim (ou c Qim sg) (s.fl,[])).map λx=>⟨x.1,s.rs++[(zQ n sg,x.2)],s.sp-x.2.length⟩
def Y3(l:BB):AT:=(l.filter λd=>decide (d.N6.toS=("way":Str))).map λd=>d.at2.qI
theorem ahu(h:c.Ok){p:Pl}{b:AT}(hs:rB c.ks c.es c.ws b):∀w∈Y3 (o3 c p b),0<=w/\w<c.ws.length:=λw hw=>by
 obtain⟨d,hd,rfl⟩:=hP.1 hw;obtain⟨hd,he⟩:=js.1 hd;have he:=iw he;have dd:∀{m:Nat} {d:D},vc m d->d.N6.toS=("way")->False:=λ{m d} z e=>by
  obtain⟨q,rfl,_⟩:=z;cases q with
  | put i a c=>exact absurd e (show ¬ ("put":Str)="way" by decide +kernel)
  | call s=>exact absurd e (show ¬ ("call":Str)="way" by decide +kernel)
  | say s a c=>exact absurd e (show ¬ ("say":Str)="way" by decide +kernel)
 obtain z|z:=hG.1 hd
 .obtain z|z:=hG.1 z
  .obtain⟨m,_,z⟩:=i5.1 z;obtain rfl|z:=fF.1 z
   .exact absurd he (show ¬ ("out":Str)="way" by decide +kernel)
   .obtain z|z:=hG.1 z
    .split at z
     .rw[hU.1 z]at he;exact absurd he (show ¬ ("keep":Str)="way" by decide +kernel)
     .cases z
    .exact(dd (zN h.o _ d z) he).elim
  .obtain⟨i,hi,z⟩:=i5.1 z;obtain rfl|z:=fF.1 z
   .exact hs.i i hi
   .exact(dd (h.w _ Qll d z) he).elim
 .obtain⟨m,_,z⟩:=i5.1 z;obtain rfl|z:=fF.1 z
  .exact absurd he (show ¬ ("in":Str)="way" by decide +kernel)
  .exact(dd (zN h.i _ d z) he).elim
structure C2(c:CH)(m:Nat)(r:k8):Prop where
 a:∀q∈r.1,PyData.strOk q.1=true
 i:∀d∈r.2.1,p6 c.bs.length d
 l:r.2.1.length<=600
 n:r.2.2<m
 w:∀x∈Y3 r.2.1,0<=x/\x<c.ws.length
structure B7(c:CH)(mo:Nat)(n:Nat)(x:QcS):Prop where
 nd:x.1.Nodup
 ln:x.1.length<=mo
 gd:∀p∈x.1,Gd c p
 rl:x.2.length=n
 rw:∀r∈x.2,C2 c x.1.length r
theorem WN(h:p6 m d):d.jS=true:=by
 obtain⟨x,rfl,_⟩:=h;cases x with
 | xK q=>cases q<;>rfl
 | _=>rfl
def WO{r:k8}(h:C2 c m r):(WH r).jS=true:=by
 have e1:D.aY (r.1.map zM)=true:=gU QcB _;have e2:=fB λd hd=>WN (h.i d hd);show(D.tup _).jS=true;rw[D.jS,D.aY,D.aY,D.jS,D.jS,e1,e2];rfl
def adv{P:Ask->Prop}(hw:∀w,∀q∈tu ws w,P q)(r:EU)(q:Db)(p:AT)(h:CU):(∀x∈q,P x)->∀x∈vG ws r q p h,∀y∈x.1,P y:=by
 refine Wu (ws:=ws) (P:=λr q p h=>(∀x∈q,P x)->∀x∈vG ws r q p h,∀y∈x.1,P y) ?_ ?_ ?_ ?_ ?_ (zO r) r Wl q p h
 .intro q p h a x b;rw[K9]at b;exact hU.1 b▸a
 .intro r q p h i a;rw[E6];exact i a
 .intro w l r q p h c i a;exact E7 c▸i a
 .intro w l r q p h c hf i a;rw[E8 c hf];exact i a
 .intro w l r q p h hn hl i1 d a x b;rw[E9 hn hl]at b;obtain z|z:=hG.1 b
  .exact i1 (λy e=>(hG.1 e).elim (a y) (hw w y)) x z
  .exact d a x z
theorem amy{bs:AT}(h:vD n bs ws)(w:Int):∀q∈tu ws w,PyData.strOk q.1=true:=λq b=>by
 unfold tu at b;by_cases f:w.toNat<ws.length
 .rw[i4,iB f]at b;obtain⟨l,e,_,g⟩:=h _ (pv f);have b:q∈vw ws[w.toNat]:=b;unfold vw at b;rw[e,Wt]at b;obtain⟨a,d,c⟩:=i5.1 b;cases a with
  | Dc op m=>cases c
  | num mk b1 m1 b2 m2=>
   cases hU.1 c;exact ag2 _ (g _ d).1
 .rw[i4,Hc We]at b;cases b
def ahx(h:c.Ok)(p:Pl)(sg:Str):∀x∈ou c p sg,∀q∈x.1,PyData.strOk q.1=true:=
 adv (P:=λq=>PyData.strOk q.1=true) (amy (h.q (c.bs.map (·.2)) (cq ..))) _ _ _ _ λx a=>by cases a
theorem amA(h:c.Ok){p:Pl}(g:Gd c p){x:QcS}{a:Qdw}(k:B7 c mo n x)(e:a∈ou c p sg)(hw:¬ tf c mo p x a):B7 c mo Qaa Qos/\x.1.length<=(rb c p x a).1.length:=by
 obtain⟨nd,pk⟩:=O4 sg a e;have d:=WM h nd pk;obtain⟨sl,i⟩:=ahc h g d;have f:=Yf h (p:=p) d;obtain⟨b1,b2,b3,u,_⟩:=RI k.nd _;have hl:(rb c p x a).1.length=(Ho x.1 _).length:=rfl;refine⟨⟨b1,?_,λq b=>?_,?_,λr s=>?_⟩,b3⟩
 .rw[hl];by_cases hm:toN c p Qbp∈x.1
  .unfold Ho;exact ec hm▸k.ln
  .have:=k.ln;have:=λz=>hw ⟨hm,z⟩;lia
 .have b:q∈Ho x.1 _:=b;unfold Ho at b;split at b
  .exact k.gd q b
  .obtain z|z:=hG.1 b
   .exact k.gd q z
   simp_all
 .show(x.2++[_]).length=_;rw[iq,kv,k.rl]
 .obtain z|z:=hG.1 (s)
  .obtain⟨o,m,l,t,j⟩:=k.rw r z;exact⟨o,m,l,by rw[hl];lia,j⟩
  .cases hU.1 z;exact⟨ahx h p sg a e,f,sl,b2,ahu h d⟩
theorem Ly{c:CH}(h:c.Ok){p:Pl}(g:Gd c p){mo:Nat}{sg:Str}:∀(l:DA) {n:Nat} {x y:QcS},(∀b∈l,b∈ou c p sg)->B7 c mo n x->O5 c mo p l x=some y->B7 c mo (n+l.length) y/\x.1.length<=y.1.length
 | [],n,x,y,_,k,e=>by
  cases e;simp_all
 | a::l,n,x,y,hl,k,e=>by
  rw[O5]at e;split at e
  .cases e
  rename_i hw;obtain⟨k1,k2⟩:=amA h g k (hl a Wl) hw;obtain⟨k3,d⟩:=Ly h g l (λb f=>hl b (hJ _ f)) k1 e;rw[show n+(a::l).length=n+1+l.length by simp;lia];exact⟨k3,jq k2 d⟩
def Fv(hs:At)(n j:Nat):List lE:=(List.range n).flatMap (λm=>hs.map (zQ m))++(hs.take j).map (zQ n)
def adw(hs:At)(n:Nat){x:Str}(h:hs[j]? = some x):Fv hs n j++[zQ n x]=Fv hs n QR:=by
 unfold Fv;rw[h5,gw h,h7];rfl
def WQ(hs:At)(n:Nat):Fv hs n hs.length=Fv hs Qaa 0:=by
 unfold Fv;rw[ka,xf,ro,pz,List.flatMap_nil,hX,uk,tL,hX]
theorem ahy{hs:At}{x:Str}(h:zQ m x∈Fv hs n j):m<n/\x∈hs\/m=n/\x∈hs.take j:=by
 have inj:∀{a:Nat} {z:Str},zQ a z=zQ m x->a=m/\z=x:=λ{a z} e=>by
  injection e with e1 e2;injection e1 with e1;injection e2 with e2 _;injection e2 with e2;exact⟨We,e2⟩
 obtain z|z:=hG.1 h
 .obtain⟨a,b,z⟩:=i5.1 z;obtain⟨w,hw,e⟩:=hP.1 z;obtain⟨rfl,rfl⟩:=inj e;exact .inl ⟨lx.1 b,hw⟩
 .obtain⟨w,hw,e⟩:=hP.1 z;obtain⟨rfl,rfl⟩:=inj e;exact .inr ⟨rfl,hw⟩
theorem Js{hs:At}(nd:hs.Nodup)(n:Nat){x:Str}(h:hs[j]? = some x):zQ n x∉Fv hs n j:=λhm=>by
 obtain⟨z,_⟩|⟨_,z⟩:=ahy hm
 .lia
 .obtain⟨i,hi,e⟩:=List.getElem_of_mem z;simp at hi;simp at e;have:=(Hk We nd).1 ((iB We).trans ((congrArg _ e).trans h.symm));lia
structure rC(c:CH)(mo:Nat)(hs:At)(n j:Nat)(s:GS):Prop where
 nd:s.fl.Nodup
 ln:s.fl.length<=mo
 p0:0<s.fl.length
 gd:∀p∈s.fl,Gd c p
 ks:s.rs.map (·.1)=Fv hs n j
 kd:(s.rs.map (·.1)).Nodup
 rw:∀q∈s.rs,q.2.length<=8*mo/\∀r∈q.2,C2 c s.fl.length r
 sp:s.sp<=8*mo
theorem S3(h:c.Ok){hs:At}(t:hs.Nodup){s s':GS}(k:rC c mo hs n j s)(v:hs[j]? = some sg)(hn:QjB)(e:Rc c mo s n sg=some s'):rC c mo hs n QR s'/\s.fl.length<=s'.fl.length:=by
 unfold Rc at e;have g:Gd c Qim:=by
  rw[i4,iB hn];exact k.gd _ Wl
 generalize s.fl.getD n _=p at e g;split at e
 .cases e
 obtain⟨y,e1,rfl⟩:=mf.1 e;obtain⟨b,b2⟩:=Ly h g _ (λb A=>A) (n:=0) ⟨k.nd,k.ln,k.gd,rfl,Wl ⟩ e1;have B:(s.rs++[(zQ n sg,y.2)]).map (·.1)=Fv hs n QR:=by simp_all [h7,k.ks,adw]
 have sp:=k.sp;have bl:=b.rl;have p0:=k.p0;refine⟨⟨b.nd,b.ln,lh p0 b2,b.gd,B,?_,λq u=>?_,?_⟩,b2⟩
 .rw[h7,kc];refine⟨k.kd,Wl,λa m c x z=>?_⟩;cases hU.1 x;rw[k.ks,z]at m;exact Js t n v m
 .obtain z|z:=hG.1 (u)
  .obtain⟨o,d⟩:=k.rw q z;exact⟨o,λr f=>⟨(d r f).a,(d r f).i,(d r f).l,lh (d r f).n b2,(d r f).w⟩⟩
  .cases hU.1 z;exact⟨ We,b.rw⟩
 .show s.sp-y.2.length<=_;lia
def Rf(c:CH)(mo n:Nat):At->GS->Option GS
 | [],s=>some s
 | sg::l,s=>(Rc c mo s n sg).bind (Rf c mo n l)
theorem Lz(c:CH)(mo n:Nat):∀(a l:At) (s:GS),Rf c mo n (a++l) s=(Rf c mo n a s).bind (Rf c mo n l)
 | [],l,s=>rfl
 | x::a,l,s=>by
  rw[l7,Rf,Rf];cases Rc c mo s n x with
  | none=>rfl
  | some s'=>exact Lz c mo n a l s'
def ti(c:CH)(mo:Nat)(hs:At):Nat->Nat->GS->Option GS
 | 0,_,s=>some s
 | f+1,n,s=>if n<s.fl.length then(Rf c mo n hs s).bind (ti c mo hs f Qaa) else some s
def q7(c:CH)(mo:Nat):GS:=⟨[YN c],[],8*mo⟩
def Nq(c:CH)(mo:Nat)(hs:At):Option GS:=ti c mo hs mo 0 Qfa
structure WR(c:CH)(mo:Nat)(s:GS)(n:Nat)(sg:Str):Prop where
 ok:c.Ok
 nd:s.fl.Nodup
 ln:s.fl.length<=mo
 mo:mo<=100
 gd:∀p∈s.fl,Gd c p
 hn:n<s.fl.length
 key:zQ n sg∉s.rs.map (·.1)
 rl:s.rs.length<=10000
 sp:s.sp<=1000
def ahz(x:Qdw):(vW x).jS=true:=by
 have e1:D.aY (x.1.map zM)=true:=gU QcB _;have e2:D.aY (x.2.map _)=true:=bI _;show(D.tup _).jS=true;rw[D.jS,D.aY,D.aY,D.jS,D.jS,e1,e2];rfl
def ady{p:Pl}{l:DA}{d:Qdw}{x y:QcS}(a:l[j]? = some d)(f:Qvq)(hw:tf c mo p x d):O5 c mo p l y=none:=by
 have hl:=(ko.1 a).1;have e:=by
  have b:=wi j l;rw[wt hl,(ko.1 a).2]at b;exact b.symm
 rw[e,Lx,f];show O5 c mo p _ x=none;rw[O5,ec hw]
theorem adz{p:Pl}{l:DA}{a:Qdw}{x y:QcS}(d:l[j]? = some a)(b:Qvq)(hw:¬ tf c mo p x a):O5 c mo p (l.take QR) y=some Qos:=by simp_all [gw,Lx,O5]
theorem ahA(h:p6 m d):∃w y r,d=.tup (.str w::y::r)/\(w=("way":Str)->∃i,y=.int i):=by
 obtain⟨x,rfl,_⟩:=h;cases x with
 | xK q=>
  cases q with
  | put i a c=>exact⟨_,_,_,rfl,λ_=>⟨_,rfl⟩⟩
  | call s=>exact⟨_,_,_,rfl,λz=>absurd z (show ¬ ("call":Str)="way" by decide +kernel)⟩
  | say s a c=>exact⟨_,_,_,rfl,λz=>absurd z (show ¬ ("say":Str)="way" by decide +kernel)⟩
 | out i=>exact⟨_,_,_,rfl,λ_=>⟨_,rfl⟩⟩
 | keep i p q=>exact⟨_,_,_,rfl,λ_=>⟨_,rfl⟩⟩
 | way i=>exact⟨_,_,_,rfl,λ_=>⟨_,rfl⟩⟩
 | Nh i=>exact⟨_,_,_,rfl,λ_=>⟨_,rfl⟩⟩
seal L3.cG L3.Vr L3.bR L3.cL L3.sN L3.G9 L3.mM
abbrev t6:=inClass (top 15) 0
abbrev t7:=At×AT×AT
noncomputable abbrev t8:At:=["self","kinds","elders","starts"]
noncomputable def wI:t7->BB:=λ(ks,es,ss)=>[.lst Qc4,.lst Qb0,.lst Qc5]
def wJ:t7->Prop:=λ(ks,es,ss)=>True
def wK:t7->BS:=λ(ks,es,ss)=>(EH ks es ss:BS)
structure fY(K:Frag)(mg:Bi)(CL:BM):Prop where
 dg:mg "list" = none
 iG:yU K QjM
 fZ:bu K QjM "kinds"
 iL:bu K QjM "elders"
 wL:bu K QjM "starts"
 bN:yU K QdW
 fD:yU K Qe2
 wM:bu K QdW "boxes"
 Hq:bu K Qe2 "boxes"
 wN:bu K QdW "names"
 cQ:bu K QdW "tree"
 Cy:bu K QdW "ins"
 zR:bu K QdW "outs"
 cj:bu K QdW "ways"
 e7:mg "len" = none
 lY:mg "range" = none
 ap7:mg "min" = none
 Cz:mg "enumerate" = none
 TC:∃u,mg "SIGN" = some (.int 1 u)
 zS:∃u,mg "ROWS_FOR_A_FLAT" = some (.int 8 u)
 aS:yU K QdS
 gX:bu K QdS "chart"
 wO:bu K QdS "most"
 dS:bu K QdS "flats"
 wQ:bu K Qe2 "flats"
 iR:bu K QdS "places"
 pA:bu K QdS "rows"
 fj:bu K Qe2 "rows"
 fE:bu K QdS "spare_rows"
 rD:mg "tuple" = none
 xR:mg "TooWide" = some Qn3
 Fw:KD K QeF
 t9:∃u,mg "LEAF" = some (.int 0 u)
 vI:∃u,mg "ASKED" = some (.int 2 u)
 qA:∃u,mg "PICKED" = some (.int 3 u)
 LC:∃u,mg "HELD" = some (.int 4 u)
 TB:∃u,mg "ASKS" = some (.int 2 u)
 Jt:∃u,mg "WAY" = some (.int 1 u)
 amC:mg "dict" = none
 zT:∃u,mg "SOURCE" = some (.int 0 u)
 nA:mg "sorted" = none
 xS:mg "reversed" = none
 ua:∃u,mg "TARGET" = some (.int 4 u)
 SN:∃u,mg "MODE" = some (.int 5 u)
 ahB:∃u,mg "DEEDS" = some (.int 3 u)
 ap8:mg "any" = none
 wR:bu K Qe2 "signs"
 Hr:bu K Qe2 "begin"
 rE:mg "isinstance" = none
 ap9:mg "int" = none
 amD:mg "bool" = none
structure Dh(N G:At)(X:Cx)(CL:BM):Prop extends EL X N G,fY X.K X.mg CL
variable{X:Cx}{CL:BM}{b:Bx}
def O6(E:Dh t8 ["list"] X CL)(ks:At)(es ss:AT)(y:Addr)(h:True) :
  cG X CL b (bJ t6) (Kl t8 y "Tree" [.lst Qc4,.lst Qb0,.lst Qc5]) {nx:=λU=>U[0]? = some (some (.pin y QlD)),rt:=λ_ _=>False}:=by
 have hi:D.aY (ks.map D.str)=true:=gU QcB _;refine fM E.iG E.fZ (E.ll 0).1 (cD E.dg QU hi QP aW).m rfl QaG ?_;exact fM E.iG E.iL (E.ll 0).1 (cD E.dg Q3 (bI _) QP aW).m rfl QaG (fM E.iG E.wL (E.ll 0).1 (cD E.dg Qac (bI _) QP aW).m rfl QaG (ai rfl))
noncomputable def rG:FG t8 ["self","kinds","elders","starts"] ["list"] (ak t6):=fG
abbrev rH:=inClass (top 9) 0
abbrev rJ:=BB×BB×V×BB×BB×BB
noncomputable abbrev rK:At:=["self","boxes","names","tree","ins","outs","ways"]
noncomputable def uc:rJ->BB:=λ(bs,nm,tv,is,os,ws)=>[.lst bs,.lst nm,.val tv,.lst is,.lst os,.lst ws]
def ud:rJ->Prop:=λ(bs,nm,tv,is,os,ws)=>D.aY bs=true/\D.aY nm=true/\D.aY is=true/\D.aY os=true/\D.aY ws=true
def uf:rJ->BS:=λ(bs,nm,tv,is,os,ws)=>(xG bs nm (.sh (.val tv)) is os ws:BS)
def LD(E:Dh rK ["list"] X CL)(bs nm:BB)(tv:V)(is os ws:BB)(y:Addr)(h:D.aY bs=true/\D.aY nm=true/\D.aY is=true/\D.aY os=true/\D.aY ws=true) :
  cG X CL b (bJ rH) (Kl rK y "Chart" [.lst bs,.lst nm,.val tv,.lst is,.lst os,.lst ws]) {nx:=λU=>U[0]? = some (some (.pin y (.ins "Chart" (xG bs nm (.sh (.val tv)) is os ws)))),rt:=λ_ _=>False}:=by
 obtain⟨h1,e,d,c,a⟩:=h;refine fM E.bN E.wM (E.ll 0).1 (cD E.dg QU h1 QP aW).m rfl QaG ?_;refine fM E.bN E.wN (E.ll 0).1 (cD E.dg Q3 e QP aW).m rfl QaG ?_;refine fM E.bN E.cQ (E.ll 0).1 (v_ (E.ll 3).1).m rfl QaG ?_;refine fM E.bN E.Cy (E.ll 0).1 (cD E.dg Qbk d QP aW).m rfl QaG ?_;exact fM E.bN E.zR (E.ll 0).1 (cD E.dg Qa1 c QP aW).m rfl QaG (fM E.bN E.cj (E.ll 0).1 (cD E.dg QbC a QP aW).m rfl QaG (ai rfl))
noncomputable def pB:FG rK ["self","boxes","names","tree","ins","outs","ways"] ["list"] (ak rH):=fG
abbrev xT:=top 79
abbrev xU:=BB×At×At×AT×AT×BB×BB×BB
noncomputable abbrev xV:At:=["parts","tree"]
def rL:xU->BB:=λ(bs,ns,ks,es,ss,is,os,ws)=>[Tu bs ns ks es ss is os ws]
def rM:xU->Prop:=λ(bs,ns,ks,es,ss,is,os,ws)=>D.aY bs=true/\D.aY is=true/\D.aY os=true/\D.aY ws=true
def rN:xU->T:=λ(bs,ns,ks,es,ss,is,os,ws)=>(.ins "Chart" (xG bs QeV QlD is os ws):T)
structure SQ(X:Cx)(CL:BM):Prop extends EL X xV ["Tree","list","Chart"],fY X.K X.mg CL where
 amE:Fm X CL "Tree" 1 4 wI wJ wK
 ahC:Fm X CL "Chart" 1 7 uc ud uf
def SR(E:SQ X CL) :
  kD X CL b xT xV rL rM rN:=by
 rintro⟨bs,ns,ks,es,ss,is,os,ws⟩ h;obtain⟨c,ii,io,a⟩:=h;exact aG E.g QcH (aQ (mk_ (ks,es,ss) E.amE QP (ah Qqz (ah QqA (ah QqA aF))) trivial (Cr ks es ss)) rfl) (aU (mkP (λv=>(bs,ns.map .str,v,is,os,ws)) E.ahC QaC
  (Ob (bQ (cD E.dg Qey c Q1 aW)) (Ob Qqz
   (abE Qjc
    (ah (bQ (cD E.dg Qey ii Q1 aW)) (ah (bQ (cD E.dg Qey io Q1 aW)) (ah (bQ (cD E.dg Qey a Q1 aW)) aF))))))
  (λv=>rfl) (λv=>⟨c,m9 _,ii,io,a⟩) (λv=>rfl) (K0 c (m9 _)) (K1 ii io a)) rfl)
noncomputable def CB:FG xV ["parts"] ["Tree","list","Chart"] (ak xT):=fG
abbrev Bd:=top 67
abbrev Be:=AT×Int
noncomputable abbrev Bf:At:=["script","k"]
def n9:Be->BB:=λ(ns,j)=>[.lst QnZ,.int j]
def oh:Be->Prop:=λ(ns,j)=>0<=j
def oi:Be->T:=λ(ns,j)=>(.sh (.int (jC ns j)):T)
def Y4(E:Dh Bf ["len"] X CL) :
  kD X CL b Bd Bf n9 oh oi:=by
 rintro⟨ns,j⟩ h;refine eO (Ef QU (au (Vu E.e7 Q2 QP))).1 (λa=>?_) (λa=>?_)
 .have e:=by simpa using of_decide_eq_true a
  apply aU (cM (aX Q2 QU (fU h e)) rfl);show T.sh _=T.sh _;rw[jC,ec e]
 .have e:¬ j<ns.length:=by simpa using of_decide_eq_false a
  refine ai (aU lB ?_);show T.sh _=T.sh _;rw[jC,bS e]
noncomputable def Fx:FG Bf ["script","k"] ["len"] (ak Bd):=fG
abbrev LJ:=top 68
abbrev LK:=AT×Int
noncomputable abbrev LN:At:=["elders","mood","found","at"]
def Bg:LK->BB:=λ(es,m)=>[.lst Qb0,.int m]
def Bh:LK->Prop:=λ(es,m)=>dI es/\0<=m/\m<es.length/\es.length<=1000
def Bj:LK->T:=λ(es,m)=>(.lst (((bM es m).map .int).map T.sh):T)
theorem ahD(E:Dh LN [] X CL) :
  kD X CL b LJ LN Bg Bh Bj:=by
 rintro⟨es,m⟩ h;obtain⟨d,h0,h1,hlen⟩:=h;apply aG E.g QaD QaZ;apply aG E.g Qat (cM (aX Q2 QU (fU h0 h1)) rfl);have hm:=d.at h0 h1;apply zj E.g (λn U=>∃(k:Int) (l:AT),U=[some _,some _,some Qrn,some QeT] /\ -1<=k/\k<n/\k<es.length/\l++A2 n es k=bM es m/\l.length+n<=es.length+1) QdU
  ⟨ _,[],rfl,hm.1,We,We,rfl,Wl⟩
 rintro n U ⟨k,l,rfl,k0,k1,k2,k3,i⟩;refine⟨_,_,(Ed Qac QbA).1,λa=>?_,λa=>?_⟩
 .have c:=by simpa using a
  have f:=d.at We k2;cases n with
  | zero=>lia
  | succ n=>
   apply iJ (E.ll 2).1 rfl Qbc rfl WE;apply aG E.g Qat (cM (aX Q2 Qac (fU We k2)) rfl);refine ai ⟨n,u5 _,_,l++[k],?_,f.1,We,We,?_,WE⟩
   .simp
   .rw[<- k3,A2,bS c,h5];rfl
 .have c:=by simpa using a
  subst c;have e:l=bM es m:=by
   rw[<- k3];cases n with
   | zero=>rw[A2,hX]
   | succ n=>rw[A2,ec rfl,hX]
  subst e;exact aU QeR rfl
noncomputable def O7:FG LN ["elders","mood"] [] (ak LJ):=fG
abbrev ug:=top 72
abbrev uh:=Cn
noncomputable abbrev um:At:=["items","elders","item","last","roads"]
def pC:uh->BB:=λl=>[.lst QnU]
def kE:uh->Prop:=λl=>l.length<=100
def pD:uh->T:=λl=>(.lst (((D4 l).map .int).map T.sh):T)
structure O8(X:Cx)(CL:BM):Prop extends EL X um ["len","_law_chain"],fY X.K X.mg CL where
 ahE:Fc X CL "_law_chain" 1 2 Bg Bh Bj
theorem O9(E:O8 X CL) :
  kD X CL b ug um pC kE pD:=by
 intro l h;dsimp [kE]at h ⊢;apply aG E.g QcH (cu (aH (fJ ao) bG) aC);refine fK E.g QaD (λj U=>∃i f c,U=[some _,some (.lst ((((l.take j).foldl xN [-1]).map .int).map T.sh)),i,f,c])
  (c7 QaE) ⟨_,_,_,rfl⟩ (λj U ⟨_,_,_,e⟩=>by subst e;exact hT rfl) ?turn ?fin
 case turn=>
  rintro j d U t ⟨i,f,c,rfl⟩;obtain⟨p,m,rfl⟩:=Ww t;obtain⟨o,hl⟩:=Lb _ [-1] Fe (u5 0);have hm:=qy QnT;have w:(l.take j).length<=l.length:=by rw[l9];lia
  rw[kv]at hl;show cG X CL b _ _ _;rw[gw m,He];generalize (l.take j).foldl xN [-1]=es at o hl ⊢;show cG X CL b _ _ {nx:=λU=>∃i f c,U=[_,some (.lst (((xN es p).map .int).map T.sh)),i,f,c],rt:=_,bk:=_,ct:=_};refine eO (Ef (au (cZ Qc0 ao Wk)) ao).1 (λa=>?_) (λa=>?_)
  .have a:=iw a;obtain⟨k,q⟩:∃k:Nat,es.length=k+1:=⟨es.length-1,We⟩;obtain⟨s,r,x⟩:=tW o q.symm;apply aG E.g Qat (aQ (tK (au (cB (cq ..) E.e7 QnC QP)) ao) (t2:=.sh (.int k)) (by rw[q];lia));have u:(bM es k).length<=es.length+1:=vA _ _ _;apply aG E.g Qau (qO (bQ (ds:=[.int _]) (cu (aH Qbc bG) aC))
    (bQ (c_ (es,(k:Int)) E.ahE Q1 (ah QnC QhP) (⟨o,We,We,We⟩) (aR _))) rfl (bI _) (ke (bB (by rw[cq,kv];lia))))
   have v:([D.int k]++(bM es k).map _)=([(k:Int)]++bM es k).map _:=rfl;rw[v];refine Ek (λU=>U=[some Qvm,some (.lst ((es.map .int).map T.sh)),some (.sh (oe p)),some QeT,some (.lst (((c9 es k).map .int).map T.sh))])
    (Vt (au (cB (cq ..) E.e7 Qcv QP)) ao).1 (λm=>?_) (λm=>?_) ?_
   .have e:=iw m;refine aG E.g Qau (tN Qcv (bI _) Qfs lV) (ai ?_);rw[zg];unfold c9;rw[ec e];rfl
   .have e:=ky m;apply ai;unfold c9;rw[bS e];rfl
   rintro U rfl;have n:((es.map D.int).map T.sh)++[T.sh (.int ((c9 es k).getD (p.1 / 8 % ((c9 es k).length)).toNat 0))]=((xN es p).map D.int).map T.sh:=by
    unfold xN;rw[ec a,q,h7,h7];rfl
   generalize c9 es k=rs at s r n ⊢;have b1:=lj Qg7 (b:=rs.length) We;have b2:=lL Qg7 (b:=rs.length) We;refine iJ (E.ll 1).1 rfl (cM (aX Qcv (au (cZ (au (eZ Qc0 ao ⟨Wk,Wk⟩)) (au (cB (cq ..) E.e7 Qcv QP)) We)) (fU b1 b2)) rfl) rfl (by rw[cq,cq];lia) (ai (ai ?_));rw[n];exact⟨_,_,_,rfl⟩
  .have a:=ky a;rw[xN,bS a];exact ai (ai ⟨_,_,_,rfl⟩)
 case fin=>
  rintro U ⟨i,f,c,rfl⟩;apply aU Qjc;rw[cq,ka];rfl
noncomputable def zU:FG um ["items"] ["len","_law_chain"] (ak ug):=fG
abbrev Bk:=top 69
abbrev Bl:=Int×At
abbrev Bm:At:=["number","used","letters","words","more","name","rest"]
def oj:Bl->BB:=λ(m,us)=>[.int m,.lst (us.map .str)]
def om:Bl->Prop:=λ(m,us)=>0<=m/\m<100000000000000000000/\us.length<=100
def oq:Bl->T:=λ(m,us)=>(.sh (.str (tV m us)):T)
theorem Y5(E:Dh Bm ["range","len"] X CL) :
  kD X CL b Bk Bm oj om oq:=by
 rintro⟨m,us⟩ h;dsimp only [om,oj,oq]at h ⊢;obtain⟨h0,h1,B⟩:=h;have c:YG.length=36:=by decide +kernel
 refine aG E.g QaD dH ?_;refine aG E.g Qat (abB (l:=ND) dY dY Wf (by rw[kA];decide +kernel) Wf aC) ?_;refine fK E.g Qau (λj U=>(∃p o k,U=[some _,some _,some _,some _,p,o,k])/\∀i,i<j->sv m us i=false)
  (kX E.lY (au (jT (au (cB (cq ..) E.e7 QU Q1)) ao)) We QP) ⟨⟨_,_,_,rfl⟩,λi hi=>absurd hi (Nat.not_lt_zero _)⟩ (λj U ⟨⟨_,_,_,e⟩,_⟩=>by subst e;exact hT rfl) ?turn ?fin
 case turn=>
  rintro j d U v ⟨⟨p,o,k,rfl⟩,f⟩;obtain⟨rfl,y⟩:=zf v;rw[oP];have b1:=lj (m+j) (show(26:Int)≠0 by decide);refine aG E.g Qay (aQ (aa7 Q3 (au (cZ Qts ao Wk)) (by rw[kA];decide +kernel) (by rw[XB];exact YE 0 b1 (by rw[c];lia))) rfl) ?_;refine aG E.g Qa0 (eZ Qts ao ⟨Wk,Wk⟩) ?_;refine zj E.g (λn U=>∃(r:Int) (x:Str),U=[some _,some _,some _,some _,some _,some (.sh Qa4),some (.sh (.int r))]/\0<=r/\r<36 ^ n/\x.length+n<=21/\n4 n r x=Sy (m+j)) 20
   ⟨_,_,rfl,We,We,hI _,rfl⟩ ?_
  rintro n U ⟨r,x,rfl,u,t,z,q⟩;refine⟨_,_,(Vt QbC ao).1,λa=>?_,λa=>?_⟩
  .have a:0<r:=iw a;cases n with
   | zero=>
    lia
   | succ n=>
    have w:=lj r (show(36:Int)≠0 by decide);refine aG E.g Qay (akX Qa1 (au (aQ (aa7 Q3 (au (cZ QbC ao Wk)) (by rw[kA];decide +kernel) (by rw[XB];exact YE 0 w (by rw[c];lia))) rfl)) (by rw[kA];show x.length+1<=_;lia)) ?_;refine aG E.g Qa0 (eZ QbC ao ⟨Wk,Wk⟩) ?_;refine ai ⟨n,u5 _,r / 36,x++K6 Qkt,rfl,Int.ediv_nonneg u Wk,Int.ediv_lt_of_lt_mul Wk (by exact t),?_,?_⟩
    .rw[str_len];show x.length+1+n<=21;lia
    .rw[<- q,n4,ec a]
  .have a:¬ 0<r:=ky a;rw[ahh n x a]at q;subst q;refine eO (qK (ju (Km Qa1 QU rfl rfl).1 (λA=>(kC (Km Qa1 QcZ rfl rfl).1)))) (λs=>?_) (λs=>ai (ai ⟨⟨_,_,_,rfl⟩,λi hi=>?_⟩))
   .refine aU Qbw ?_;rw[ada y f s]
   .obtain h|rfl:=Nat.lt_succ_iff_lt_or_eq.1 hi
    .exact f i h
    .exact s
 case fin=>
  rintro U ⟨⟨p,o,k,rfl⟩,f⟩;refine aU dH ?_;have e:(fH 0 ((us.length:Int)+20).toNat).length=us.length+20:=by
   rw[fH,cq,kr];lia
  rw[e]at f;rw[adb f]
noncomputable def Fy:FG Bm ["number","used"] ["range","len"] (ak Bk):=fG
abbrev xW:=top 70
abbrev xX:=AT×Nat
noncomputable abbrev xY:At:=["script","many","base","step","found","k"]
noncomputable def rO:xX->BB:=λ(s,n)=>[.lst (s.map .int),.int n]
def lZ:xX->Prop:=λ(s,n)=>n<=100
def l0:xX->T:=λ(s,n)=>(.lst (((Kk s n).map .str).map T.sh):T)
structure SV(X:Cx)(CL:BM):Prop extends EL X xY ["_law_cell_at","range","_law_name_by"],fY X.K X.mg CL where
 mV:Fc X CL "_law_cell_at" 1 2 n9 oh oi
 Y6:Fc X CL "_law_name_by" 1 2 oj om oq
theorem SW(E:SV X CL) :
  kD X CL b xW xY rO lZ l0:=by
 rintro⟨s,n⟩ h;dsimp [lZ,l0]at h ⊢;have e0:=lj (jC s 1) (show 5≠0 by decide);have e1:=lL (jC s 1) (show 0<5 by decide);have k:=lj (jC s 0) (show(26*36 ^ (10:Int).toNat)≠0 by decide +kernel);have b1:=lL (jC s 0) (show 0<26*36 ^ (10:Int).toNat by decide +kernel);have b2:(26*36 ^ (10:Int).toNat)<=100000000000000000:=by decide +kernel
 have st:=ade s;apply aG E.g QaD (cZ (au (c_ ((s,0)) E.mV QP Qo2 (show 0<=0 by lia) rfl)) (au (Ec ao (au (aa3 ao ao ⟨Wk,Wk,Wk⟩)) (.inl ⟨Wk,Wk⟩))) Wf);refine aG E.g Qat (aQ (cM (aX (ds:=([1,26,936,33696,1213056]:AT).map .int) (bQ (lX (aj lB (aj lB (aj lB (aj lB (aj lB aL))))) aC)) (au (cZ (au (c_ ((s,1)) E.mV QP Qo2 (show 0<=1 by lia) rfl)) ao Wk)) (fU e0 e1)) rfl) (t2:=.sh (.int (Jq s))) rfl) ?_;unfold Kk;generalize jC s 0 % (26*36 ^ (10:Int).toNat)=c at k b1 ⊢;generalize Jq s=sp at st ⊢;apply aG E.g Qau QaZ;refine fK E.g Qay (λj U=>∃o,U=[some _,some _,some _,some _,some (.lst (((De c sp j).map .str).map T.sh)),o])
  (kX E.lY QU We Q1) ⟨_,rfl⟩ (λj U ⟨_,e⟩=>by subst e;exact hT rfl) ?turn ?fin
 case turn=>
  rintro j d U f ⟨o,rfl⟩;obtain⟨rfl,m⟩:=zf f;rw[oP];have a:=Fd c sp j;have l:0<=j*sp/\j*sp<=1000*1213056:=⟨Int.mul_nonneg We st.1,Int.mul_le_mul We st.2 st.1 Wk⟩;have i:((De c sp j).map D.str).map T.sh++[T.sh (.str (tV (c+j*sp) (De c sp j)))]=((De c sp QR).map D.str).map T.sh:=by
   rw[De,h7,h7];rfl
  refine iJ (E.ll 4).1 rfl (aQ (c_ ((c+j*sp,De c sp j)) E.Y6 QaC (ah (au (jT Q3 (au (Ec Qa1 Qac (.inl ⟨We,We⟩))))) Qjj) ((⟨We,We,We⟩)) rfl) (t2:=.sh _) rfl) rfl (by rw[cq,cq];lia) (ai ?_);rw[i];exact⟨_,rfl⟩
 case fin=>
  rintro U ⟨o,rfl⟩;have e:(fH 0 (n:Int).toNat).length=n:=by
   rw[fH,cq,kr];lia
  rw[e];exact aU QgB rfl
noncomputable def CD:FG xY ["script","many"] ["_law_cell_at","range","_law_name_by"] (ak xW):=fG
abbrev rP:=top 77
abbrev xZ:=AT×AT
abbrev x6:At:=["elders","cells","kinds","starts","mood","near","start"]
noncomputable def rQ:xZ->BB:=λ(es,cs)=>[.lst Qb0,.lst (cs.map .int)]
def mh:xZ->Prop:=λ(es,cs)=>es.length<=100/\cs.length=es.length
def rR:xZ->T:=λ(es,cs)=>(.lst [.lst (((jf es cs es.length).map .str).map T.sh),.lst (((iF es cs es.length).map .int).map T.sh)]:T)
structure SX(X:Cx)(CL:BM):Prop extends EL X x6 ["range","len"],fY X.K X.mg CL where
 adD:Jf X "elders"
 SY:Jf X "mood"
theorem S6(E:SX X CL) :
  kD X CL b rP x6 rQ mh rR:=by
 rintro⟨es,cs⟩ h;obtain⟨hl,r⟩:=h;refine aG E.g QaD QaZ ?_;refine aG E.g Qat QaZ ?_;refine fK E.g Qau (λj U=>∃l k f,U=[some _,some _,some (.lst (((jf es cs j).map .str).map T.sh)),some Qqn,l,k,f])
  (kX E.lY (au (cB (cq ..) E.e7 Q2 Q1)) We QP) ⟨_,_,_,rfl⟩ (λj U ⟨_,_,_,e⟩=>by subst e;exact hT rfl) ?turn ?fin
 case turn=>
  rintro j d U m ⟨l,k,f,rfl⟩;obtain⟨rfl,q⟩:=zf m;have q:j<es.length:=by lia
  rw[oP];have kl:=Fg es cs j;have sl:=Fi es cs j;refine Ey (p:=λd=>decide Ql8) (gg:=T.sh) E.g Qay (cH (.cons (E.ll 0).1 (.inl E.adD) (.cons (E.ll 4).1 (.inl E.SY) .nil)) Wf)
   (kX E.lY (au (cB (cq ..) E.e7 Q2 Q1)) We QP) QaI (λC s0 t f0 s d hd=>?EX) (ke (bB (by simp[fH];lia))) ?rest QaG QeK
  case EX=>
   obtain⟨i,hi,rfl⟩:=hP.1 hd;have n:=by simpa using hi
   exact⟨(fq (aX (iK 1) (jl 0) (fU (show(0:Int)<=0+i by lia) (show 0+(i:Int)<es.length by lia))) (iK 2)).1,λ_=>v_ (AY 0)⟩
  case rest=>
  have eq:((fH 0 (es.length:Int).toNat).filter λd=>decide Ql8).map (T.sh)=((jL es j).map .int).map T.sh:=by
   unfold fH jL;rw[mB,hW,hW,hW];have e1:((λd=>decide Ql8)∘λi:Nat=>D.int (0+i))=λi:Nat=>decide (es.getD i 0=j):=by
    funext i;show decide (es.getD (0+(i:Int)).toNat 0=j)=_;rw[oP,ji]
   rw[e1];congr 1;funext i;show T.sh Qbu=T.sh _;rw[oP]
  rw[eq];refine aG E.g Qa0 (fJ ao) ?_;refine Ek (λU=>U=[some (.sh (.lst Qb0)),some (.sh (.lst (cs.map .int))),some (.lst (((jf es cs QR).map .str).map T.sh)),some Qqn,some (.sh (.int j)),some (.lst (((jL es j).map .int).map T.sh)),some (.sh (.int (tX es cs j)))])
   (Kg E.u Qcy (bQ QaZ) (tU _) (tU [])).1 (λc=>?_) (λc=>?_) ?_
  .have hz:=iw ((N8 _ []).symm.trans c);refine iJ (E.ll 2).1 rfl dH rfl (by rw[cq,cq];lia) (ai ?_);rw[tY es cs j (by rw[kindB,ec hz])];rw[show tX es cs j=-1 by rw[tX,ec hz]];rfl
  .have hz:¬ jL es j=[]:=λz=>by
    rw[z]at c;exact absurd c Wk
   have o:=zd.2 hz;refine Ek (λU=>U=[some _,some _,some _,some _,some _,some _,some _])
    (fq (au (cZ Qvi ao Wk)) ao).1 (λa=>?_) (λa=>?_) (λU e=>ai e)
   .have a:=iw a;rw[ji]at a;refine iJ (E.ll 2).1 rfl dH rfl (by rw[cq,cq];lia) (ai ?_);rw[tY es cs j (by rw[kindB,bS hz,ec a])];rw[show tX es cs j=-1 by rw[tX,bS hz,ec a]];rfl
   .have a:=ky a;rw[ji]at a;have b1:=lj QrI (b:=((jL es j).length:Nat)) We;have b2:=lL QrI (b:=((jL es j).length:Nat)) We;refine iJ (E.ll 2).1 rfl dH rfl (by rw[cq,cq];lia) ?_;refine aG E.g Qa0 (cM (aX Qcy (au (cZ (au (eZ Qvi ao ⟨Wk,Wk⟩)) (au (cB (cq ..) E.e7 Qcy Q1)) We)) (fU b1 b2)) rfl) (ai ?_);rw[tY es cs j (by rw[kindB,bS hz,bS a])];rw[show tX es cs j=(jL es j).getD (cs.getD (j:Int).toNat 0 / 2 % ((jL es j).length:Nat)).toNat 0 by rw[tX,bS hz,bS a,ji]];rfl
  rintro U rfl;refine iJ (E.ll 3).1 rfl Qh8 rfl (by rw[cq,cq];lia) (ai ?_);rw[OU es cs j rfl];exact⟨_,_,_,rfl⟩
 case fin=>
  rintro U ⟨l,k,f,rfl⟩;have e:(fH 0 (es.length:Int).toNat).length=es.length:=by
   rw[fH,cq,kr];lia
  rw[e];exact aU (cu (aH QeR (aH (vM (E.ll 3).1) bG)) aC) rfl
def uo:Q9 (ak rP) ([("elders",.cell),("cells",b9),("kinds",b9),("starts",b9),("mood",.cell),("near",b9),("start",b9),("range",bE),("len",bE)])=true:=by decide +kernel
noncomputable def Pa:cO x6 ["elders","cells"] (ak rP):=g9
abbrev uq:=top 71
abbrev ur:=Int
noncomputable abbrev uv:At:=["cell","size"]
noncomputable def gA:ur->BB:=λc=>[.int c]
def gB:ur->Prop:=λc=>True
def gC:ur->T:=λc=>(.sh Qn4:T)
def Pb(E:Dh uv [] X CL) :
  kD X CL b uq uv gA gB gC:=by
 intro c h;dsimp only [gB,gA,gC]at h ⊢;refine aG E.g QcH (cZ (au (eZ Q2 ao ⟨Wk,Wk⟩)) (au (aa3 ao ao ⟨Wk,Wk,Wk⟩)) Wk) ?_;refine eO (fq (au (cZ Q2 ao Wk)) ao).1 (λa=>?_) (λa=>ai ?_)
 .refine aU (tK ao QU) ?_;show T.sh _=T.sh Qn4;unfold Lc;rw[ec (iw a)]
 .refine aU Qbo ?_;show T.sh _=T.sh Qn4;unfold Lc;rw[bS (ky a)]
noncomputable def zV:FG uv ["cell"] [] (ak uq):=fG
abbrev Bo:=top 73
abbrev Bp:=Int×Int×Nat×At
noncomputable abbrev Bq:At:=["item","boxes","names","pick","name","term"]
noncomputable def uw:Bp->BB:=λ(a,c,n,ns)=>[.tup [.int a,.int c],.int n,.lst QeV]
def jm:Bp->Prop:=λ(a,c,n,ns)=>n<=1000/\0<ns.length/\ns.length<=1000
def ux:Bp->T:=λ(a,c,n,ns)=>(.sh (wH a c n ns):T)
structure Y7(X:Cx)(CL:BM):Prop extends EL X Bq ["len","_law_number_by"],fY X.K X.mg CL where
 jn:Fc X CL "_law_number_by" 1 1 gA gB gC
theorem Y8(E:Y7 X CL) :
  kD X CL b Bo Bq uw jm ux:=by
 rintro⟨a,c,n,ns⟩ h;obtain⟨h1,k,j⟩:=h;have e1:=lj c (show(ns.length:Int)≠0 by lia);have e2:=lL c (show 0<(ns.length:Int) by lia);apply aG E.g Qat (eZ Qbx ao ⟨Wk,Wk⟩);apply aG E.g Qau (cM (aX Q3 (au (cZ Qbx (au (cB (cq _) E.e7 Q3 QP)) We)) (eS _ e1 e2)) rfl);apply aG E.g Qay (bD (aj (tK (au (cZ Qac Qnb We)) ao) (aj (c_ (c / 3) E.jn Q1 (ah (au (eZ Qbx ao ⟨Wk,Wk⟩)) aF) QoS rfl) aL)) aC);refine eO (fq (au (cZ (au (eZ Qbx ao ⟨Wk,Wk⟩)) ao Wk)) ao).1 (λi=>?_) (λi=>ai ?_)
 .have e:=iw i;apply aU (bD (aj dH (aj QdE aL)) aC);show T.sh _=T.sh _;rw[wH,ec e]
 have e:=ky i;refine eO (qK (ju (fq (au (cZ (au (eZ Qbx ao ⟨Wk,Wk⟩)) ao Wk)) ao).1 (λ_=>kC (Vt QU ao).1))) (λf=>?_) (λf=>ai ?_)
 .have d:a / 8 % 3=1/\0<n:=by
   simp at f;lia
  refine aU (bD (aj dH (aj (cZ (au (eZ Qac ao ⟨Wk,Wk⟩)) QU We) (aj Qbw aL))) aC) ?_;show T.sh _=T.sh _;rw[wH,bS e,ec d];rfl
 .have d:¬ (a / 8 % 3=1/\0<n):=by
   simp at f;lia
  apply aU (bD (aj dH Qk7) aC);show T.sh _=T.sh _;rw[wH,bS e,bS d];rfl
noncomputable def Fz:FG Bq ["item","boxes","names"] ["len","_law_number_by"] (ak Bo):=fG
abbrev FD:=top 74
abbrev FE:=Int×Int×Int×Nat×At
noncomputable abbrev FH:At:=["item","source","many","names","target","mode"]
noncomputable def x8:FE->BB:=λ(a,c,src,n,ns)=>[.tup [.int a,.int c],.int src,.int n,.lst QeV]
def rS:FE->Prop:=λ(a,c,src,n,ns)=>n<=1000/\3<=ns.length/\ns.length<=1000
def x9:FE->T:=λ(a,c,src,n,ns)=>(.sh (Kj a c src n ns):T)
theorem adE(E:Dh FH [] X CL) :
  kD X CL b FD FH x8 rS x9:=by
 rintro⟨a,c,src,n,ns⟩ h;obtain⟨h1,i,e⟩:=h;have e1:=lj (a / 24) (show 3≠0 by decide);apply aG E.g Qau (tK (au (cZ Qbx (au (jT Q3 ao)) We)) ao);apply aG E.g Qay dH;refine eO (Ed Qbk QbA).1 (λd=>?_) (λd=>ai ?_)
 .refine aG E.g Qay (cM (aX (bQ (lX (aj dH QiN) aC)) (au (cZ (au (eZ Qbx ao ⟨Wk,Wk⟩)) ao Wk)) (eS (f:=D.str) (l:=["new","near","far"]) Str.empty (lj _ Wk) (lL _ Wk))) rfl) (ai ?_);have hm:m4 a c n=(["new","near","far"]:At).getD (a / 8 % 3).toNat Str.empty:=by
   unfold m4;rw[if_neg (by simpa [o2] using d)]
  apply aU (bD (aj Qbo (aj (cM (aX Qac (au (cZ (au (eZ Qbx ao ⟨Wk,Wk⟩)) ao Wk)) (eS _ e1 We)) rfl) Qrw)) aC);show T.sh _=T.sh _;rw[Kj,hm];rfl
 .have hm:m4 a c n="new":=by
   unfold m4;rw[if_pos (by simpa [o2] using d)]
  apply aU (bD (aj Qbo (aj (cM (aX Qac (au (cZ (au (eZ Qbx ao ⟨Wk,Wk⟩)) ao Wk)) (eS _ e1 We)) rfl) Qrw)) aC);show T.sh _=T.sh _;rw[Kj,hm];rfl
noncomputable def Ju:FG FH ["item","source","many","names"] [] (ak FD):=fG
abbrev FI:=top 75
abbrev FJ:=Int×Int×Nat×Nat
noncomputable abbrev FL:At:=["item","boxes","many","pick","one","other"]
def yb:FJ->BB:=λ(a,c,n,m)=>[.tup [.int a,.int c],.int n,.int m]
def rT:FJ->Prop:=λ(a,c,n,m)=>n<=1000/\0<m/\m<=1000
def yc:FJ->T:=λ(a,c,n,m)=>(.sh (YT a c n m):T)
structure adF(X:Cx)(CL:BM):Prop extends EL X FL ["_law_number_by"],fY X.K X.mg CL where
 jn:Fc X CL "_law_number_by" 1 1 gA gB gC
theorem adG(E:adF X CL) :
  kD X CL b FI FL yb rT yc:=by
 rintro⟨a,c,n,m⟩ h;obtain⟨h1,j,i⟩:=h;have q1:=lj (a / 8) (show 6≠0 by decide);apply aG E.g Qat (eZ Qbx ao ⟨Wk,Wk⟩);refine eO (Vt QmM ao).1 (λd=>?_) (λd=>ai ?_)
 .have e:=iw d;apply aU (bD (aj (cM (aX (bQ (lX QiN aC)) (au (tK QmM ao)) (eS (f:=D.str) (l:=["open","shut"]) _ We (by show a / 8 % 6-4<2;lia))) rfl) (aj (cZ Qbx Q3 We) aL)) aC);show T.sh _=T.sh _;rw[YT,ec e]
 .have e:=ky d;refine aG E.g Qau (bD (aj (tK (au (cZ (au (eZ Qac ao ⟨Wk,Wk⟩)) Qnb We)) ao) (aj (c_ (c) E.jn QP (ah Qbx aF) QoS rfl) aL)) aC) ?_;refine aG E.g Qay (bD (aj (tK (au (cZ (au (eZ Qac ao ⟨Wk,Wk⟩)) Qnb We)) ao) (aj (c_ Qsl E.jn QP (ah (au (cZ (au (Ec Qbx ao (.inr ⟨Wk,Wk⟩))) ao Wk)) aF) QoS rfl) aL)) aC) ?_;apply aU (bD (aj (cM (aX (bQ (lX (aj dH (aj dH QiN)) aC)) QmM (eS (f:=D.str) (l:=["<","<=","=","!="]) _ q1 (by show a / 8 % 6<4;lia))) rfl) Qk7) aC);show T.sh _=T.sh _;rw[YT,bS e];rfl
noncomputable def Jv:FG FL ["item","boxes","many"] ["_law_number_by"] (ak FI):=fG
abbrev Br:=top 76
abbrev Bs:=Cn×Nat×Nat×At
noncomputable abbrev Bt:At:=["items","boxes","many","names","ins","outs","ways","item","kind","mood","way"]
def uy:Bs->BB:=λ(l,nb,nm,ns)=>[.lst QnU,.int nb,.int nm,.lst QeV]
def oz:Bs->Prop:=λ(l,nb,nm,ns)=>l.length<=100/\nb<=1000/\(0<nm/\nm<=1000)/\(3<=ns.length/\ns.length<=1000)/\YV ns
def uz:Bs->T:=λ(l,nb,nm,ns)=>(.lst [Nn (C3 nb nm ns l).is,Nn (C3 nb nm ns l).os,mO (C3 nb nm ns l).ws]:T)
structure Y9(X:Cx)(CL:BM):Prop extends EL X Bt ["len","_law_deed_by","_law_way_by","_law_ask_by"],fY X.K X.mg CL where
 Bu:Fc X CL "_law_deed_by" 2 3 uw jm ux
 adH:Fc X CL "_law_way_by" 1 4 x8 rS x9
 adI:Fc X CL "_law_ask_by" 2 3 yb rT yc
theorem Za(E:Y9 X CL) :
  kD X CL b Br Bt uy oz uz:=by
 rintro⟨l,nb,nm,ns⟩ h;obtain⟨hl,C,⟨v,hm⟩,⟨F,hs⟩,hn⟩:=h;have t:0<ns.length:=by lia
 refine aG E.g Qau Qtt ?_;refine aG E.g Qay Qtt ?_;refine aG E.g Qa0 QaZ ?_;refine fK E.g QcA (λj U=>∃s r c a,U=[some Qvm,some (.sh (.int nb)),some (.sh (.int nm)),some (.sh (.lst QeV)),some (Nn ((l.take j).foldl QdV oa).is),some (Nn ((l.take j).foldl QdV oa).os),some (mO ((l.take j).foldl QdV oa).ws),s,r,c,a])
  (c7 QaE) ⟨_,_,_,_,rfl⟩ (λj U ⟨_,_,_,_,e⟩=>by subst e;exact hT rfl) ?turn ?fin
 case turn=>
  rintro j d U K ⟨s,r,c,a,rfl⟩;obtain⟨p,J,rfl⟩:=Ww K;have ok:=Lf (nb:=nb) (nm:=nm) hn v QnT 0 oa (SD _ _);rw[Nat.zero_add]at ok;have I:(l.take j).length<=100:=by rw[l9];lia
  show cG X CL b _ _ {nx:=λU=>∃s r c a,U=[_,_,_,_,some _,some _,some _,s,r,c,a],rt:=_,bk:=_,ct:=_};rw[gw J,He];generalize (l.take j).foldl QdV oa=o at ok ⊢;show cG X CL b _ _ {nx:=λU=>∃s r c a,U=[_,_,_,_,some (Nn (qz nb nm ns o p).is),some (Nn (qz nb nm ns o p).os),some (mO (qz nb nm ns o p).ws),s,r,c,a],rt:=_,bk:=_,ct:=_};obtain⟨is,os,ws⟩:=o;obtain⟨n0,n1,n2,ii,oo,wl,ww⟩:=ok;dsimp only at n0 n1 n2 ii oo wl ww;refine aG E.g Qit (cZ (aZ QdQ ao rfl) ao Wk) ?_;refine aG E.g (E.ll 9) (tK (au (cB (cq ..) E.e7 Qcv QP)) ao) ?_;have B:((is.map D.tup).map T.sh).length=is.length:=by rw[cq,cq]
  have A:((os.map D.tup).map T.sh).length=os.length:=by rw[cq,cq]
  have x:((ws.map WY.d).map T.sh).length=ws.length:=by rw[cq,cq]
  refine eO (Ef QdT ao).1 (λk=>?_) (λk=>?_)
  .have k:p.1 % 8<3:=iw k;refine iJ (E.ll 4).1 rfl QdR rfl (by rw[B];lia) ?_;refine iJ (E.ll 5).1 rfl QdR rfl (by rw[A];lia) (ai (ai ?_));rw[qz,ec k,<- OY,<- OY];exact⟨_,_,_,_,rfl⟩
  have k:¬ p.1 % 8<3:=ky k;refine eO (fq QdT ao).1 (λn=>?_) (λn=>?_)
  .have n:p.1 % 8=3:=iw n;have m:=(ii _ (zP [] n0));have G:=m.l1;refine EA (kZ (cM (aX Qcv QeW (Tn [] n0)) (Fo m)) (bD (aj (c_ ((p.1,p.2,nb,ns)) E.Bu Q1 QlC (by dsimp only [jm];exact(⟨C,t,hs⟩)) (by exact(mU p.1 p.2 nb hn).im)) aL) aC) (by intro z;cases z) (Nat.le_of_lt (bB (by rw[List.length_singleton];lia)))) Qh3 QeW rfl rfl (by rw[B];exact Th n0) (ai (ai (ai ?_)));rw[qz,bS k,ec n,<- WD];exact⟨_,_,_,_,rfl⟩
  have n:¬ p.1 % 8=3:=ky n;refine eO (fq QdT ao).1 (λq=>?_) (λq=>?_)
  .have q:p.1 % 8=4:=iw q;have m0:0<os.length:=by lia
   have m:=(oo _ (zP [] m0));have G:=m.l1;rw[<- n2];refine EA (kZ (cM (aX Qcy QeW (Tn [] m0)) (Fo m)) (bD (aj (c_ ((p.1,p.2,nb,ns)) E.Bu Q1 QlC (by dsimp only [jm];exact(⟨C,t,hs⟩)) (by exact(mU p.1 p.2 nb hn).im)) aL) aC) (by intro z;cases z) (Nat.le_of_lt (bB (by rw[List.length_singleton];lia)))) (cK (E.ll 5).1 rfl) QeW rfl rfl (by rw[A];exact Th m0) (ai (ai (ai (ai ?_))));rw[qz,bS k,bS n,ec q,<- WD];exact⟨_,_,_,_,rfl⟩
  have q:¬ p.1 % 8=4:=ky q;have H:∀{z:Bool},tM Qtu Qdc=z->z=false->0<ws.length:=λe z=>by
   subst z;rw[Lg]at e;have:=ky e;exact zd.2 λw=>this (by rw[w];rfl)
  refine eO (p:=decide (p.1 % 8=5) || (tM Qtu Qdc || !decide _)) (qK (Cd (fq QdT ao).1 (λ_=>Cd (Kg E.u QdI (bQ QaZ) (amv ww) (tU [])).1 (λhz=>AG (Ed (aZ (aX QdI QbA (Fp vh (H rfl hz))) ao rfl) QeW).1)))) (λi=>?_) (λi=>?_)
  .have i:p.1 % 8=5\/ws=[]\/(sO ws).src≠(is.length:Int)-1:=by
    rw[Lg,Bool.or_eq_true,Bool.or_eq_true,u6]at i;obtain h|h|h:=i
    .exact .inl (iw h)
    .exact .inr (.inl (List.map_eq_nil_iff.1 (iw h)))
    .exact .inr (.inr (ky h))
   refine iJ (E.ll 6).1 rfl (aQ (c_ ((p.1,p.2,(is.length:Int)-1,nm,ns)) E.adH QaC (ah QdQ (ah QeW Qi4)) (by dsimp only [rS];exact(⟨hm,F,hs⟩)) rfl) rfl) rfl (by rw[x];lia) (ai (ai (ai (ai (ai ?_)))));rw[qz,bS k,bS n,bS q,ec i,<- ado];exact⟨_,_,_,_,rfl⟩
  have i:¬ (p.1 % 8=5\/ws=[]\/(sO ws).src≠(is.length:Int)-1):=by
   rw[Lg,Bool.or_eq_false_iff,Bool.or_eq_false_iff,GY]at i;obtain⟨a1,a2,a3⟩:=i;rintro(h|h|h)
   .exact ky a1 h
   .exact ky a2 (by rw[h];rfl)
   .exact h (iw a3)
  have f:0<ws.length:=zd.2 λz=>i (.inr Qck);have m:=ww _ (zP vh f);have e1:=m.l1;have e2:=m.l2;refine eO (fq QdT ao).1 (λy=>?_) (λy=>?_)
  .have y:p.1 % 8=6:=iw y;refine aG E.g (E.ll 10) Qqs ?_;refine EA (aQ (kZ (kZ (qT Qgj (by exact atE) lV Qfs) (bD (aj (kZ QuD (bD (aj (c_ ((p.1,p.2,nb,nm)) E.adI QaJ (ah QdQ Qpq) (by dsimp only [rT];exact(⟨C,v,hm⟩)) (by exact(OX p.1 p.2 nb v).im)) aL) aC) (by intro z;cases z) (Nat.le_of_lt (bB (by rw[List.length_singleton];lia)))) aL) aC) (by intro z;cases z) aC) (qT Qgj (by exact OC) Qfs lV) (by intro z;cases z) aC) rfl) QuE QbA rfl rfl (by rw[x];exact Lh f) (ai (ai (ai (ai (ai (ai ?_))))));rw[qz,bS k,bS n,bS q,bS i,ec y,<- WG];exact⟨_,_,_,_,rfl⟩
  .have y:¬ p.1 % 8=6:=ky y;refine aG E.g (E.ll 10) Qqs ?_;refine EA (aQ (kZ (kZ (qT Qgj (by exact atF) lV Qfs) (bD (aj (kZ QuD (bD (aj (c_ ((p.1,p.2,nb,ns)) E.Bu Q1 QlC (by dsimp only [jm];exact(⟨C,t,hs⟩)) (by exact(mU p.1 p.2 nb hn).im)) aL) aC) (by intro z;cases z) (Nat.le_of_lt (bB (by rw[List.length_singleton];lia)))) aL) aC) (by intro z;cases z) aC) (qT Qgj (by exact atG) Qfs lV) (by intro z;cases z) aC) rfl) QuE QbA rfl rfl (by rw[x];exact Lh f) (ai (ai (ai (ai (ai (ai ?_))))));rw[qz,bS k,bS n,bS q,bS i,bS y,<- WG];exact⟨_,_,_,_,rfl⟩
 case fin=>
  rintro U ⟨s,r,c,a,rfl⟩;rw[cq,ka];exact aU (cu (aH QgB (aH QnD Qs6)) aC) rfl
noncomputable def FN:FG Bt ["items","boxes","many","names"] ["len","_law_deed_by","_law_way_by","_law_ask_by"] (ak Br):=fG
noncomputable def sT(s:AT):Int:=if 82<(s.length:Int) then 82 else s.length
theorem S7(s:AT):0<=sT s/\sT s<=82/\sT s<=s.length:=by
 unfold sT;split<;>lia
def Kz(s:AT)(k:Int):Int×Int:=(s.getD k.toNat 0,jC s Qao)
def nB(s:AT):Cn:=(List.range (qV 2 (sT s))).map λ(i:Nat)=>Kz s (2+(i:Int)*2)
theorem FP(s:AT):(nB s).length<=40:=by
 have:=S7 s;unfold nB qV;rw[cq,kr];lia
def q5(s:AT):Int:=jC s 1 / 5
def fz(s:AT):AT:=D4 (nB s)
def FQ(s:AT):At:=Kk s ((fz s).length+4)
def Ki(s:AT)(ns:At)(k:Int):Str×Int:=(ns.getD k.toNat Str.empty,Lc (jC s (3+2*k)))
def v7(s:AT):List QjG:=(List.range (q5 s % 4).toNat).map λ(k:Nat)=>Ki s (FQ s) (0+(k:Int))
def mn(s:AT):AT:=[q5 s / 4]++Ff (nB s)
def FT(s:AT):OW:=C3 (v7 s).length (fz s).length (FQ s) (nB s)
def sy(s:AT):At:=(FQ s).take (fz s).length
def amK(s:AT):D:=Tu ((v7 s).map qx) (sy s) (jf (fz s) (mn s) (fz s).length) (fz s) (iF (fz s) (mn s) (fz s).length) ((FT s).is.map .tup) ((FT s).os.map .tup) ((FT s).ws.map WY.d)
theorem FU(s:AT):0<(fz s).length/\(fz s).length<=41/\(mn s).length=(fz s).length:=by
 have a:=(WB (nB s)).2;have c:=qy (nB s);have d:=FP s;have e:=xO (nB s);unfold fz mn;rw[iq,kv];lia
def Pg(s:AT):(FQ s).length=(fz s).length+4:=Fd _ _ _
def WT(s:AT):∀x∈FQ s,x.length<=21/\PyData.strOk x=true:=Wy _ _ _
theorem ahF(s:AT):(sy s).length=(fz s).length:=by
 have:=Pg s;unfold sy;rw[l9];lia
theorem Ph(s:AT):(v7 s).length<=3:=by
 have a:=lj (q5 s) (show(4:Int)≠0 by decide);have c:=lL (q5 s) (show(0:Int)<4 by decide);unfold v7;rw[cq,kr];lia
noncomputable def S8(s:AT):YV (FQ s):=⟨λx a=>(WT s x a).1,λx a=>(WT s x a).2⟩
theorem S9(s:AT):Ld (v7 s).length (fz s).length 40 (FT s):=by
 have a:=Lf (nb:=(v7 s).length) (nm:=(fz s).length) (S8 s) (FU s).1 (nB s) 0 oa (SD _ _);have c:=FP s;rw[Nat.zero_add]at a;have up:∀(n k:Nat) (o:OW),Ld (v7 s).length (fz s).length k o->Ld (v7 s).length (fz s).length (k+n) o:=by
  intro n
  induction n with
  | zero=>
   intro k o h;exact h
  | succ n b=>
   intro k o h;obtain⟨n0,n1,n2,ii,oo,wl,ww⟩:=b k o h;exact⟨n0,nz n1,n2,λl hl=>(ii l hl).up,λl hl=>(oo l hl).up,nz wl,λw hw=>(ww w hw).up (hI _)⟩
 have:=up Qtv _ _ a
 rwa [show(nB s).length+Qtv=40 by lia]at this
def adJ(l:List QjG):D.aY (l.map qx)=true:=gU QcB _
def Pj(l:Q8)(n:Nat):cutD l none (some (n:Int))=l.take n:=by
 unfold cutD;rw[HT.afr];show(l.drop 0).take (min n l.length-0)=_;rw[List.drop_zero,Nat.sub_zero,<- List.take_eq_take_min]
abbrev rV:=top 78
abbrev yd:=AT
noncomputable abbrev ye:At:=["script","head","items","elders","names","boxes","shapes","owns"]
noncomputable def mj:yd->BB:=λs=>[.lst (s.map .int)]
def mq:yd->Prop:=λs=>s.length<=1000
def mw:yd->T:=λs=>(.sh (amK s):T)
structure Tc(X:Cx)(CL:BM):Prop extends EL X ye ["_law_cell_at","range","min","len","_law_elders_by","_law_names_by","_law_kinds_by","_law_owns_by"],fY X.K X.mg CL where
 Pk:Jf X "script"
 ahG:Jf X "names"
 mV:Fc X CL "_law_cell_at" 1 2 n9 oh oi
 Pn:Fc X CL "_law_elders_by" 2 1 pC kE pD
 Td:Fc X CL "_law_names_by" 2 2 rO lZ l0
 Te:Fc X CL "_law_kinds_by" 1 2 rQ mh rR
 Zb:Fc X CL "_law_owns_by" 3 4 uy oz uz
 jn:Fc X CL "_law_number_by" 1 1 gA gB gC
theorem Tf(E:Tc X CL) :
  kD X CL b rV ye mj mq mw:=by
 intro s h;dsimp only [mq,mj,mw]at h ⊢;have hm:=S7 s;have hi:=FP s;obtain⟨e0,e1,e2⟩:=FU s;have n1:=Pg s;refine aG E.g QcH (aQ (eZ (au (c_ ((s,1)) E.mV QP Qo2 (show(0:Int)<=1 by lia) rfl)) ao ⟨Wk,Wk⟩) (t2:=.sh (.int (q5 s))) rfl) ?_;refine Ey (p:=λ_=>true) (gg:=λd=>.sh (oe (Kz s d.qI))) E.g QaD (cH QqN Wf)
  (Yh E.lY (ah ao (ah (Cj (au (afU E.g E.ap7 QaC (ah (au (cB (cq ..) E.e7 Q2 QaJ)) Qje))) (d2:=.int (sT s)) rfl) Qje)) We Q1) QaI (λC s0 e f0 c d hd=>?amL) (ke (bB (by rw[wC,cq,kr];unfold qV;lia))) ?aqc (by exact hT rfl) QeK
 case amL=>
  obtain⟨i,hi,rfl⟩:=hP.1 hd;have hi:=lx.1 hi;unfold qV at hi;exact⟨rfl,λ_=>bD (aj (cM (aX (iK 1) (jl 0) (fU (show(0:Int)<=2+(i:Int)*2 by lia) (show 2+(i:Int)*2<s.length by lia))) rfl)
   (aj (c_ (s,2+(i:Int)*2+1) (lT E.mV) Hj (ah (iK 1) (ah (au (jT (jl 0) ao)) aF)) (show(0:Int)<=2+(i:Int)*2+1 by lia) rfl) aL)) aC⟩
 case aqc=>
 have eq1:((wC 2 (qV 2 (sT s))).filter λ_=>true).map (λd=>T.sh (oe (Kz s d.qI)))=((nB s).map oe).map T.sh:=by
  rw[jk,wC,hW,nB,hW,hW];rfl
 rw[eq1];refine aG E.g Qat (fC (ds:=(fz s).map .int) (c_ (nB s) E.Pn QbD (ah QnE aF) (show(nB s).length<=100 by lia) (aR _))) ?_;refine aG E.g Qau (fC (ds:=(FQ s).map .str) (c_ (s,(fz s).length+4) E.Td Qde (ah Q2 (ah (Cj (au (jT (au (cB (cq ..) E.e7 Qac QaJ)) ao)) (d2:=.int (((fz s).length+4:Nat):Int)) rfl) aF)) (show(fz s).length+4<=100 by lia) (qY _))) ?_;refine Ey (p:=λ_=>true) (gg:=λd=>.sh QsT) E.g Qay (cH (.cons (E.ll 4).1 (.inl E.ahG) QqN) Wf)
  (kX E.lY (au (cZ QU ao Wk)) We Q1) QaI (λC s0 e f0 c d hd=>?adK) (ke (bB (by rw[fH,cq,kr];lia))) ?aqd (by exact hT rfl) QeK
 case adK=>
  obtain⟨i,hi,rfl⟩:=hP.1 hd;have hi:=lx.1 hi;exact⟨rfl,λ_=>bD (aj (cM (aX (iK 1) (jl 0) (eS Str.empty (show(0:Int)<=0+(i:Int) by lia) (show 0+(i:Int)<(FQ s).length by lia))) rfl)
   (aj (c_ (jC s (3+2*(0+(i:Int)))) (lT E.jn) Hj (ah (au (c_ (s,3+2*(0+(i:Int))) (lT E.mV) Hj (ah (iK 2) (ah (au (jT ao (au (Ec ao (jl 0) (.inl ⟨Wk,Wk⟩))))) aF)) (show(0:Int)<=3+2*(0+(i:Int)) by lia) rfl)) aF) trivial rfl) aL)) aC⟩
 case aqd=>
 have eq2:((fH 0 (q5 s % 4).toNat).filter λ_=>true).map (λd=>T.sh QsT)=((v7 s).map qx).map T.sh:=by
  rw[jk,fH,hW,v7,hW,hW];rfl
 rw[eq2];refine aG E.g Qa0 (jx (d:=.lst [.lst ((jf (fz s) (mn s) (fz s).length).map .str),.lst ((iF (fz s) (mn s) (fz s).length).map .int)]) (c_ (fz s,mn s) E.Te Qhb (ah Qac (ah (Cj (bQ (qO (ds:=[.int (q5 s / 4)]) (Ao:=(Ff (nB s)).map .int) (bQ (ds:=[.int (q5 s / 4)]) (cu (aH (eZ QU ao ⟨Wk,Wk⟩) bG) aC))
   (bQ (aQ (nS (p:=λd=>decide (d.N6.qI % 8<3)) (g:=λd=>.sh (.int d.at2.qI)) (cH .nil Wf) E.g.calm (c7 (JJ (E.ll 2).1 rfl)) QaI (λC s0 e f0 c d hd=>?amM) (ke (bB (by rw[cq];lia)))) ?eq3)) rfl (bI _) (ke (bB (by rw[cq,kv,xO];have:=qy (nB s);lia))))) (d2:=.lst ((mn s).map .int)) rfl) aF)) ?atQ ?cl3) ?fr3) ?aqe
 case amM=>
  obtain⟨p,_,rfl⟩:=hP.1 hd;exact⟨(Ef (au (cZ QuF ao Wk)) ao).1,λ_=>(cM QuF rfl)⟩
 case eq3=>
  rw[mB,hW,Ff,hW,hW];rfl
 case atQ=>
  dsimp only [mh];exact⟨We,e2⟩
 case cl3=>
  show T.clean (.lst [_,_])=true;rw[qk,T.dR,T.dR,T.dR,qY,aR];rfl
 case fr3=>
  show T.bU (.lst [_,_])=_;rw[T.bU,T.dz,T.dz,T.dz,bV,bV]
 case aqe=>
 have a:=S9 s;refine aG E.g QcA (jx (d:=.lst [.lst ((FT s).is.map .tup),.lst ((FT s).os.map .tup),.lst ((FT s).ws.map WY.d)]) (c_ (nB s,(v7 s).length,(fz s).length,FQ s) E.Zb (E.gg 7) (ah Q3 (ah (au (cB (cq ..) E.e7 Qcy QaJ)) (ah (au (cB (cq ..) E.e7 Qac QaJ)) (ah Qbk aF)))) ?atR ?cl4) ?fr4) ?aqf
 case atR=>
  dsimp only [oz];have:=Ph s;exact⟨We,We,⟨e0,We⟩,⟨We,We⟩,S8 s⟩
 case cl4=>
  show T.clean Qqt=true;rw[qk,T.dR,T.dR,T.dR,T.dR,Nn,Nn,mO,bT (DG a.ii),bT (DG a.oo),bT (WC a.ww)];rfl
 case fr4=>
  show T.bU Qqt=_;rw[T.bU,T.dz,T.dz,T.dz,T.dz,Nn,Nn,mO,bV,bV,bV]
 case aqf=>
 refine aU (fC (abU (afO (aj (JJ (E.ll 5).1 rfl) (aj (fC (aQ (tN Qbk (m9 _) lV (lW (au (cB (cq ..) E.e7 Qac QaJ)))) (t2:=.lst (((sy s).map .str).map T.sh)) (by rw[zg,Pj];rfl))) (aj QuG (aj Qbc (aj QuG aL)))))) QeS aC)) ?_;rfl
def uA:Q9 (ak rV) ([("script",.cell),("head",b9),("items",b9),("elders",b9),("names",.cell),("boxes",b9),("shapes",b9),("owns",b9),("_law_cell_at",bE),("range",bE),("min",bE),("len",bE),("_law_elders_by",bE),("_law_names_by",bE),("_law_kinds_by",bE),("_law_owns_by",bE)])=true:=by decide +kernel
noncomputable def Pp:cO ye ["script"] (ak rV):=g9
abbrev DJ:=top 19
abbrev LQ:=At×AT×AT×Int
noncomputable abbrev LR:At:=["tree","mood"]
def vJ:LQ->BB:=λ(ks,es,ss,m)=>[dG ks es ss,.int m]
def mW:LQ->Prop:=λ(ks,es,ss,m)=>es.length<=1000
def vK:LQ->T:=λ(ks,es,ss,m)=>(.lst (((jL es m).map .int).map T.sh):T)
structure ahH(X:Cx)(CL:BM):Prop extends EL X LR ["enumerate"],fY X.K X.mg CL where
 SY:Jf X "mood"
def ahI(E:ahH X CL) :
  kD X CL b DJ LR vJ mW vK:=by
 rintro⟨ks,es,ss,m⟩ h;refine aU (Ep (Kp (xs:=["place","elder"]) (.cons (E.ll 1).1 (.inl E.SY) .nil) Wf) E.g.calm
  (N7 0 E.Cz (jv E.iG E.iL QaE nU) QP) QaI (λC s0 c f0 a=>⟨Du (by show List.Nodup (["place","elder","mood"]:At);decide +kernel) E.g.calm Qkb Qkb,λd hd=>?EX⟩) (by rw[cq,kr];exact ke (bB h))) (congrArg _ (acD es m))
 case EX=>
  obtain⟨i,hi,rfl⟩:=hP.1 hd;exact⟨_,rfl,rfl,(fq (jl 1) (iK 2)).1,λ_=>v_ (AY 0)⟩
def Pq:Q9 (ak DJ) ([("tree",b9),("mood",.cell),("enumerate",bE)])=true:=by decide +kernel
noncomputable def adL:cO LR ["tree","mood"] (ak DJ):=g9
abbrev uB:=top 46
abbrev uC:=At×AT×AT×AT×Nat×Str
noncomputable abbrev uD:At:=["tree","memory","mood","mode","kind"]
def pF:uC->BB:=λ(ks,es,ss,mem,m,mode)=>[dG ks es ss,.lst QcY,.int m,.str mode]
def pG:uC->Prop:=λ(ks,es,ss,mem,m,mode)=>es.length<=900/\ks.length=es.length/\ss.length=es.length/\mem.length=es.length/\m<es.length/\xE mode/\∀k:Nat,k<es.length->bf ks k=true\/bF ks k=true\/ks.getD k Str.empty="one"
def kF:uC->T:=λ(ks,es,ss,mem,m,mode)=>(.lst (((Nk Qa8 Qa9 es ss mem (d9 mode || gV mode) m).map .int).map T.sh):T)
structure Pr(X:Cx)(CL:BM):Prop extends EL X uD ["inner"],fY X.K X.mg CL where
 LV:Fc X CL "inner" 1 2 vJ mW vK
theorem Pu(E:Pr X CL) :
  kD X CL b uB uD pF pG kF:=by
 rintro⟨ks,es,ss,mem,m,mode⟩ h;dsimp [kF]at h ⊢;obtain⟨hl,k,hs,hm,n,f,j⟩:=h;apply aG E.g Qau (cM (aX Qic Q3 (eS _ We We)) rfl);refine eO (je Qbk dY).1 (λc=>?_) (λc=>ai ?_)
 .apply aU QaZ;unfold Nk;rw[ec (show bf ks m=true from c)];rfl
 refine eO (je Qbk dY).1 (λd=>?_) (λd=>ai ?_)
 .apply aU (c_ ((ks,es,ss,(m:Int))) E.LV QP (ah Q2 Qlm) ((by dsimp [mW];lia)) (aR _));unfold Nk;rw[bS (λz=>by rw[show bf ks m=false from c]at z;cases z),ec (show bF ks m=true from d)];rfl
 have key:Nk Qa8 Qa9 es ss mem (d9 mode || gV mode) m=[jO ss mem (d9 mode || gV mode) m]:=by
  unfold Nk;rw[bS (λz=>by rw[show bf ks m=false from c]at z;cases z),bS (λz=>by rw[show bF ks m=false from d]at z;cases z)]
 rw[key];have i:(d9 mode || gV mode)=!decide (mode="new"):=by
  obtain e|e|e:=f<;>rw[e]<;>decide +kernel
 refine eO (qK (Cd (je Qac dY).1 (λl=>(AG (fq Qvn QbA).1)))) (λa=>?_) (λa=>ai ?_)
 .apply aU (lX (aj (cM (aX (cI E.iG E.wL Q2 Ow) Q3 QjH) rfl) aL) aC);have e:jO ss mem (d9 mode || gV mode) m=ss.getD (m:Int).toNat 0:=by
   unfold jO;rw[bS (λz=>by
    rw[i]at z;simp at a;obtain w|w:=a
    .rw[kf w]at z;cases z.1
    .exact z.2 w)]
  rw[e];rfl
 .apply aU (lX (aj (cM Qvn rfl) aL) aC);have e:jO ss mem (d9 mode || gV mode) m=mem.getD (m:Int).toNat 0:=by
   unfold jO;simp at a;rw[ec ⟨by rw[i,i3 a.1];rfl,a.2⟩]
  rw[e];rfl
noncomputable def zW:FG uD ["tree","memory","mood","mode"] ["inner"] (ak uB):=fG
abbrev FW:=top 45
abbrev FY:=At×AT×AT×AT×Nat×Str
noncomputable abbrev FZ:At:=["tree","memory","mood","mode","found","further","place"]
def nE:FY->BB:=λ(ks,es,ss,mem,m,mode)=>[dG ks es ss,.lst QcY,.int m,.str mode]
def nF(dd:Nat):FY->Prop:=λ(ks,es,ss,mem,m,mode)=>(es.length<=900/\ks.length=es.length/\ss.length=es.length/\mem.length=es.length/\m<es.length/\xE mode/\∀k:Nat,k<es.length->bf ks k=true\/bF ks k=true\/ks.getD k Str.empty="one")/\eB Qa8 Qa9 es ss mem/\es.length<=m+dd+1
def j7:FY->T:=λ(ks,es,ss,mem,m,mode)=>(.lst (((Jl ks es ss mem mode m).map .int).map T.sh):T)
structure adN(X:Cx)(CL:BM)(dd:Nat):Prop extends EL X FZ ["opened_in","opened"],fY X.K X.mg CL where
 Pw:Fc X CL "opened_in" 2 4 pF pG kF
 qB:∀d',d'<dd->Fc X CL "opened" (3+d') 4 nE (nF d') j7
theorem adO{dd:Nat}(E:adN X CL dd) :
  kD X CL b FW FZ nE (nF dd) j7:=by
 rintro⟨ks,es,ss,mem,m,mode⟩ h;dsimp [j7]at h ⊢;obtain⟨B,f,L⟩:=h;have x:=B;obtain⟨hl,I,hs,hm,y,H,v⟩:=B;have u:Jl ks es ss mem mode m=(m:Int)::(Nk Qa8 Qa9 es ss mem (d9 mode || gV mode) m).flatMap Qhs:=by
  unfold Jl;rw[Oz f _ QdU y We We,j3]
 rw[u];apply aG E.g Qau (lX Qjt aC);refine aG E.g Qay (akY (t:=.sh (.str Qhy)) (je Qac dY).1 (λr=>aQ dH (by rw[ec (show d9 mode=true from r)])) (λr=>aQ dH (by rw[bS (λz=>by rw[show d9 mode=false from r]at z;cases z)]))) ?_;have C:xE Qhy:=by
  split
  .exact .inr QaI
  .exact .inl rfl
 have n:d9 Qhy=d9 mode:=by
  cases e:d9 mode with
  | true=>decide +kernel
  | false=>decide +kernel
 have l:gV Qhy=false:=by
  cases e:d9 mode with
  | true=>decide +kernel
  | false=>decide +kernel
 generalize K:(if d9 mode=true then("far":Str) else "new")=A at C n l ⊢;have i:∀p∈Nk _ _ es ss mem (d9 mode || gV mode) m,p∈jL es m:=λp G=>qw f y G;have c:=zH f (far:=d9 mode) (near:=gV mode) (d:=es.length+1) y;rw[j3]at c;generalize w:Nk _ _ es ss mem _ m=a at i c ⊢;refine fK E.g Qa0 (λj U=>∃o,U=[some _,some _,some _,some _,some (.lst ((((m:Int)::(a.take j).flatMap (λp=>j3 Qa8 Qa9 es ss mem Qkh es.length false p)).map _).map _)),some _,o])
  (c7 (fC (aQ (t2:=T.lst ((a.map _).map _)) (c_ ((ks,es,ss,mem,m,mode)) E.Pw QP (ah Q2 (ah QU Qi4)) (x) (aR _)) (by rw[<- w];rfl)))) ⟨_,rfl⟩ (λj U ⟨_,e⟩=>by subst e;exact hT rfl) ?turn ?fin
 case turn=>
  rintro j d U J ⟨o,rfl⟩;obtain⟨p,rfl,_,s,R,_,O⟩:=jW J;have P:=cg f.pre (i p s);obtain⟨q,rfl⟩:∃q:Nat,p=q:=⟨p.toNat,We⟩;have F:=zH f (far:=d9 mode) (near:=false) (d:=es.length) (k:=q) We;have hpl:(((m:Int)::(a.take j).flatMap Qhs).length)<=es.length:=by
   refine jq ?_ c;apply Nat.succ_le_succ;have M:=wi j a
   conv=>rhs;rw[<- M]
   rw[ro,iq];lia
  refine tS (E.ll 4).1 rfl (Sh (bQ (c_ (ks,es,ss,mem,q,A) (E.qB (dd-1) We) Q1 (ah Q2 (ah QU (ah QbC (ah Qa1 aF)))) (⟨⟨hl,I,hs,hm,We,C,v⟩,f,We⟩) (aR _))) (bI _)) rfl ?len (ai ?_)
  case len=>
   rw[cq,cq,cq];show _+(j3 _ _ es ss mem _ _ _ q).length<=_;lia
  have N:(((m:Int)::(a.take j).flatMap Qhs).map D.int).map T.sh++((Jl ks es ss mem A q).map D.int).map T.sh=(((m:Int)::(a.take QR).flatMap Qhs).map D.int).map T.sh:=by
   unfold Jl;rw[n,l,O];simp
  rw[N];exact⟨_,rfl⟩
 case fin=>
  rintro U ⟨o,rfl⟩;rw[cq,ka];exact aU QgB rfl
noncomputable def Bv:FG FZ ["tree","memory","mood","mode"] ["opened_in","opened"] (ak FW):=fG
abbrev Bw:=top 58
abbrev By:=BB×BB×D×Dx×BB×BB×AT
noncomputable abbrev BD:At:=["chart","come","rows","mood"]
def oA:By->BB:=λ(bs,nm,tr,is,os,ws,a)=>[eU bs nm tr Qn5 os ws,.lst QgR]
def lg:By->Prop:=λ(bs,nm,tr,is,os,ws,a)=>rA is/\a.length<=1000/\∀m∈a,0<=m/\m<is.length
def lq:By->T:=λ(bs,nm,tr,is,os,ws,a)=>(.lst ((inR is a).map T.sh):T)
theorem Zc(E:Dh BD [] X CL) :
  kD X CL b Bw BD oA lg lq:=by
 rintro⟨bs,nm,tr,is,os,ws,a⟩ h;dsimp [lq]at h ⊢;obtain⟨c,hl,l⟩:=h;apply aG E.g QaD QaZ;refine fK E.g Qat (λj U=>∃o,U=[some _,some _,some (.lst ((inR is (a.take j)).map T.sh)),o])
  (c7 Qbo) ⟨_,rfl⟩ (λj U ⟨_,e⟩=>by subst e;exact hT rfl) ?turn ?fin
 case turn=>
  rintro j d U k ⟨o,rfl⟩;obtain⟨m,rfl,_,hm,p,_,n⟩:=jW k;obtain⟨m0,m1⟩:=l m hm;have i:=(A8 c (a.take j)).1;have f:(a.take j).length<=j:=by simp;lia
  obtain⟨g1,g2⟩:=c.get _;apply iJ (E.ll 2).1 rfl QrJ rfl (by rw[cq];lia);refine tS (E.ll 2).1 rfl (Sh (aX (cI E.bN E.Cy Q2 Yz) Qac (eS [] m0 m1)) g2) rfl (by rw[iq,cq,kv];lia) (ai ⟨some QnJ,?_⟩);rw[n,acN,h7,h5];rfl
 case fin=>
  rintro U ⟨o,rfl⟩;rw[cq,ka];exact aU QeR rfl
noncomputable def F0:FG BD ["chart","come"] [] (ak Bw):=fG
abbrev LW:=top 53
abbrev LX:=BB×BB×At×AT×AT×Dx×BB×BB
noncomputable abbrev LY:At:=["chart","memory","opens"]
def BE:LX->BB:=λ(bs,nm,ks,es,ss,is,os,ws)=>[eU bs nm Qa6 Qn5 os ws]
def BF:LX->Prop:=λ(bs,nm,ks,es,ss,is,os,ws)=>nm.length=es.length/\0<es.length/\es.length<=40/\ks.length=es.length/\ss.length=es.length/\is.length=es.length/\rA is/\(∀k:Nat,k<es.length->bf ks k=true\/bF ks k=true\/ks.getD k Str.empty="one")/\eB Qa8 Qa9 es ss QhM
def vN:LX->T:=λ(bs,nm,ks,es,ss,is,os,ws)=>(.tup [.lst ((inR is (Jl ks es ss QhM "new" 0)).map T.sh),.lst (((Jl ks es ss QhM "new" 0).map .int).map T.sh),.lst (((List.replicate es.length (-1)).map .int).map T.sh)]:T)
structure ahK(X:Cx)(CL:BM):Prop extends EL X LY ["len","opened","in_rows"],fY X.K X.mg CL where
 qB:Fc X CL "opened" 43 4 nE (nF 40) j7
 BG:Fc X CL "in_rows" 1 2 oA lg lq
theorem ahL(E:ahK X CL) :
  kD X CL b LW LY BE BF vN:=by
 rintro⟨bs,nm,ks,es,ss,is,os,ws⟩ h;dsimp [vN]at h ⊢;obtain⟨d,h0,hl,j,hs,hi,i,e,f⟩:=h;apply aG E.g QcH (aQ (af6 (bQ (lX (aj (fJ ao) aL) aC)) (au (cB d E.e7 (cI E.bN E.wN Q2 OD) QP)) rfl We We (by rw[kA];simp;lia)) (by rw[adt]));have k:(List.replicate _ (-1)).length=es.length:=ui ..;apply aG E.g QaD (aQ (c_ (ks,es,ss,List.replicate _ _,0,("new":Str)) E.qB Q1 (ah QcU (ah QnC (ah ao (ah dY aF)))) (⟨⟨We,j,hs,k,h0,.inl rfl,e⟩,f,We⟩) (aR _)) (t2:=.lst _) rfl);have c:(Jl ks es ss _ "new" 0).length<=es.length:=zH f h0;have a:∀m∈Jl ks es ss _ "new" 0,0<=m/\m<is.length:=λm hm=>by
  have l:=bZ f _ h0 m hm;lia
 generalize Jl ks es ss _ _ 0=ops at c a ⊢;exact aU (oU (aH (aQ (c_ (bs,nm,dG ks es ss,is,os,ws,ops) E.BG QaC (ah Q2 (ah QnE aF)) (⟨i,We,a⟩) (bT (A8 i ops).2)) rfl) (aH QeR (aH Qjc bG))) aC) rfl
noncomputable def Px:FG LY ["chart"] ["len","opened","in_rows"] (ak LW):=fG
noncomputable def BH(l:At)(s:Str):At:=if s∈l then l else l++[s]
def v8(l:At):At:=l.foldl BH []
def Zd(l:At)(s:Str):v8 (l++[s])=BH (v8 l) s:=by unfold v8;rw[He];rfl
def adP{l:At}{s x:Str}:x∈BH l s↔x∈l\/x=s:=by
 unfold BH;split
 .rename_i h;exact⟨.inl,λq=>q.elim id λe=>e▸h⟩
 .simp
def adQ{l:At}{x:Str}:x∈v8 l↔x∈l:=by
 unfold v8;have gen:∀(l acc:At),x∈l.foldl BH acc↔x∈acc\/x∈l:=by
  intro l
  induction l with
  | nil=>intro acc;simp
  | cons y l a=>intro acc;rw[pj,a,adP,fF];exact⟨λh=>by rcases h with(h|h)|h<;>simp[h],λh=>by obtain h|h|h:=h<;>simp[h]⟩
 rw[gen];simp
theorem Py(l:At):(v8 l).length<=l.length:=by
 unfold v8;have gen:∀(l acc:At),(l.foldl BH acc).length<=acc.length+l.length:=by
  intro l
  induction l with
  | nil=>intro acc;simp
  | cons y l a=>
   intro acc;have h1:(BH acc y).length<=acc.length+1:=by unfold BH;split<;>simp
   have:=a (BH acc y);rw[pj,kq];lia
 have:=gen l [];simpa using this
noncomputable def mm(l:At):List Qj0:=l.map λs=>((Sum.inr s:Key),D.bl true)
def ahM(l:At)(s:Str):((mm l).any λa=>decide (a.1=Sum.inr s))=decide (s∈l):=by
 unfold mm
 induction l with
 | nil=>rfl
 | cons y l b=>
  rw[ik,my,b];by_cases h:y=s
  .subst h;simp
  .have h':¬ s=y:=λe=>h e.symm;have c:¬ (Sum.inr y:Key)=Sum.inr s:=λe=>h (Sum.inr.inj e);simp[h',c]
def ahN(l:At)(s:Str):wB (mm l) (.inr s) Qcj=mm (BH l s):=by
 unfold wB;rw[ahM];unfold BH;by_cases h:s∈l
 .rw[ec (kf h),ec h];unfold mm;rw[hW];refine ow λy _=>?_;show(if (Sum.inr y:Key)=Sum.inr s then((Sum.inr y:Key),D.bl true) else((Sum.inr y:Key),D.bl true))=_;split<;>rfl
 .rw[if_neg (by simpa using h),if_neg h];unfold mm;rw[h7];rfl
def adR(l:At):((mm l).map (·.1)).map AU=l.map D.str:=by
 unfold mm;rw[hW,hW];rfl
abbrev LZ:=top 10
abbrev L0:=BB×BB×D×BB×BB×(List (D×Str×BB))
noncomputable abbrev L5:At:=["chart","found","way"]
def BI:L0->BB:=λ(bs,nm,tr,is,os,ws)=>[eU bs nm tr is os (ws.map KC)]
def qC:L0->Prop:=λ(bs,nm,tr,is,os,ws)=>ws.length<=1000
def vO:L0->T:=λ(bs,nm,tr,is,os,ws)=>(.lst (((v8 (ws.map (·.2.1))).map D.str).map T.sh):T)
theorem ahO(E:Dh L5 ["SIGN","list"] X CL) :
  kD X CL b LZ L5 BI qC vO:=by
 rintro⟨bs,nm,tr,is,os,ws⟩ h;dsimp [qC,vO]at h ⊢;apply aG E.g QcH Ks;refine fK E.g QaD (λj U=>∃a,U=[some _,some (.iC (mm (v8 ((ws.map (·.2.1)).take j)))),a])
  (c7 Qev) ⟨_,rfl⟩ (λj U ⟨_,e⟩=>by subst e;exact hT rfl) ?turn ?fin
 case turn=>
  rintro j d U c ⟨a,rfl⟩;obtain⟨w,rfl,hw,_,k,_,_⟩:=jW c;have hl:(mm (v8 ((ws.map (·.2.1)).take j))).length<=1000000:=by
   have h1:=Py ((ws.map (·.2.1)).take j);have i:(mm (v8 ((ws.map (·.2.1)).take j))).length=(v8 ((ws.map (·.2.1)).take j)).length:=by unfold mm;simp
   have f:((ws.map (·.2.1)).take j).length<=j:=by simp;lia
   lia
  refine RW (.inr _) E.u (E.ll 1).1 m7 (aZ Q3 (au (aK E.TC QP)) vY) rfl hl (ai ⟨some (.sh (KC w)),?_⟩);rw[ahN,<- Zd];have e:(ws.map (·.2.1)).take QR=(ws.map (·.2.1)).take j++[w.2.1]:=by
   rw[List.take_succ,ib,hw];rfl
  rw[e];rfl
 case fin=>
  rintro U ⟨a,rfl⟩;rw[List.take_of_length_le Wl];apply aU (abC E.g E.dg (vE (E.ll 1).1 rfl (by rw[T.bU])) Q1);rw[adR]
noncomputable def Pz:FG L5 ["chart"] ["SIGN","list"] (ak LZ):=fG
abbrev pH:=inClass (top 61) 0
abbrev pI:=D×Nat×World
noncomputable abbrev pJ:At:=["self","chart","most"]
def sP:pI->BB:=λ(cd,mo,w)=>[cd,.int mo]
def sQ:pI->Prop:=λ(cd,mo,w)=>True
def sR:pI->BS:=λ(cd,mo,w)=>(Np cd mo w ⟨[],[],8*mo⟩:BS)
def Hs(E:Dh pJ ["ROWS_FOR_A_FLAT"] X CL)(cd:D)(mo:Nat)(w:World)(y:Addr)(h:True) :
  cG X CL b (bJ pH) (Kl pJ y "Growth" [cd,.int mo]) {nx:=λU=>U[0]? = some (some (.pin y (.ins "Growth" (Np cd mo w ⟨[],[],8*mo⟩)))),rt:=λ_ _=>False}:=by
 refine fM E.aS E.gX (E.ll 0).1 (v_ (E.ll 1).1).m rfl QaG ?_;refine fM E.aS E.wO (E.ll 0).1 (v_ (E.ll 2).1).m rfl QaG ?_;refine fM E.aS E.dS (E.ll 0).1 (cu bG aC).m rfl QaG ?_;refine fM E.aS E.iR (E.ll 0).1 agD.m rfl QaG ?_;refine fM E.aS E.pA (E.ll 0).1 Oe.m rfl QaG ?_;refine fM E.aS E.fE (E.ll 0).1 (Ec (au (aK E.zS QP)) Q3 (.inl ⟨Wk,Wk⟩)).m rfl QaG ?_;refine LP (i:=0) _ w rfl (Lq (gy)) (λd hd=>by cases hd) (ai ?_);rfl
noncomputable def nG:FG pJ ["self","chart","most"] ["ROWS_FOR_A_FLAT"] (ak pH):=fG
abbrev eY:=inClass (top 61) 1
abbrev f6:=Addr×D×Nat×World×GS×Pl
noncomputable abbrev cS:At:=["self","opens","memory","flat"]
def cT:f6->Bn:=λ(y,cd,mo,w,s,p)=>[.pin y Qln,.sh Qez,.sh QeA]
def cU:f6->Bn:=λ(y,cd,mo,w,s,p)=>[.pin y QpB,.sh Qez,.sh QeA]
def dU:f6->Prop:=λ(y,cd,mo,w,s,p)=>(s.fl.Nodup/\s.fl.length<=mo/\mo<=900)/\¬ (p∉s.fl/\s.fl.length=mo)
def dW:f6->T:=λ(y,cd,mo,w,s,p)=>(.sh QtN:T)
theorem lO(E:QqC){y:Addr}{w:World}{s:GS}{p:Pl}(h:s.fl.Nodup/\s.fl.length<=mo/\mo<=900)(k:p∉s.fl/\s.fl.length=mo->∃f W,X=Cx.hu f (XE f W)/\dX b W QeF) :
  cG X CL b (bJ eY) (oX cS [.pin y Qln,.sh Qez,.sh QeA]) {nx:=λ_=>False,rt:=λd U=>¬ (p∉s.fl/\s.fl.length=mo)/\d=.sh QtN/\Keeps U [.pin y QpB,.sh Qez,.sh QeA]}:=by
 obtain⟨h1,o,n⟩:=h;have ok:=Tb h1 We;apply LP (i:=0) _ X.w rfl (Lq gy) (Lv s.fl w X.w);unfold Np;rw[adq gy (aho _)];apply aG E.g Qat (bD (aj (mQ E.rD QU (bI _) QP) (aj (mQ E.rD Q3 (bI _) QP) aL)) aC);show cG X CL b _ [some _,some _,some _,some (.sh (v5 p))] _;refine Ek (J:=λU=>¬ (p∉s.fl/\s.fl.length=mo)/\U=[some (.pin y (.ins "Growth" (Bc cd mo (.lst (((Ho s.fl p).map v5).map T.sh)) (.jN X.w ((Ho s.fl p).map v5) (Lp (Ho s.fl p).length)) (.dct QoB) Qm5))),some (.sh Qez),some (.sh QeA),some (.sh (v5 p))]) (agF E.u ok Qac QrK (Ls p) rfl) (λa=>?_) (λa=>?_) ?_
 .have a:=λz=>by rw[u6]at a;exact ky a (DI.2 z)
  have e:=λz=>a (DI.1 z);refine eO (fq (au (cB (cq ..) E.e7 QkI Q1)) (iQ (fL E.aS E.wO Qb8 rfl rfl WK) rfl (gW WK) rfl)).1 (λc=>?_) (λc=>ai ?_)
  .obtain⟨f,W,rfl,l⟩:=k ⟨a,We⟩;exact VN E.g.calm QaC E.xR E.Fw l
  have c:=ky c;apply agJ E.u ok (cB (cq ..) E.e7 QkI Q1) Qpr Qbc rfl (gW gy) (Ls p) e;refine alS (fL E.aS E.dS Qb8 rfl rfl eu) rfl (gW eu) Qbc rfl (gW eu) WE (ai ⟨λz=>c We,?_⟩);unfold Ho;rw[bS a,h7,h7,iq,kv,<- YZ];rfl
 .have a:=by
   rw[GY]at a;exact DI.1 (iw a)
  refine ai ⟨λz=>z.1 a,?_⟩;unfold Ho;rw[ec a]
 rintro U ⟨hn,rfl⟩;obtain⟨b1,b2,b3,q,j⟩:=RI h1 p;have hm:=i0 j;have m:(Ho s.fl p).idxOf p=sM s.fl p:=by
  have:=List.idxOf_lt_length_of_mem hm;apply(Hk this b1).1;rw[iB this,List.getElem_idxOf,j]
 apply LP (i:=0) _ w rfl (Lq gy) (Lv _ X.w w);refine aU (cM (agE E.u (Tb b1 We) (alZ QrK (Lv _ w X.w)) Qac (DI.2 hm) (by show(Lp _)[List.idxOf (v5 p) _]? = _;rw[WL,m];exact ahr b2)) rfl) ⟨hn,rfl,?_⟩;exact US (ds:=[.lst _,.lst _])
def yf(E:QqC) :
  L3.DdM X CL b eY cS cT dU dW cU:=by
 rintro⟨y,cd,mo,w,s,p⟩ h;dsimp only [dU,cT,dW,cU]at h ⊢;exact(lO E h.1 λz=>absurd z h.2).mono QeG λ_ _ z=>z.2
abbrev gY:Type:=Addr×D×Nat×World×GS×Pl
def dh:gY->Bn:=λ(y,cd,mo,w,s,p)=>[.pin y Qln,.sh Qez,.sh QeA]
def di:gY->Prop:=λ(y,cd,mo,w,s,p)=>(s.fl.Nodup/\s.fl.length<=mo/\mo<=900)/\(p∉s.fl/\s.fl.length=mo)
def dm:gY->Str:=λ(y,cd,mo,w,s,p)=>"TooWide"
variable{W:XK}
def v9(E:Dh cS ["tuple","len","TooWide"] Qby CL)(y cd mo w s p)(h:di (y,cd,mo,w,s,p))(a:dX b W (CL (dm (y,cd,mo,w,s,p)))) :
  cG Qby CL b (bJ eY) (oX cS (dh (y,cd,mo,w,s,p))) {nx:=λ_=>False,rt:=λ_ _=>False}:=by
 dsimp only [di,dh,dm]at h a ⊢;exact(lO E h.1 λ_=>⟨X,W,rfl,a⟩).mono QeG λ_ _ z=>absurd h.2 z.1
noncomputable def dw:FG cS ["self","opens","memory"] ["tuple","len","TooWide"] (ak eY):=fG
abbrev kG:=top 27
abbrev pK:=BB×BB×At×AT×AT×BB×BB×BB×AT
noncomputable abbrev pL:At:=["chart","opens"]
def lF:pK->BB:=λ(bs,nm,ks,es,ss,is,os,ws,ops)=>[eU bs nm Qa6 is os ws,.lst Qcd]
def lG:pK->Prop:=λ(bs,nm,ks,es,ss,is,os,ws,ops)=>ops.length<=1000/\∀x∈ops,0<=x/\x<ks.length
def iS:pK->T:=λ(bs,nm,ks,es,ss,is,os,ws,ops)=>(.lst (((Wn ks ops).map .int).map T.sh):T)
structure Ht(X:Cx)(CL:BM):Prop extends EL X pL [],fY X.K X.mg CL where
 jD:Jf X "chart"
def Hu(E:Ht X CL) :
  kD X CL b kG pL lF lG iS:=by
 rintro⟨bs,nm,ks,es,ss,is,os,ws,ops⟩ h;dsimp [iS]at h ⊢;obtain⟨hl,e⟩:=h;refine aU (nS (p:=λd=>OE ks d.qI) (g:=T.sh) QhB E.g.calm (c7 Qbo) QaI (λC s0 i f0 f d hd=>?EX) (Nat.le_of_lt (bB (by simpa using hl)))) ?eq
 case EX=>
  obtain⟨x,c,rfl⟩:=hP.1 hd;obtain⟨x0,a⟩:=e x c;exact⟨(je (aX (cI (by exact E.iG) (by exact E.fZ) (cI (by exact E.bN) (by exact E.cQ) (iK 1) eV) jY) (jl 0) (eS _ x0 a)) dY).1,λ_=>v_ (AY 0)⟩
 case eq=>
  rw[mB,hW,hW];rfl
def uE:Q9 (ak kG) ([("chart",.cell),("opens",b9)])=true:=by decide +kernel
noncomputable def F2:cO pL ["chart","opens"] (ak kG):=g9
abbrev nH:=top 40
abbrev nI:=Hl
noncomputable abbrev nJ:At:=["branch"]
def ig:nI->BB:=λs=>[La s]
def iy:nI->Prop:=λs=>True
def iz:nI->T:=λs=>(.sh (La (Wv s)):T)
def F3(E:Dh nJ ["LEAF","ASKED","PICKED","HELD"] X CL) :
  kD X CL b nH nJ ig iy iz:=by
 intro s h;dsimp only [iy,ig,iz]at h ⊢;exact aU (aQ (bD (aj (jT (aZ Q2 QtO qW) ao) (aj lB (aj (bW QaE (au (aK E.vI Q1)) EC) (aj (bW QaE (au (aK E.qA QaC)) Om) (aj (bW QaE (au (aK E.LC QaJ)) Qno) aL))))) aC) (t2:=.sh (La (Wv s))) rfl) rfl
noncomputable def sS:FG nJ ["branch"] ["LEAF","ASKED","PICKED","HELD"] (ak nH):=fG
abbrev pM:=top 26
abbrev pN:=BB×BB×D×BB×BB×List bO×Nat×bO
noncomputable abbrev pP:At:=["chart","way"]
def lH:pN->BB:=λ(bs,nm,tr,is,os,ws,k,w)=>[eU bs nm tr is os Qa2,.int k]
def iT:pN->Prop:=λ(bs,nm,tr,is,os,ws,k,w)=>ws[k]? = some w/\w.asks.length<=1000/\D.aY w.asks=true/\∀d∈w.asks,∃x r,d=.tup (.str x::r)
def lI:pN->T:=λ(bs,nm,tr,is,os,ws,k,w)=>(.sh (.tup (OQ w.asks)):T)
def Hv(E:Dh pP ["tuple","ASKS"] X CL) :
  kD X CL b pM pP lH iT lI:=by
 rintro⟨bs,nm,tr,is,os,ws,k,w⟩ h;obtain⟨a,hl,hi,c⟩:=h;have e:yO _ k=some (j4 w):=dQ (by rw[ib,a];rfl);refine aU (mQ E.rD (afR (aQ (nS (cH .nil Wf) E.g.calm (RJ (bW (Eh Qev QU e) (au (aK E.TB Q1)) rfl)) QaI (λC s0 i f0 f d hd=>?EX) (ke (bB hl))) rfl) rfl) (fB λd hd=>qp hi d (js.1 hd).1) QP) rfl
 case EX=>
  obtain⟨x,r,rfl⟩:=c d hd;exact⟨(Km (aZ (jl 0) ao qW) (au (bD QiN aC)) rfl rfl).1,λ_=>v_ (AY 0)⟩
noncomputable def uF:FG pP ["chart","way"] ["tuple","ASKS"] (ak pM):=fG
abbrev uG:=top 42
abbrev uH:=Hl×Int
noncomputable abbrev uI:At:=["branch","way","picked"]
def pQ:uH->BB:=λ(s,w)=>[La s,.int w]
def pR:uH->Prop:=λ(s,w)=>s.pk.length<=100000
def pS:uH->T:=λ(s,w)=>(.sh (La (mT s w)):T)
theorem PB(E:Dh uI ["PICKED","LEAF","WAY","ASKED","HELD"] X CL) :
  kD X CL b uG uI pQ pR pS:=by
 rintro⟨s,w⟩ h;have h:s.pk.length<=100000:=h;apply aG E.g QaD (bW QaE (au (aK E.qA QP)) Om);refine Ek (λU=>U=[some Qoj,some (.sh (.int w)),some (.sh (.tup ((jM s.pk w).map .int)))]) (Dt QU Q3 rfl rfl).1 (λa=>?_) (λa=>?_) ?_
 .have e:=by
   rw[u6]at a;exact ky a
  refine aG E.g QaD (Og Qax (bD Qix aC) Qs1 (by rw[cq,kA];show s.pk.length+1<=_;lia)) (ai ?_);unfold jM;rw[bS e,h7];rfl
 .have e:=by
   rw[GY]at a;exact iw a
  apply ai;unfold jM;rw[ec e];rfl
 rintro U rfl;exact aU (aQ (bD (aj (bW QaE QtP qW) (aj (bW QaE (au (aK E.Jt QaC)) vY) (aj (bW QaE (au (aK E.vI QaJ)) EC) (aj Qax (aj (bW QaE Qtw Qd0) aL))))) aC) rfl) rfl
noncomputable def zX:FG uI ["branch","way"] ["PICKED","LEAF","WAY","ASKED","HELD"] (ak uG):=fG
abbrev pT:=top 41
abbrev pU:=Hl
noncomputable abbrev pV:At:=["branch"]
def iU:pU->BB:=λs=>[La s]
def iV:pU->Prop:=λs=>True
def iW:pU->T:=λs=>(.sh (La (ml s)):T)
def Hw(E:Dh pV ["LEAF","WAY","ASKED","PICKED","HELD"] X CL) :
  kD X CL b pT pV iU iV iW:=by
 intro s h;dsimp only [iV,iU,iW]at h ⊢;exact aU (aQ (bD (aj (bW QaE QtO qW) (aj (jT (aZ Q2 (au (aK E.Jt Q1)) vY) ao) (aj (bW QaE (au (aK E.vI QaC)) EC) (aj (bW QaE (au (aK E.qA QaJ)) Om) (aj (bW QaE Qtw Qno) aL))))) aC) (t2:=.sh (La (ml s))) rfl) rfl
noncomputable def uJ:FG pV ["branch"] ["LEAF","WAY","ASKED","PICKED","HELD"] (ak pT):=fG
abbrev uK:=top 43
abbrev uL:=CU×Int×Bool
noncomputable abbrev uM:At:=["held","way","holds","behind"]
def kH:uL->BB:=λ(hl,w,c)=>[.iC (YQ hl),.int w,.bl c]
def gD:uL->Prop:=λ(hl,w,c)=>fP hl w=none/\hl.length<=10000
def kI:uL->T:=λ(hl,w,c)=>(.iC (YQ (hl++[(w,c)])):T)
theorem PD(E:Dh uM ["dict"] X CL) :
  kD X CL b uK uM kH gD kI:=by
 rintro⟨hl,w,c⟩ h;dsimp only [gD,kH,kI]at h ⊢;obtain⟨h1,a⟩:=h;refine aG E.g Qat (abY E.amC QaE QP) ?_;refine RW Qc6 E.u (E.ll 3).1 Qax QU rfl (by unfold YQ;rw[cq];lia) ?_;refine aU (vM (E.ll 3).1) ?_;show T.iC _=T.iC _;rw[ahe c h1]
noncomputable def zY:FG uM ["held","way","holds"] ["dict"] (ak uK):=fG
abbrev BJ:=top 39
abbrev BK:=BB×BB×D×BB×BB×List bO×EU×Hl
noncomputable abbrev BL:At:=["chart","rows","branch","way","asks","held","holding","failing"]
def uN:BK->BB:=λ(bs,nm,tr,is,os,ws,R,s)=>[eU bs nm tr is os Qa2,L1 R,La s]
def uO:BK->Prop:=λ(bs,nm,tr,is,os,ws,R,s)=>s.i<R.length/\s.j<=(R.getD s.i []).length/\(s.qs.length<=1000000/\s.pk.length<=10000/\s.hl.length<=10000)/\(∀l∈R,∀w∈l,0<=w/\w<(ws.length:Int))/\Sx ws
def uP:BK->T:=λ(bs,nm,tr,is,os,ws,R,s)=>(.lst (((nf ws R s).map La).map T.sh):T)
structure Ze(X:Cx)(CL:BM):Prop extends EL X BL ["WAY","len","LEAF","at_next_leaf","number_asks","HELD","with_pick","at_next_way","ASKED","PICKED","with_held"],fY X.K X.mg CL where
 jE:Fc X CL "at_next_leaf" 1 1 ig iy iz
 Hx:Fc X CL "number_asks" 1 2 lH iT lI
 uQ:Fc X CL "with_pick" 1 2 pQ pR pS
 wU:Fc X CL "at_next_way" 1 1 iU iV iW
 CF:Fc X CL "with_held" 1 3 kH gD kI
theorem Zf(E:Ze X CL) :
  kD X CL b BJ BL uN uO uP:=by
 rintro⟨bs,nm,tr,is,os,ws,R,s⟩ h;obtain⟨hi,S,⟨O,P,L⟩,M,C⟩:=h;have G:yO Qrm (s.i:Int)=some _:=(eS [] We We).trans (by rw[ji]);show cG X CL b _ _ {nx:=_,rt:=λr _=>r=T.lst _,bk:=_,ct:=_};unfold nf;have hl:((R.getD s.i []).map D.int).length=(R.getD s.i []).length:=cq ..;have m:s.pk.length<=100000:=by lia
 refine eO (fq Quf (au (cB hl E.e7 Qro Q1))).1 (λa=>?_) (λa=>ai ?_)
 .rw[ec We];exact aU (cu (aH (cF s E.jE QaJ Qjt trivial) bG) aC) rfl
 rw[bS We];have N:s.j<(R.getD s.i []).length:=by lia
 have A:yO ((R.getD s.i []).map D.int) (s.j:Int)=some _:=(fU We We).trans (by rw[ji]);obtain⟨p,I⟩:0<=(R.getD s.i []).getD s.j 0/\(R.getD s.i []).getD s.j 0<(ws.length:Int):=by
  refine M (R.getD s.i []) ?_ _ ?_
  .rw[i4,iB hi];exact pv _
  .rw[i4 (l:=R.getD s.i []),iB N];exact pv _
 refine aG E.g Qat (cM (aX Qro Quf A) rfl) ?_;generalize (R.getD s.i []).getD s.j 0=w at p I ⊢;have t:ws.getD w.toNat w0∈ws:=by
  rw[i4,iB We];exact pv _
 obtain⟨a1,a2,a3,a4⟩:=C _ t;have y:ws[w.toNat]? = some (ws.getD w.toNat w0):=by rw[i4,iB We];rfl
 have v:D.aY ((tu ws w).map zM)=true:=gU QcB _;have K:=C.len w;have F:OQ (ws.getD w.toNat w0).asks=(tu ws w).map zM:=a4;refine aG E.g Qau (aQ (c_ (bs,nm,tr,is,os,ws,w.toNat,ws.getD w.toNat w0) E.Hx QbD (ah Q2 (ah (Cj Qac (congrArg D.int (show w=((w.toNat:Nat):Int) by lia))) aF)) (by dsimp only [iT];exact⟨y,We,a2,a3⟩) (by show D.aY (OQ _)=true;rw[F];exact v)) (by show T.sh (.tup (OQ _))=_;rw[F])) ?_;refine aG E.g Qay (bW Qax (au (aK E.LC Qde)) Qno) ?_;have o:∀{b:Bool},(decide ((((tu ws w).map zM).length:Int)=0))=b->(b=true↔tu ws w=[]):=λe=>by
  subst e;rw[cq,pE];constructor
  .intro z;exact y3 We
  .intro z;rw[z];rfl
 have hv:=ahd s.hl w;cases n:fP s.hl w with
 | some c=>
  have k:xA (YQ s.hl) Qc6=some (.bl c):=by rw[hv,n];rfl
  refine eO (qK (Cd (fq QrL ao).1 (λ_=>AG (qK (ju QhQ (λ_=>kC (lM (cM (af8 Qc6 E.u Qa1 Qac k) rfl)))))))) (λa=>?_) (λa=>ai ?_)
  .rw[k]at a;have B:tu ws w=[]\/some c=some true:=by
    cases c with
    | true=>exact .inr rfl
    | false=>
     rw[we,wb]at a;exact .inl ((o rfl).1 a)
   rw[ec B];exact aU Qpb rfl
  .rw[k]at a;have f:¬ tu ws w=[]:=λz=>by
    rw[(o rfl).2 z]at a;cases a
   have x:c=false:=by
    cases c with
    | true=>rw[Option.isSome_some,yB,Bool.or_true]at a;cases a
    | false=>rfl
   subst x;rw[bS (λz=>z.elim f (λz=>by cases z)),ec rfl];refine eO QhQ (λ_=>?_) (λhz=>by rw[k]at hz;cases hz);exact aU (cu (aH (cF s E.wU (E.gg 7) Qjt trivial) bG) aC) rfl
 | none=>
  have k:xA (YQ s.hl) Qc6=none:=by rw[hv,n];rfl
  refine eO (qK (Cd (fq QrL ao).1 (λ_=>AG (qK (ju (q:=false) QhQ (λhz=>by rw[k]at hz;cases hz)))))) (λa=>?_) (λa=>ai ?_)
  .rw[k]at a;have B:tu ws w=[]:=by
    rw[we,wb]at a;exact(o rfl).1 a
   rw[ec (.inl B)];exact aU Qpb rfl
  .have f:¬ tu ws w=[]:=λz=>by
    rw[(o rfl).2 z]at a;cases a
   rw[bS (λz=>z.elim f (λz=>by cases z)),bS (λz=>by cases z)];refine eO QhQ (λhz=>by rw[k]at hz;cases hz) (λ_=>ai ?_);have H:∀c:Bool,gD (s.hl,w,c):=λc=>by dsimp only [gD];exact⟨n,L⟩
   have J:(tu ws w).map zM≠[]:=λz=>f (List.map_eq_nil_iff.1 z);refine aG E.g Qa0 (jx (d:=La ⟨s.i,s.j,s.qs++tu ws w,s.pk,s.hl++[(w,true)]⟩) (oU (aH QtQ (aH QtR (aH (Og QqD QdE J (by rw[cq,cq,kA];lia)) (aH QqE (aH (aQ (cF (s.hl,w,true) E.CF (E.gg 10) Qrp (H true)) (t2:=.iC (YQ (s.hl++[(w,true)]))) rfl) bG))))) aC) (by
    rw[T.bU,T.dz,T.dz,T.dz,T.dz,T.dz,T.dz,T.bU,T.bU,T.bU,T.bU,T.bU,<- h7];rfl)) ?_
   refine aG E.g QcA (jx (d:=La ⟨s.i,s.j,s.qs,s.pk,s.hl++[(w,false)]⟩) (oU (aH QtQ (aH QtR (aH QqD (aH QqE (aH (aQ (cF (s.hl,w,false) E.CF (E.gg 10) Qrp (H false)) (t2:=.iC (YQ (s.hl++[(w,false)]))) rfl) bG))))) aC) (by
    rw[T.bU,T.dz,T.dz,T.dz,T.dz,T.dz,T.dz,T.bU,T.bU,T.bU,T.bU,T.bU];rfl)) ?_
   exact aU (cu (aH (cF _ E.wU (E.gg 7) (aj QeS aL) trivial) (aH (cF _ E.jE QaJ (aj (cF ((⟨s.i,s.j,s.qs++tu ws w,s.pk,s.hl++[(w,true)]⟩:Hl),w) E.uQ Qhb (aj Qh8 (aj Qbc aL)) (by exact m)) aL) trivial) bG)) aC) rfl
noncomputable def F5:FG BL ["chart","rows","branch"] ["WAY","len","LEAF","at_next_leaf","number_asks","HELD","with_pick","at_next_way","ASKED","PICKED","with_held"] (ak BJ):=fG
abbrev L6:=top 16
abbrev L7:=At×AT×AT×Int
noncomputable abbrev L8:At:=["tree","mood","found","elder"]
def j8:L7->BB:=λ(ks,es,ss,m)=>[dG ks es ss,.int m]
def j9:L7->Prop:=λ(ks,es,ss,m)=>dI es/\0<=m/\m<es.length/\es.length<=1000
def kg:L7->T:=λ(ks,es,ss,m)=>(.lst (((bM es m).map .int).map T.sh):T)
theorem ahP(E:Dh L8 [] X CL) :
  kD X CL b L6 L8 j8 j9 kg:=by
 rintro⟨ks,es,ss,m⟩ h;obtain⟨d,h0,h1,hlen⟩:=h;apply aG E.g QaD QaZ;apply aG E.g Qat (cM (aX Qma QU (fU h0 h1)) rfl);have hm:=d.at h0 h1;apply zj E.g (λn U=>∃(k:Int) (l:AT),U=[some _,some _,some Qrn,some QeT] /\ -1<=k/\k<n/\k<es.length/\l++A2 n es k=bM es m/\l.length+n<=es.length+1) QdU
  ⟨ _,[],rfl,hm.1,We,We,rfl,Wl⟩
 rintro n U ⟨k,l,rfl,k0,k1,k2,k3,i⟩;refine⟨_,_,(Ed Qac QbA).1,λa=>?_,λa=>?_⟩
 .have c:=by simpa using a
  have f:=d.at We k2;cases n with
  | zero=>lia
  | succ n=>
   apply iJ (E.ll 2).1 rfl Qbc rfl WE;apply aG E.g Qat (cM (aX Qma Qac (fU We k2)) rfl);refine ai ⟨n,u5 _,_,l++[k],?_,f.1,We,We,?_,WE⟩
   .simp
   .rw[<- k3,A2,bS c,h5];rfl
 .have c:=by simpa using a
  subst c;have e:l=bM es m:=by
   rw[<- k3];cases n with
   | zero=>rw[A2,hX]
   | succ n=>rw[A2,ec rfl,hX]
  subst e;exact aU QeR rfl
noncomputable def PF:FG L8 ["tree","mood"] [] (ak L6):=fG
abbrev Tg:=top 25
abbrev Ti:=List xM×AT
noncomputable abbrev Tj:At:=["asks","opens","ask"]
def F6:Ti->BB:=λ(l,ops)=>[.tup QoP,.lst Qcd]
def F7:Ti->Prop:=λ(l,ops)=>∀a∈l,a.Kt
def zZ:Ti->T:=λ(l,ops)=>(.sh (.bl (OO ops QoP)):T)
def amO(E:Dh Tj [] X CL) :
  kD X CL b Tg Tj F6 F7 zZ:=by
 rintro⟨l,ops⟩ h;dsimp [zZ]at h ⊢;refine fK E.g QaD (λj U=>∃o,(∀d∈(l.map Ba).take j,YK ops d=true)/\U=[some _,some _,o])
  (RJ QaE) ⟨_,λx t=>by simp at t,rfl⟩ (λj U ⟨_,_,e⟩=>by subst e;exact hT rfl) ?turn ?fin
 case turn=>
  rintro j d U s ⟨o,p,rfl⟩;have w:(l.map Ba).take QR=(l.map Ba).take j++[d]:=by rw[rk,s];rfl
  have n:=i0 s;have no:YK ops d=false->OO ops _=false:=λe=>List.all_eq_false.2 ⟨d,n,by rw[e];decide⟩;obtain⟨a,v,rfl⟩:=hP.1 n;have u:=h a v;have i:YK ops _=true->∀y∈(l.map Ba).take _,YK ops y=true:=λe y f=>by
   rw[w]at f;obtain f|f:=hG.1 f
   .exact p y f
   .exact hU.1 f▸e
  cases a with
  | num mk b1 m1 b2 m2=>
   obtain⟨n1,n2⟩:=ag4 u;refine eO (qK (ju (q:=false) (je Qc0 dY).1 (λr=>absurd (iw r) n1))) (λc=>by simp at c) (λ_=>ai ?_);refine eO (qK (ju (q:=false) (je Qc0 dY).1 (λr=>absurd (iw r) n2))) (λc=>by simp at c) (λ_=>ai (ai ⟨_,i rfl,rfl⟩))
  | Dc op m=>
   have hf:=acT ops op m;refine eO (qK (ju (je Qc0 dY).1 (λ_=>kC (Dt Qc0 QU rfl rfl).1))) (λc=>?_) (λc=>ai ?_)
   .have c:=c;apply aU m7;rw[no];rw[hf];cases op with
    | false=>exact absurd c (by rw[show decide _=false by decide +kernel];simp)
    | true=>rw[Bool.and_eq_true]at c;simpa using c.2
   refine eO (qK (ju (je Qc0 dY).1 (λ_=>kC (Ds Qc0 QU rfl rfl).1))) (λk=>?_) (λk=>ai (ai ⟨_,i ?_,rfl⟩))
   .apply aU m7;rw[no];rw[hf];cases op with
    | true=>exact absurd k (by rw[show decide _=false by decide +kernel];simp)
    | false=>rw[Bool.and_eq_true]at k;simpa using k.2
   .rw[hf];cases op with
    | true=>simpa using c
    | false=>simpa using k
 case fin=>
  rintro U ⟨o,p,rfl⟩;rw[ka]at p;apply aU m7;rw[show OO ops _=true from oD.2 p]
noncomputable def WV:FG Tj ["asks","opens"] [] (ak Tg):=fG
abbrev z7:=top 24
abbrev F8:=BB×BB×At×AT×AT×BB×BB×List bO×AT×Int×Str
noncomputable abbrev F9:At:=["chart","opens","leaf","sign","found","number","way","line"]
def yg:F8->BB:=λ(bs,nm,ks,es,ss,is,os,ws,ops,leaf,sg)=>[eU bs nm Qa6 is os Qa2,.lst Qcd,.int leaf,.str sg]
def yh:F8->Prop:=λ(bs,nm,ks,es,ss,is,os,ws,ops,leaf,sg)=>dI es/\es.length<=900/\0<=leaf/\leaf<es.length/\ws.length<=63/\E5 ws
def rW:F8->T:=λ(bs,nm,ks,es,ss,is,os,ws,ops,leaf,sg)=>(.lst (((tc ws ops sg (leaf::bM es leaf)).map .int).map T.sh):T)
structure adS(X:Cx)(CL:BM):Prop extends EL X F9 ["above","enumerate","SIGN","SOURCE","fits","ASKS","sorted"],fY X.K X.mg CL where
 jD:Jf X "chart"
 amP:Jf X "line"
 mz:Fc X CL "above" 1 2 j8 j9 kg
 amQ:Fc X CL "fits" 1 2 F6 F7 zZ
 lam:x3 X CL "#goable.<locals>.<lambda>" "goable.<locals>.<lambda>"
 dp:X.A.depth<recursionLimit
 rm:eL 1 X.A
theorem adT(E:adS X CL) :
  kD X CL b z7 F9 yg yh rW:=by
 rintro⟨bs,nm,ks,es,ss,is,os,ws,ops,leaf,sg⟩ h;dsimp [rW]at h ⊢;obtain⟨B,hl,f0,f1,A,t⟩:=h;have F:(bM es leaf).length<=es.length+1:=vA _ _ _;have L:([D.int leaf]++(bM es leaf).map _)=(leaf::bM es leaf).map _:=rfl;refine aG E.g QcA (aQ (qO (bQ (ds:=[.int leaf]) (cu (aH Qax bG) aC)) (bQ (c_ (ks,es,ss,leaf) E.mz QP (ah QcU Qlm) (⟨B,f0,f1,We⟩) (aR _))) rfl (bI _) QgV) (t2:=.lst (((leaf::bM es leaf).map .int).map T.sh)) rfl) ?_;generalize leaf::bM es leaf=ln;apply aG E.g Qau QaZ;have H:∀(l:AT) (x:Int),(l.map D.int).map T.sh++[T.sh Qd1]=((l++[x]).map D.int).map T.sh:=by simp
 refine RM E.g (Du E.g.nd E.g.calm Qay Qa0) (λj U=>∃n m,U=[some _,some _,some _,some _,some (.lst ((((tj ws ops sg ln j).map λ(k:Nat)=>(k:Int)).map .int).map T.sh)),n,m,some _])
  (N7 w0 E.Cz Qev Q1) ⟨_,_,rfl⟩ (λj U ⟨_,_,e⟩=>by subst e;intro i hi;simp only[fF,iu,or_false]at hi;obtain rfl|rfl:=hi<;>exact hT rfl) ?turn ?fin
 case turn=>
  rintro j d U C ⟨n,m,rfl⟩;obtain⟨i,rfl,hi,r,v,_,_⟩:=jW C;have G:=by
   rw[List.getElem?_range (by simpa using (List.getElem?_eq_some_iff.1 hi).1)]at hi;exact(j2 hi).symm
  subst G;have v:=lx.1 r;refine⟨_,rfl,?_⟩;obtain⟨w,hw⟩:∃w,ws.getD i w0=w:=⟨_,rfl⟩;have p:w∈ws:=by rw[<- hw,i4,iB v];exact pv _
  obtain⟨al,o,s⟩:=t w p;show cG X CL b _ _ {nx:=λU=>∃n m,U=[_,_,_,_,some _,n,m,_],rt:=_,bk:=_,ct:=_};rw[acU,hw];have J:=K8 ws ops sg ln i;refine eO (qK (ju (je (aZ QbC (au (aK E.TC QaC)) vY) Qac).1 (λ_=>ju (Ds (aZ QbC (au (aK E.zT QaJ)) qW) QnF rfl rfl).1 (λ_=>kC (lM (aQ (c_ (al,ops) E.amQ QbD (ah (Cj (aZ QbC (au (aK E.TB Qde)) EC) (congrArg _ o)) (ah QU aF)) (s) rfl) (t2:=.sh (.bl (OO ops w.asks))) (by rw[o];rfl))))))) (λa=>?_) (λa=>ai (ai ?_))
  .have a:vx ops sg ln w=true:=a;refine iJ (E.ll 4).1 rfl Qbw rfl WE (ai (ai ?_));rw[H,ec a,h7];exact⟨_,_,rfl⟩
  .have a:vx ops sg ln w=false:=a;rw[bS (by rw[a];decide),hX];exact⟨_,_,rfl⟩
 case fin=>
  rintro U ⟨n,m,rfl⟩;rw[cq,kr];have J:=K8 ws ops sg ln ws.length;have K:∀{k:Nat},k∈tj ws ops sg ln _->k<ws.length/\(ws.getD k w0).src∈ln:=λq=>by
   obtain⟨h1,u⟩:=js.1 q;simp only[vx,kx,pE]at u;exact⟨lx.1 h1,u.2.1⟩
  refine aU (aQ (EG (y:="way") (g:=λd=>((YJ ln (ws.getD d.qI.toNat w0).src))) E.lam E.g E.dp E.nA Qhb (cH (.cons (E.ll 0).1 QoC (.cons (E.ll 7).1 (.inl E.amP) .nil)) Wf) Qcv (bI _) WE (λf c s0 N M d hd=>?key)) ?eq) rfl
  case key=>
   obtain⟨x,z,rfl⟩:=hP.1 hd;obtain⟨k,q,rfl⟩:=hP.1 z;obtain⟨k1,k2⟩:=K q;have I:yO Qa2 k=some _:=(eS w0 We We).trans (by rw[ji]);refine au (aQ (abR (Cj (au (v_ (Ky (i:=2) rfl Wf))) (bV _)) (aZ (aX (cI (E.bN) (E.cj) QlE dM) QrZ I) (au (aK (E.zT) (R3 Wf))) qW) (ag3 k2) (λi hi=>ame hi)) ?_);show T.sh _=T.sh (.int ((YJ ln (ws.getD (k:Int).toNat w0).src:Nat):Int));rw[ji]
  case eq=>
   rw[Jj];rfl
def BO:Q9 (ak z7) ([("chart",.cell),("opens",b9),("leaf",b9),("sign",b9),("found",b9),("number",b9),("way",b9),("line",.cell),("above",bE),("enumerate",bE),("SIGN",bE),("SOURCE",bE),("fits",bE),("ASKS",bE),("sorted",bE)])=true:=by decide +kernel
noncomputable def Jw:cO F9 ["chart","opens","leaf","sign"] (ak z7):=g9
theorem WW:∀{l:Co} {n:Nat},n∈l->n<=l.sum
 | [],_,h=>by cases h
 | m::l,n,h=>by
  rw[List.sum_cons];obtain rfl|h:=fF.1 h
  .lia
  .have:=WW h;lia
theorem WX{α:Type}{f:α->Nat}:∀{W:Q8} {M:Nat},W.Pairwise (λa b=>f b<f a)->(∀s∈W,f s<=M)->W.length<=M+1
 | [],_,_,_=>hY _
 | s::W,M,h,k=>by
  rw[l5]at h;have a:=k s gF;cases W with
  | nil=>rw[kv];lia
  | cons t W=>
   have z:=h.1 t gF;have:=WX (M:=M-1) h.2 λx c=>by have:=h.1 x c;lia
   rw[kq];lia
theorem ahQ{R:EU}{s:Hl}(hi:s.i<R.length)(d:s.j<=(R.getD s.i []).length):(nf ws R s).Pairwise Qre:=by
 obtain⟨i,j,q,p,hl⟩:=s;dsimp only at hi d;unfold nf;dsimp only;split
 .exact oC ..
 .split
  .exact oC ..
  .split
   .exact oC ..
   .rw[l5];refine⟨λt c=>?_,oC ..⟩;rw[hU.1 c];generalize (R.getD i []).getD j 0=w;rw[show mT ⟨i,j,q++tu ws w,p,hl++[(w,true)]⟩ w=⟨i,j,q++tu ws w,jM p w,hl++[(w,true)]⟩ from rfl,n6];unfold yP ml;dsimp only;rw[ec hi,eo];lia
abbrev kh:=top 38
abbrev yi:=BB×BB×At×AT×AT×BB×BB×List bO×AT×Str×Nat
noncomputable abbrev nK:At:=["chart","opens","sign","most","rows","found","waiting","branch"]
def mC:yi->BB:=λ(bs,nm,ks,es,ss,is,os,ws,ops,sg,mo)=>[eU bs nm Qa6 is os Qa2,.lst Qcd,.str sg,.int mo]
def jF:yi->Prop:=λ(bs,nm,ks,es,ss,is,os,ws,ops,sg,mo)=>(dI es/\es.length<=900/\ks.length=es.length)/\Qlw/\(ops.length<=30/\∀x∈ops,0<=x/\x<(es.length:Int))/\(vG ws Qer [] [] []).length<=mo/\mo<=1000
def mD:yi->T:=λ(bs,nm,ks,es,ss,is,os,ws,ops,sg,mo)=>(.lst (((vG ws Qer [] [] []).map vW).map T.sh):T)
structure yj(X:Cx)(CL:BM):Prop extends EL X nK ["open_leaves","LEAF","len","further","ASKED","PICKED","TooWide"],fY X.K X.mg CL where
 jD:Jf X "chart"
 ahR:Jf X "opens"
 amR:Jf X "sign"
 Hy:Fc X CL "open_leaves" 1 2 lF lG iS
 Zg:Fc X CL "further" 2 3 uN uO uP
 qD:Fc X CL "goable" 2 4 yg yh rW
theorem CG(E:yj X CL){nm:BB}(h:(dI es/\es.length<=900/\ks.length=es.length)/\Qlw/\(ops.length<=64/\∀x∈ops,0<=x/\x<(es.length:Int))/\mo<=1000)(N:mo<(vG ws Qer [] [] []).length->∃I W,X=Cx.hu I (XE I W)/\dX b W QeF) :
  cG X CL b (bJ kh) (entry nK [eU bs nm Qa6 is os Qa2,.lst Qcd,.str sg,.int mo]) {nx:=λ_=>False,rt:=λJ _=>(vG ws Qer [] [] []).length<=mo/\J=.lst (((vG ws Qer [] [] []).map vW).map T.sh)}:=by
 obtain⟨⟨f,ag,xC⟩,⟨K,O,u⟩,⟨aa,ho⟩,ar⟩:=h;have L:∀x∈Wn ks ops,0<=x/\x<(es.length:Int):=λx j=>ho x (js.1 j).1;have ae:(Wn ks ops).length<=ops.length:=nr _ _;refine Ey (p:=λ_=>true) (gg:=λd=>T.lst (((tc ws ops sg (d.qI::bM es d.qI)).map D.int).map T.sh)) E.g Qau (cH (.cons (E.ll 0).1 QoC (.cons (E.ll 1).1 (.inl E.ahR) (.cons (E.ll 2).1 (.inl E.amR) .nil))) Wf)
  (c7 (fC (aQ (c_ (bs,nm,ks,es,ss,is,os,ws.map j4,ops) E.Hy QP Qif (by exact⟨We,λx j=>xC▸ho x j ⟩) (aR _)) rfl))) QaI (λC s0 H0 f0 b' d hd=>?EX) (ke (bB (by rw[cq];lia))) ?rest (by exact hT rfl) QeK
 case EX=>
  obtain⟨x,j,rfl⟩:=hP.1 hd;obtain⟨x0,x1⟩:=L x j;exact⟨rfl,λ_=>aQ (c_ (bs,nm,ks,es,ss,is,os,ws,ops,x,sg) (lT E.qD) Hj (ah (iK 1) (ah (iK 2) (ah (jl 0) (ah (iK 3) aF)))) (by exact⟨f,We,x0,x1,K,O⟩) (aR _)) rfl⟩
 case rest=>
 have em:(((Wn ks ops).map D.int).filter λ_=>true).map (λd=>T.lst (((tc ws ops sg (d.qI::bM es d.qI)).map D.int).map T.sh))=(Bb ws ops sg es (Wn ks ops)).map λl=>T.lst ((l.map D.int).map T.sh):=by
  rw[jk,hW];unfold Bb;rw[hW];rfl
 rw[em];have k:=ac6 (ws:=ws) (ops:=ops) (sg:=sg) (es:=es) (l:=Wn ks ops);have A:(Bb ws ops sg es (Wn ks ops)).length<=64:=by unfold Bb;rw[cq];lia
 generalize Bb ws ops sg es _=R at k A N ⊢;refine Pt (i:=4) rfl (YR R) ?_;have hM:zO R<=4096:=by
  have h1:=amm (R:=R) λr hr=>(k r hr).2;have h2:R.length*(ws.length+1)<=64*64:=Nat.mul_le_mul A We;lia
 refine aG E.g Qay QaZ ?_;refine aG E.g Qa0 (aQ (cu (aH (jx (oU (aH lB (aH lB (aH QdR (aH QdR (aH Ks bG))))) aC) (by
  rfl)) bG) aC) rfl) ?_
 generalize V:vG ws R [] [] []=Z at N ⊢;refine zj E.g (λn U=>∃(W:List Hl) (F:Qea) (o:FC),U=[some _,some _,some _,some _,some _,some (.lst ((F.map vW).map T.sh)),some (.lst ((W.map La).map T.sh)),o]/\(∀s∈W,xI (zO R) 0 ws R s)/\F++(W.reverse.map Qkp).flatten=Z/\n=(W.map (mN R)).sum/\F.length<=mo/\W.Pairwise Qre) _
  ⟨[⟨0,0,[],[],[]⟩],[],none,rfl,λs hs=>?_,?_,rfl,hY _,oC ..⟩ ?_
 .rw[hU.1 hs];have e:=RS R;exact⟨hY _,hY _,by rw[e];show 0+_<=_;lia,by rw[e];show 0+_<=_;lia,by rw[e];show 0+_<=_;lia⟩
 .show vG ws _ [] [] []++[]=Z;rw[hX,RS,V]
 rintro n U ⟨W,F,o,rfl,P,m,rfl,B,c⟩;have hlen:W.length<=zO R+1:=WX c λs hs=>by have:=(P s hs).p1;lia
 refine⟨_,_,alE QdI,λH=>?_,λH=>?_⟩
 .have G:W≠[]:=λz=>by rw[z]at H;cases H
  obtain⟨W,s,rfl⟩:∃W' s,W=W'++[s]:=⟨W.dropLast,W.getLast G,(List.dropLast_concat_getLast G).symm⟩;have eW:((W++[s]).map La).map T.sh=(W.map La).map T.sh++[T.sh (La s)]:=by simp
  rw[eW];refine alw E.g QcA (alH (E.ll 6).1 rfl) ?_;have hs:=P s (hV _ gF);rw[Ha]at c;have M:=λt f=>c.2.2 t f s gF;have v:=λt f=>P t (hZ _ f);have eR:((W++[s]).reverse.map Qkp).flatten=o7 ws R s++(W.reverse.map Qkp).flatten:=by
   rw[List.reverse_append];rfl
  rw[eR]at m;have q:((W++[s]).map (mN R)).sum=(W.map (mN R)).sum+mN R s:=by
   rw[h7,List.sum_append];show _+(mN R s+0)=_;lia
  have Y:(R.map λl=>D.lst Qcx).length=R.length:=cq ..;have Ra:=hs.q1;have Sd:=hs.p1;have af:=hs.h1;rw[iq]at hlen;refine eO (Ef (aZ QdQ QtP qW) (au (cB Y E.e7 Qbk QaC))).1 (λhc=>?_) (λhc=>?_)
  .obtain⟨g1,g2,g3,g4⟩:=aml hs We (λw=>u.len w);refine tS (E.ll 6).1 rfl (atm (fC (aQ (cF (bs,nm,dG ks es ss,is,os,ws,R,s) E.Zg QaJ (aj QaE (aj QdE (aj QeS aL))) (by exact⟨We,hs.j1,⟨We,We,We⟩,λl hl=>(k l hl).1,u⟩)) rfl))) rfl (by simp only[cq];lia) (ai (ai ?_));refine⟨ _,?_,W++nf ws R s,F,some Qoj,?_,λt f=>?_,?_,rfl,B,?_⟩
   .rw[q,h7,List.sum_append];lia
   .rw[h7,h7];rfl
   .obtain z|z:=hG.1 f
    .exact v t z
    .exact g1 t z
   .rw[<- m,g2,List.reverse_append,h7,List.flatten_append]
   .have g5:=λt f=>by
     have z:=WW (hP.2 ⟨t,f,rfl⟩:mN R t∈(nf ws R s).map (mN R));exact(Nat.pow_lt_pow_iff_right (a:=3) Wk).1 (nk z g3)
    rw[Ha];exact⟨c.1,ahQ We hs.j1,λx j y hy=>Nat.lt_trans (g5 y hy) (M x j)⟩
  .have eX:o7 ws R s=[(s.qs,s.pk)]:=by
    unfold o7;rw[show yP R s=[] by unfold yP;rw[bS We],K9]
   rw[eX]at m;have S:(F.map vW).length=F.length:=cq ..;refine eO (Ef (au (cB S E.e7 Qcy QaC)) Qac).1 (λhd=>?_) (λhd=>?_)
   .refine iJ (E.ll 5).1 rfl (bD (aj (bW QeS (au (aK E.vI QbD)) EC) (aj (bW QeS (au (aK E.qA Qde)) Om) aL)) aC) rfl (by simp only[cq];lia) (ai (ai (ai ?_)));refine⟨ _,?_,W,F++[(s.qs,s.pk)],some Qoj,?_,v,?_,rfl,?_,c.1⟩
    .rw[q];have:0<mN R s:=Nat.pow_pos Wk;lia
    .rw[h7,h7];rfl
    .rw[<- m,h5]
    .rw[iq,kv];lia
   .obtain⟨I,W0,rfl,hE⟩:=N (by rw[<- m];simp only[iq,kv];lia);exact VN (X:=I) E.g.calm Qhb E.xR E.Fw hE
 .have G:W=[]:=by
   cases W with
   | nil=>rfl
   | cons s W=>cases H
  subst G;have e:F=Z:=by rw[<- m];simp
  subst e;exact aU QnD ⟨B,rfl⟩
theorem Tp(E:yj X CL) :
  kD X CL b kh nK mC jF mD:=by
 rintro⟨bs,nm,ks,es,ss,is,os,ws,ops,sg,mo⟩ h;dsimp only [jF,mC,mD]at h ⊢;obtain⟨a,c,⟨d,e⟩,f,g⟩:=h;exact(CG E ⟨a,c,⟨We,e⟩,g⟩ λz=>by lia).mono QeG λ_ _ z=>z.2
abbrev rX:Type:=BB×BB×At×AT×AT×BB×BB×List bO×AT×Str×Nat
def jG:rX->BB:=λ(bs,nm,ks,es,ss,is,os,ws,ops,sg,mo)=>[eU bs nm Qa6 is os Qa2,.lst Qcd,.str sg,.int mo]
def gZ:rX->Prop:=λ(bs,nm,ks,es,ss,is,os,ws,ops,sg,mo)=>(dI es/\es.length<=900/\ks.length=es.length)/\Qlw/\(ops.length<=64/\∀x∈ops,0<=x/\x<(es.length:Int))/\mo<(vG ws Qer [] [] []).length/\mo<=1000
noncomputable def jH:rX->Str:=λ(bs,nm,ks,es,ss,is,os,ws,ops,sg,mo)=>"TooWide"
theorem PJ(E:yj Qby CL)(bs nm ks es ss is os ws ops sg mo)(h:gZ (bs,nm,ks,es,ss,is,os,ws,ops,sg,mo))(e:dX b W (CL (jH (bs,nm,ks,es,ss,is,os,ws,ops,sg,mo)))) :
  cG Qby CL b (bJ kh) (entry nK (jG (bs,nm,ks,es,ss,is,os,ws,ops,sg,mo))) {nx:=λ_=>False,rt:=λ_ _=>False}:=by
 dsimp only [gZ,jG,jH]at h e ⊢;obtain⟨a,c,d,f,g⟩:=h;exact(CG E ⟨a,c,d,g⟩ λ_=>⟨X,W,rfl,e⟩).mono QeG λ_ _ z=>by lia
def fS:Q9 (ak kh) ([("chart",.cell),("opens",.cell),("sign",.cell),("most",b9),("rows",b9),("found",b9),("waiting",b9),("branch",b9),("open_leaves",bE),("LEAF",bE),("len",bE),("further",bE),("ASKED",bE),("PICKED",bE),("TooWide",bE)])=true:=by decide +kernel
noncomputable def oB:cO nK ["chart","opens","sign","most"] (ak kh):=g9
abbrev Ga:=top 18
abbrev Gb:=At×AT×AT×Int×Int
noncomputable abbrev Ge:At:=["tree","mood","other"]
def ki:Gb->BB:=λ(ks,es,ss,m,o)=>[dG ks es ss,.int m,.int o]
def ku:Gb->Prop:=λ(ks,es,ss,m,o)=>dI es/\0<=m/\m<es.length/\es.length<=1000
def kB:Gb->T:=λ(ks,es,ss,m,o)=>(.sh (.bl (decide (o=-1) || decide (o∈bM es m))):T)
structure adU(X:Cx)(CL:BM):Prop extends EL X Ge ["above"],fY X.K X.mg CL where
 mz:Fc X CL "above" 1 2 j8 j9 kg
def adV(E:adU X CL) :
  kD X CL b Ga Ge ki ku kB:=by
 rintro⟨ks,es,ss,m,o⟩ h;exact aU (PU (fq Q3 QbA).2 (λ_=>aa6 (Ds Q3 (bQ (c_ (ks,es,ss,m) E.mz QP Qif h (aR _))) rfl rfl).2)) rfl
noncomputable def Jx:FG Ge ["tree","mood","other"] ["above"] (ak Ga):=fG
abbrev Ma:=top 48
abbrev Tq:=At×AT×AT×AT×Int
noncomputable abbrev Tr:At:=["tree","opens","upper"]
def Gf:Tq->BB:=λ(ks,es,ss,ops,u)=>[dG ks es ss,.lst Qcd,.int u]
def Gg:Tq->Prop:=λ(ks,es,ss,ops,u)=>dI es/\es.length<=1000/\ops.length<=1000/\∀m∈ops,0<=m/\m<es.length
def Gh:Tq->T:=λ(ks,es,ss,ops,u)=>(.lst (((wF es ops u).map .int).map T.sh):T)
structure amS(X:Cx)(CL:BM):Prop extends EL X Tr ["reversed"],fY X.K X.mg CL where
 amT:Jf X "tree"
 Mb:Jf X "upper"
 lu:Fc X CL "within" 2 3 ki ku kB
theorem amU(E:amS X CL) :
  kD X CL b Ma Tr Gf Gg Gh:=by
 rintro⟨ks,es,ss,ops,u⟩ h;obtain⟨a,hl,e,hm⟩:=h;refine aU (nS (p:=λd=>decide (u=-1) || decide (u∈bM es d.qI)) (g:=T.sh) (cH (.cons (E.ll 0).1 (.inl E.amT) (.cons (E.ll 2).1 (.inl E.Mb) .nil)) Wf) E.g.calm
  (ald E.xS Qbo QP) QaI (λC s0 j f0 f d hd=>?EX) QgV) ?eq
 case EX=>
  obtain⟨i,hi,rfl⟩:=hP.1 (wx.1 hd);have c:=hm i hi;exact⟨lM (c_ (ks,es,ss,i,u) (lT E.lu) Hj (ah (iK 1) (ah (jl 0) (ah (iK 2) aF))) (⟨a,We,We,hl⟩) rfl),λ_=>v_ (AY 0)⟩
 case eq=>
  rw[<- List.map_reverse,mB,List.filter_reverse];rfl
def Mf:Q9 (ak Ma) ([("tree",.cell),("opens",b9),("upper",.cell),("reversed",bE)])=true:=by decide +kernel
noncomputable def ahS:cO Tr ["tree","opens","upper"] (ak Ma):=g9
abbrev LO:=top 22
abbrev LM:=At×AT×AT×Int×Int
noncomputable abbrev LL:At:=["tree","one","other","upper"]
def Mg:LM->BB:=λ(ks,es,ss,a,c)=>[dG ks es ss,.int a,.int c]
def Mh:LM->Prop:=λ(ks,es,ss,a,c)=>dI es/\es.length<=1000/\ks.length=es.length/\(0<=a/\a<es.length)/\0<=c/\c<es.length
def DK:LM->T:=λ(ks,es,ss,a,c)=>(.sh (.int (KY QcJ es a c)):T)
structure aqi(X:Cx)(CL:BM):Prop extends EL X LL ["above","within"],fY X.K X.mg CL where
 mz:Fc X CL "above" 1 2 j8 j9 kg
 lu:Fc X CL "within" 2 3 ki ku kB
theorem aqj(E:aqi X CL) :
  kD X CL b LO LL Mg Mh DK:=by
 rintro⟨ks,es,ss,a,c⟩ h;dsimp [DK]at h ⊢;obtain⟨p,hl,z,⟨a0,a1⟩,c0,t⟩:=h;refine fK E.g Qat (λj U=>∃o,(∀x∈(bM es a).take j,Qrq=false)/\U=[some _,some _,some _,o])
  (c7 (fC (c_ (_,_,_,_) E.mz QP Qif ((⟨p,a0,a1,hl⟩)) (aR _)))) ⟨_,λx i=>by simp at i,rfl⟩ (λj U ⟨_,_,e⟩=>by subst e;exact hT rfl) ?turn ?fin
 case turn=>
  rintro j d U m ⟨o,k,rfl⟩;rw[ib]at m;cases i:(bM es a)[j]? with
  | none=>rw[i]at m;cases m
  | some x=>
   rw[i]at m;cases m;have n:=i0 i;have s:=bH p a0 a1 n;have w:=(ko.1 i).1;have v:(bM es a).take QR=(bM es a).take j++[x]:=by rw[rk,i];rfl
   refine eO (qK (ju (je (aX Qic Qac (eS Str.empty We We)) dY).1 (λA=>(kC (lM (c_ (_,_,_,_,_) E.lu Q1 (ah Q2 Qi4) ((⟨p,c0,t,hl⟩)) rfl)))))) (λl=>?_) (λl=>ai (ai ⟨_,?_,rfl⟩))
   .apply aU Qbc;have q:Qrq=true:=by
     have:decide (x=-1)=false:=i3 We;rw[this]at l;exact l
    have:(bM es a).find? (λx=>fW ks x&&decide (x∈bM es c))=some x:=by
     have u:=by
      have r:=wi j (bM es a);rw[wt w]at r;have:=(ko.1 i).2;rw[this]at r;exact r.symm
     conv=>lhs;rw[u]
     rw[List.find?_append,t4.2 (λy f=>by rw[k y f];decide),nt,q];rfl
    show _=T.sh _;unfold KY;rw[this];rfl
   .intro y f;rw[v]at f;obtain f|f:=hG.1 f
    .exact k y f
    .have e:=by simpa using f
     subst e;have:decide (y=-1)=false:=i3 We;rw[this]at l;exact l
 case fin=>
  rintro U ⟨o,k,rfl⟩;rw[cq,ka]at k;apply aU (fJ ao);unfold KY;rw[t4.2 (λy f=>by rw[k y f];decide)];rfl
noncomputable def Tx:FG LL ["tree","one","other"] ["above","within"] (ak LO):=fG
abbrev BP:=top 29
abbrev BQ:=BB×BB×At×AT×AT×BB×BB×List bO×Int
noncomputable abbrev BR:At:=["chart","number","way"]
def ly:BQ->BB:=λ(bs,nm,ks,es,ss,is,os,ws,i)=>[eU bs nm Qa6 is os Qa2,.int i]
def jo:BQ->Prop:=λ(bs,nm,ks,es,ss,is,os,ws,i)=>dI es/\es.length<=1000/\ks.length=es.length/\Qgh/\QhA/\0<=(f9 ws i).ij/\(f9 ws i).ij<es.length
def lz:BQ->T:=λ(bs,nm,ks,es,ss,is,os,ws,i)=>(.sh (.int Qvc):T)
structure Zh(X:Cx)(CL:BM):Prop extends EL X BR ["top","SOURCE","TARGET"],fY X.K X.mg CL where
 aqk:Fc X CL "top" 3 3 Mg Mh DK
def Zi(E:Zh X CL) :
  kD X CL b BP BR ly jo lz:=by
 rintro⟨bs,nm,ks,es,ss,is,os,ws,i⟩ h;obtain⟨d,hl,e,⟨c,i1⟩,hs,a⟩:=h;exact aG E.g QaD (aQ (Eh Qev QU (eS w0 c i1)) rfl) (aU (c_ (ks,es,ss,(f9 ws i).src,(f9 ws i).ij) E.aqk QP (ah QcU (ah (aZ Q3 (au (aK E.zT Q1)) qW) (ah (aZ Q3 QtS Qd0) aF))) (⟨d,hl,e,hs,a⟩) rfl) rfl)
noncomputable def Gi:FG BR ["chart","number"] ["top","SOURCE","TARGET"] (ak BP):=fG
abbrev yk:=top 54
abbrev ym:=BB×BB×At×AT×AT×BB×BB×List bO×AT×AT
noncomputable abbrev yo:At:=["chart","opens","going","gone","number"]
def rY:ym->BB:=λ(bs,nm,ks,es,ss,is,os,ws,ops,gs)=>[eU bs nm Qa6 is os Qa2,.lst Qcd,.lst (gs.map .int)]
def mE:ym->Prop:=λ(bs,nm,ks,es,ss,is,os,ws,ops,gs)=>dI es/\es.length<=1000/\ks.length=es.length/\ops.length<=1000/\(∀m∈ops,0<=m/\m<es.length)/\(∀i∈gs,Qgh/\QhA/\0<=(f9 ws i).ij/\(f9 ws i).ij<es.length)/\((gs.map QbO).flatMap λw=>wF es ops Qcg).length<64
def mF:ym->T:=λ(bs,nm,ks,es,ss,is,os,ws,ops,gs)=>(.lst (((oZ ks es ops (gs.map QbO)).map .int).map T.sh):T)
structure Tt(X:Cx)(CL:BM):Prop extends EL X yo ["left","way_top","sorted"],fY X.K X.mg CL where
 amV:Fc X CL "left" 3 3 Gf Gg Gh
 qE:Fc X CL "way_top" 4 2 ly jo lz
theorem Tv(E:Tt X CL) :
  kD X CL b yk yo rY mE mF:=by
 rintro⟨bs,nm,ks,es,ss,is,os,ws,ops,gs⟩ h;dsimp [mF]at h ⊢;obtain⟨k,hl,p,a,m,r,c⟩:=h;apply aG E.g Qat QaZ;refine fK E.g Qau (λj U=>∃o,U=[some _,some _,some _,some (.lst (((((gs.take j).map QbO).flatMap λw=>wF es ops Qcg).map .int).map T.sh)),o])
  (c7 Qax) ⟨_,rfl⟩ (λj U ⟨_,e⟩=>by subst e;exact hT rfl) ?turn ?fin
 case turn=>
  rintro j d U q ⟨o,rfl⟩;obtain⟨i,rfl,_,hi,u,_,s⟩:=jW q;obtain⟨⟨l,i1⟩,hs,f⟩:=r i hi;have t:(((gs.take j).map _).flatMap _).length<64:=List.map_take▸nk (pe _ _) c;have n:(wF es ops Qvc).length<=1000:=by
   unfold wF;rw[rp];exact jq Qfq a
  refine tS (E.ll 3).1 rfl (Sh (bQ (aQ (c_ (ks,es,ss,ops,jP ks es _) E.amV QP (ah QcU (ah QU (ah (au (aQ (c_ (bs,nm,ks,es,ss,is,os,ws,i) E.qE Q1 Qh5 (⟨k,hl,p,⟨l,i1⟩,hs,f⟩) rfl) rfl)) aF))) (⟨k,hl,a,m⟩) (aR _)) rfl)) (bI _)) rfl (by simp only[cq];lia) (ai ⟨some Qjy,?_⟩);rw[s];simp
 case fin=>
  rintro U ⟨o,rfl⟩;rw[cq,ka];exact aU (RZ E.nA QcZ c QaC) rfl
noncomputable def CJ:FG yo ["chart","opens","going"] ["left","way_top","sorted"] (ak yk):=fG
abbrev rZ:=top 49
abbrev r6:=At×AT×AT×AT×AT×AT
noncomputable abbrev r9:At:=["tree","memory","opens","moods","behind","mood","elder"]
def nL:r6->BB:=λ(ks,es,ss,mem,ops,a)=>[dG ks es ss,.lst QcY,.lst Qcd,.lst QgR]
def jI:r6->Prop:=λ(ks,es,ss,mem,ops,a)=>dI es/\ks.length=es.length/\mem.length=es.length/\(∀m∈ops,0<=m/\m<es.length)/\(∀m∈a,0<=m/\m<es.length)
def nM:r6->T:=λ(ks,es,ss,mem,ops,a)=>(.lst (((n7 QcJ es a mem ops).map .int).map T.sh):T)
theorem Mi(E:Dh r9 ["list"] X CL) :
  kD X CL b rZ r9 nL jI nM:=by
 rintro⟨ks,es,ss,mem,ops,f⟩ h;obtain⟨t,u,hm,p,a⟩:=h;refine aG E.g Qau (cD E.dg QU (bI _) QP aW) ?_;refine fK E.g Qay (λj U=>∃k i,U=[some _,some _,some _,some _,some (.lst (((n7 QcJ es f mem (ops.take j)).map _).map _)),k,i])
  (c7 Qax) ⟨_,_,rfl⟩ (λj U ⟨_,_,e⟩=>by subst e;exact hT rfl) ?turn ?fin
 case turn=>
  rintro j d U r ⟨k,i,rfl⟩;obtain⟨x,rfl,_,l,_,_,s⟩:=jW r;have n:=p x l;have hl:=Wc QcJ es f (ops.take j) mem;apply aG E.g Qa0 (cM (aX Qma Qa1 QjH) rfl);rw[s,acF];unfold EW;generalize es.getD _ 0=q;generalize n7 _ es f mem _=acc at hl ⊢;refine eO (qK (ju (Ds QbC Qac (rfl) rfl).1 (λm=>(kC (je (aX Qic QbC (eS Str.empty (a q (iw m)).1 (by have:=a q (iw m);lia))) dY).1)))) (λc=>?_) (λc=>ai (ai ?_))
  .rw[kx,pE]at c;have o:=a q c.1;have hlen:((acc.map D.int).map T.sh).length=acc.length:=by simp
   refine EA Qbw Qh3 QbC rfl rfl (ala o.1 We) (ai (ai ?_));rw[ec (show q∈f/\fW ks q=true from c),v3,v3];exact⟨_,_,rfl⟩
  .rw[bS (λz=>by
    have:(decide (q∈f)&&decide (ks.getD q.toNat Str.empty="one"))=true:=by
     rw[kx,pE];exact z
    rw[this]at c;cases c)]
   exact⟨_,_,rfl⟩
 case fin=>
  rintro U ⟨k,i,rfl⟩;rw[cq,ka];exact aU QgB rfl
noncomputable def wV:FG r9 ["tree","memory","opens","moods"] ["list"] (ak rZ):=fG
abbrev Tw:=top 21
abbrev Tz:=At×AT×AT×Int×Int
noncomputable abbrev TF:At:=["tree","upper","mood","steps","elder"]
def Gj:Tz->BB:=λ(ks,es,ss,u,m)=>[dG ks es ss,.int u,.int m]
def z8:Tz->Prop:=λ(ks,es,ss,u,m)=>dI es/\0<=m/\m<es.length/\es.length<=1000
def uR:Tz->T:=λ(ks,es,ss,u,m)=>(.lst (((cN es u m).map .int).map T.sh):T)
structure amW(X:Cx)(CL:BM):Prop extends EL X TF ["above","list","reversed"],fY X.K X.mg CL where
 mz:Fc X CL "above" 1 2 j8 j9 kg
theorem amX(E:amW X CL) :
  kD X CL b Tw TF Gj z8 uR:=by
 rintro⟨ks,es,ss,u,m⟩ h;dsimp [z8,uR]at h ⊢;have h':=h;have r:(bM es m).length<=es.length+1:=vA _ _ _;apply aG E.g Qat (lX Qjt aC);refine fK E.g Qau (λj U=>∃o,(∀x∈(bM es m).take j,x≠u)/\U=[some _,some _,some _,some (.lst (((m::(bM es m).take j).map _).map _)),o])
  (c7 (fC (c_ (_,_,_,_) E.mz QP (ah Q2 Qlm) (h') (aR _)))) ⟨_,λx c=>by simp at c,rfl⟩ (λj U ⟨_,_,e⟩=>by subst e;exact hT rfl) ?turn ?fin
 case turn=>
  rintro j d U k ⟨o,i,rfl⟩;rw[ib]at k;cases c:(bM es m)[j]? with
  | none=>rw[c]at k;cases k
  | some x=>
   rw[c]at k;cases k;have v:=(ko.1 c).1;have q:(bM es m).take QR=(bM es m).take j++[x]:=by rw[rk,c];rfl
   refine eO (fq Qbk QU).1 (λl=>afV ?brk) (λl=>ai ?_)
   case brk=>
    have e:=iw l;have f:(bM es m).takeWhile QcT=(bM es m).take j:=by
     have t:=by
      have n:=wi j (bM es m);rw[wt v]at n;have:=(ko.1 c).2;rw[this]at n;exact n.symm
     conv=>lhs;rw[t]
     rw[List.takeWhile_append_of_pos (λy a=>by simpa using i y a),List.takeWhile_cons,if_neg (by simp[e]),List.append_nil]
    apply aU Qp3;unfold cN;rw[f];simp only[List.map_reverse]
   .have e:=ky l;refine iJ (E.ll 3).1 rfl QdE rfl WE (ai ?_);have s:(((m::(bM es m).take j).map D.int).map T.sh)++[T.sh Qd1]=((m::(bM es m).take QR).map D.int).map T.sh:=by rw[q];simp
    rw[s];refine⟨_,λy a=>?_,rfl⟩;rw[q]at a;obtain a|a:=hG.1 a
    .exact i y a
    .have:=by simpa using a
     exact this▸e
 case fin=>
  rintro U ⟨o,i,rfl⟩;apply aU Qp3;rw[cq,ka]at i ⊢;unfold cN;have f:(bM es m).takeWhile QcT=bM es m:=by
   have:=List.takeWhile_append_of_pos (p:=λx=>decide _) (l₂:=[]) (λy a=>by simpa using i y a);simpa using this
  rw[f];simp only[List.map_reverse]
noncomputable def WZ:FG TF ["tree","upper","mood"] ["above","list","reversed"] (ak Tw):=fG
abbrev BU:=top 47
abbrev BV:=At×AT×AT×AT×Int×Nat×Str
noncomputable abbrev BW:At:=["tree","memory","upper","target","mode","steps","found","step","place"]
def oE:BV->BB:=λ(ks,es,ss,mem,u,tg,mode)=>[dG ks es ss,.lst QcY,.int u,.int tg,.str mode]
def oF:BV->Prop:=λ(ks,es,ss,mem,u,tg,mode)=>(es.length<=900/\ks.length=es.length/\ss.length=es.length/\mem.length=es.length/\tg<es.length/\xE mode/\∀k:Nat,k<es.length->bf ks k=true\/bF ks k=true\/ks.getD k Str.empty="one")/\eB Qa8 Qa9 es ss mem/\es.length<=41/\(u=-1\/u∈bM es tg)
def oG:BV->T:=λ(ks,es,ss,mem,u,tg,mode)=>(.lst (((sortI (rf Qa8 Qa9 es ss mem Qkh (gV mode) u tg)).map .int).map T.sh):T)
structure Zj(X:Cx)(CL:BM):Prop extends EL X BW ["road","opened","inner","sorted"],fY X.K X.mg CL where
 amY:Fc X CL "road" 2 3 Gj z8 uR
 qB:Fc X CL "opened" 43 4 nE (nF 40) j7
 LV:Fc X CL "inner" 1 2 vJ mW vK
theorem Zk(E:Zj X CL) :
  kD X CL b BU BW oE oF oG:=by
 rintro⟨ks,es,ss,mem,u,tg,mode⟩ h;dsimp only [oF,oE,oG]at h ⊢;obtain⟨Nm,t,A,L⟩:=h;obtain⟨hl,I,hs,hm,v,P,y⟩:=Nm;have H:=t.pre.1;have O:dI es/\(0:Int)<=tg/\(tg:Int)<es.length/\es.length<=1000:=⟨H,We,We,We⟩;refine aG E.g Qay (c_ ((ks,es,ss,u,(tg:Int))) E.amY QP (ah Q2 Qi4) (O) (aR _)) ?_;rw[show uR _=T.lst _ from rfl];have li:=EY H (u:=u) We We L;have aa:(cN es u tg).length<=es.length+2:=by
  unfold cN;rw[rp,kq];have h1:=(Hd (l:=bM es (tg:Int)) QcT).length_le;have h2:(bM es (tg:Int)).length<=es.length+1:=vA _ _ _;lia
 have R:(cN es u tg).dropLast.length<=es.length+2:=by rw[List.length_dropLast];lia
 have n:∀(far near:Bool) (k:Nat),k<es.length->(j3 Qa8 Qa9 es ss mem far es.length near k).length<=41:=λfar near k I=>jq (zH t I) A;have ax:(Jl ks es ss mem mode tg).length<=41:=n _ _ tg v;have G:∀p:Int,Jl ks es ss mem "new" p=j3 Qa8 Qa9 es ss mem false es.length false p:=λp=>by
  unfold Jl;rw[show d9 "new" = false by decide +kernel,show gV "new" = false by decide +kernel]
 have f:cutD ((cN es u tg).map D.int) none QoA=(cN es u tg).dropLast.map D.int:=by rw[zg,Yx]
 refine aG E.g Qa0 (aQ (t2:=T.lst (((((cN es u tg).dropLast++Jl ks es ss mem mode tg)).map D.int).map T.sh)) (qO (bQ QqV) (bQ (c_ ((ks,es,ss,mem,tg,mode)) E.qB Q1 (ah Q2 (ah QU (ah Qac (ah Qbk aF)))) (by exact(⟨⟨hl,I,hs,hm,v,P,y⟩,t,We⟩)) (aR _))) ((f▸bI _)) (bI _) (ke (bB (by rw[f,cq,cq];exact(show(cN es u tg).dropLast.length+(Jl ks es ss mem mode tg).length<=1000 by lia))))) (by rw[f,<- h7])) ?_;generalize Y:(λs:Int=>((jL es s).filter _).flatMap Qcr)=F;have V:∀s:Int,(F s).length<=41*41:=λs=>by
  rw[<- Y];have h1:((jL es s).filter Qcs).length<=41:=jq Qfq (jq (Wb es s) A);refine jq (zK (c:=41) λp a=>?_) QrM;have hb:=zF (js.1 a).1;obtain⟨q,rfl⟩:∃q:Nat,p=q:=⟨p.toNat,We⟩;exact n _ _ q We
 have W:∀l:AT,l.length<=44->(l.flatMap F).length<=44*(41*41):=λl h=>jq (zK λp _=>V p) (Nat.mul_le_mul_right _ h);have C:rf Qa8 Qa9 es ss mem Qkh (gV mode) u tg=(cN es u tg).dropLast++Jl ks es ss mem mode tg++((cN es u tg).dropLast.filter QdJ).flatMap F:=by
  rw[<- Y];rfl
 have r:=ic (A4 t (far:=d9 mode) (near:=gV mode) v L) λx hx=>LU t v ((DB t v L x).1 hx);rw[C]at r ⊢;clear C;have z:∀s∈(cN es u tg).dropLast,0<=s/\s<es.length:=λs hs=>by
  have:=jB H v ((li s).1 (vC H v hs).1);lia
 generalize gf:(cN es u tg).dropLast++Jl ks es ss mem mode tg=base at r ⊢;have ag:base.length<=100:=by
  rw[<- gf,iq];lia
 generalize ae:(cN es u tg).dropLast=o at R z r f ⊢;refine fK E.g QcA (λj U=>∃w m,U=[some (.sh Qa6),some QmH,some (.sh (.int u)),some (.sh (.int tg)),some QuH,some Qqo,some (.lst (((base++((o.take j).filter QdJ).flatMap F).map .int).map T.sh)),w,m])
  (c7 (fC (aQ QqV (by rw[f])))) ⟨_,_,by simp;rfl⟩ (λj U ⟨_,_,e⟩=>by subst e;exact hT rfl) ?turn ?fin
 case turn=>
  rintro j d U hj ⟨w,m,rfl⟩;obtain⟨x,rfl,_,J,AV,_,Aq⟩:=jW hj;have K:=z x J;have Ja:((o.take j).filter QdJ).length<=44:=jq Qfq (by rw[l9];lia);have aw:=W _ Ja;refine eO (je (aX Qic QdQ (eS Str.empty K.1 We)) dY).1 (λa=>?_) (λa=>ai (ai ?_))
  .have a:bF ks x=true:=a;have Z:((o.take QR).filter QdJ).flatMap F=((o.take j).filter QdJ).flatMap F++F x:=by
    rw[Aq,oI,y5 a,uu,ro];simp
   show cG X CL b _ _ {nx:=λU=>cG X CL b _ U {nx:=λU=>∃w m,U=[_,_,_,_,_,_,some (.lst (((base++((o.take QR).filter _).flatMap F).map .int).map T.sh)),w,m],rt:=_,bk:=_,ct:=_},rt:=_,bk:=_,ct:=_};rw[Z,<- h5];generalize S:base++((o.take j).filter _).flatMap F=cur;have af:cur.length<=100+44*(41*41):=by rw[<- S,iq];lia
   have eF:F x=((jL es x).filter Qcs).flatMap Qcr:=by rw[<- Y]
   have GZ:=Wb es x;refine fK E.g Qit (λi U=>∃m,U=[some (.sh Qa6),some QmH,some (.sh (.int u)),some (.sh (.int tg)),some QuH,some Qqo,some (.lst (((cur++(((jL es x).take i).filter Qcs).flatMap Qcr).map .int).map T.sh)),some (.sh Qd1),m])
    (c7 (fC (c_ ((ks,es,ss,x)) E.LV QaC (ah Q2 (ah QdQ aF)) ((by dsimp only [mW];lia)) (aR _)))) ⟨_,by simp;rfl⟩ (λj U ⟨_,e⟩=>by subst e;exact Nat.le_of_ble_eq_true rfl) ?PL ?fin2
   case PL=>
    rintro i d U hi ⟨m,rfl⟩;obtain⟨p,rfl,_,N,ar,_,B⟩:=jW hi;have hb:=zF N;obtain⟨q,rfl⟩:∃q:Nat,p=q:=⟨p.toNat,We⟩;have D8:((((jL es x).take i).filter Qcs).flatMap Qcr).length<=41*41:=by
     have h1:(((jL es x).take i).filter Qcs).length<=41:=jq Qfq (by rw[l9];lia);refine jq (zK (c:=41) λp a=>?_) QrM;have hb:=zF (wg (js.1 a).1);obtain⟨q,rfl⟩:∃q:Nat,p=q:=⟨p.toNat,We⟩;exact n _ _ q We
    refine eO (Dt QdT Qcy rfl rfl).1 (λM=>?_) (λM=>ai (ai ?_))
    .refine tS (E.ll 6).1 rfl (Sh (bQ (aQ (c_ ((ks,es,ss,mem,q,("new":Str))) E.qB Q1 (ah Q2 (ah QU (ah QdT (ah dY aF)))) (by exact(⟨⟨hl,I,hs,hm,We,.inl rfl,y⟩,t,We⟩)) (aR _)) rfl)) (bI _)) rfl ?len (ai (ai ?_))
     case len=>
      have:=n false false q We;rw[G];simp only[cq,iq];lia
     have e1:(((cur++(((jL es x).take i).filter Qcs).flatMap Qcr).map D.int).map T.sh)++(((Jl ks es ss mem "new" q).map D.int).map T.sh)=((cur++(((jL es x).take Qa5).filter Qcs).flatMap Qcr).map D.int).map T.sh:=by
      rw[B,oI,y5 (p:=λp=>!decide _) M,uu,ro,G,<- h7];simp
     rw[show((((cur++(((jL es x).take i).filter _).flatMap Qcr).map D.int).map T.sh)++(((Jl ks es ss mem "new" q).map D.int).map T.sh))=_ from e1];exact⟨_,rfl⟩
    .have e1:(((jL es x).take i).filter Qcs).flatMap Qcr=(((jL es x).take Qa5).filter Qcs).flatMap Qcr:=by
      rw[B,oI,y6 (by rw[M];decide),uu,hX]
     rw[e1];exact⟨_,rfl⟩
   case fin2=>
    rintro U ⟨m,rfl⟩;rw[cq,ka];refine ai (ai ?_);rw[eF];exact⟨_,_,rfl⟩
  .have a:bF ks x=false:=a;have e1:((o.take j).filter QdJ).flatMap F=((o.take QR).filter QdJ).flatMap F:=by
    rw[Aq,oI,y6 (by rw[a];decide),uu,hX]
   rw[e1];exact⟨_,_,rfl⟩
 case fin=>
  rintro U ⟨w,m,rfl⟩;rw[cq,ka];exact aU (qS E.nA QdI We QaJ) rfl
noncomputable def Gk:FG BW ["tree","memory","upper","target","mode"] ["road","opened","inner","sorted"] (ak BU):=fG
abbrev pW:=top 55
abbrev pX:=BB×BB×At×AT×AT×BB×BB×List bO×AT×AT
noncomputable abbrev pY:At:=["chart","memory","going","come","number","way"]
def iX:pX->BB:=λ(bs,nm,ks,es,ss,is,os,ws,mem,gs)=>[eU bs nm Qa6 is os Qa2,.lst QcY,.lst (gs.map .int)]
def gj:pX->Prop:=λ(bs,nm,ks,es,ss,is,os,ws,mem,gs)=>(es.length<=40/\ks.length=es.length/\ss.length=es.length/\mem.length=es.length/\∀k:Nat,k<es.length->bf ks k=true\/bF ks k=true\/ks.getD k Str.empty="one")/\eB Qa8 Qa9 es ss mem/\(∀i∈gs,Qgh/\QhA/\QqW/\xE (f9 ws i).mode/\QpJ)/\((gs.map QbO).flatMap QeJ).length<64
def iY:pX->T:=λ(bs,nm,ks,es,ss,is,os,ws,mem,gs)=>(.lst (((xJ ks es ss mem (gs.map QbO)).map .int).map T.sh):T)
structure Hz(X:Cx)(CL:BM):Prop extends EL X pY ["entered","way_top","TARGET","MODE","sorted"],fY X.K X.mg CL where
 Zm:Fc X CL "entered" 44 5 oE oF oG
 qE:Fc X CL "way_top" 4 2 ly jo lz
theorem HB(E:Hz X CL) :
  kD X CL b pW pY iX gj iY:=by
 rintro⟨bs,nm,ks,es,ss,is,os,ws,mem,gs⟩ h;dsimp only [gj,iX,iY]at h ⊢;obtain⟨⟨hl,t,k,z,n⟩,u,y,a⟩:=h;have v:=u.pre.1;have r:∀l:List bO,(l.flatMap _).length=(l.flatMap QeJ).length:=λl=>(A6 l).length_eq;refine aG E.g Qat QaZ ?_;refine fK E.g Qau (λj U=>∃o o',U=[some _,some _,some _,some (.lst (((((gs.take j).map QbO).flatMap λw=>sortI Qgk).map .int).map T.sh)),o,o'])
  (c7 Qax) ⟨_,_,rfl⟩ (λj U ⟨_,_,e⟩=>by subst e;exact hT rfl) ?turn ?fin
 case turn=>
  rintro j d U x ⟨o,o',rfl⟩;obtain⟨i,rfl,_,hi,C,_,A⟩:=jW x;obtain⟨⟨s,i1⟩,hs,f,m,c⟩:=y i hi;have B:(((gs.take j).map QbO).flatMap λw=>sortI Qgk).length<64:=by
   rw[r,List.map_take];exact nk (pe _ _) a
  have q:(((gs.take QR).map QbO).flatMap λw=>sortI Qgk).length<64:=by
   rw[r,List.map_take];exact nk (pe _ _) a
  have e2:((gs.take QR).map QbO).flatMap (λw=>sortI Qgk)=(((gs.take j).map QbO).flatMap λw=>sortI Qgk)++sortI (Sw ks es ss mem Qci):=by
   rw[A,h7];simp
  rw[e2,iq]at q;have p:((f9 ws i).ij.toNat:Int)=(f9 ws i).ij:=by lia
  refine aG E.g Qay (aQ (Eh Qev Qbk (eS w0 s i1)) (t2:=.sh (j4 Qci)) rfl) ?_;refine tS (E.ll 3).1 rfl (Sh (bQ (aQ (c_ (ks,es,ss,mem,jP ks es _,(f9 ws i).ij.toNat,(f9 ws i).mode) E.Zm QP (ah QcU (ah QU (ah (au (aQ (c_ (bs,nm,ks,es,ss,is,os,ws,i) E.qE Q1 Qh5 (by exact⟨v,We,t,⟨s,i1⟩,hs,f⟩) rfl) rfl)) (ah (Cj (aZ Qa1 QtS Qd0) (congrArg _ p.symm)) (ah (aZ Qa1 (au (aK E.SN QaJ)) Qd0) aF))))) (by exact⟨⟨We,t,k,z,We,m,n⟩,u,We,c⟩) (aR _)) (t2:=.lst (((sortI (Sw ks es ss mem _)).map .int).map T.sh)) rfl)) (bI _)) rfl (by simp only[cq];lia) (ai ⟨some Qjy,some (.sh (j4 Qci)),?_⟩);rw[e2];simp
 case fin=>
  rintro U ⟨o,o',rfl⟩;rw[cq,ka];refine aU (qS E.nA QcZ (by rw[r];exact a) QbD) ?_;rw[YC (A6 _)];rfl
noncomputable def uS:FG pY ["chart","memory","going"] ["entered","way_top","TARGET","MODE","sorted"] (ak pW):=fG
abbrev Gm:=top 51
abbrev Gn:=BB×BB×At×AT×AT×BB×BB×List bO×Int
noncomputable abbrev Gp:At:=["chart","mood","way"]
def sd:Gn->BB:=λ(bs,nm,ks,es,ss,is,os,ws,m)=>[eU bs nm Qa6 is os Qa2,.int m]
def nO:Gn->Prop:=λ(bs,nm,ks,es,ss,is,os,ws,m)=>dI es/\ks.length=es.length/\es.length<=1000/\0<=m/\m<es.length
def nP:Gn->T:=λ(bs,nm,ks,es,ss,is,os,ws,m)=>(.sh (.bl (k7 ks es ws m)):T)
structure ad1(X:Cx)(CL:BM):Prop extends EL X Gp ["MODE","TARGET","within"],fY X.K X.mg CL where
 lu:Fc X CL "within" 2 3 ki ku kB
theorem ad2(E:ad1 X CL) :
  kD X CL b Gm Gp sd nO nP:=by
 rintro⟨bs,nm,ks,es,ss,is,os,ws,m⟩ h;dsimp [nP]at h ⊢;obtain⟨p,r,hl,m0,m1⟩:=h;refine eO (aa4 (aX (cI E.iG E.fZ QcU jY) QU (eS Str.empty m0 We)) dY).1 (λa=>?_) (λa=>ai ?_)
 .apply aU m7;have:fW ks m=false:=by
   rw[u6]at a;exact a
  unfold k7;rw[this];rfl
 have l:fW ks m=true:=by
  rw[GY]at a;exact a
 have f:k7 ks es ws m=ws.any (Jp es m):=by unfold k7;rw[l];rfl
 rw[f];refine fK E.g QaD (λj U=>(∀i x,i<j->ws[i]? = some x->Jp es m x=false)/\∃o,U=[some _,some _,o])
  (c7 Qev) ⟨λi x hi=>by lia,_,rfl⟩ (λj U ⟨_,_,e⟩=>by subst e;exact hT rfl) ?turn ?fin
 case turn=>
  rintro j d U q ⟨n,o,rfl⟩;obtain⟨w,rfl,hw,_,s,_,_⟩:=jW q;refine eO (qK (ju (aa4 QqF dY).1 (λ_=>kC (fq QqG QU).1))) (λa=>?_) (λa=>ai ?_)
  .apply aU m7;rw[OL hw (by unfold Jp;rw[a];rfl)]
  refine eO (qK (ju (je QqF dY).1 (λ_=>kC (lM (c_ (ks,es,ss,m,w.ij) E.lu QaC (ah QcU (ah QU (ah QqG aF))) (⟨p,m0,m1,hl⟩) rfl))))) (λk=>?_) (λk=>ai (ai ?_))
  .apply aU m7;rw[OL hw (by unfold Jp;rw[k,Bool.or_true])]
  .refine⟨λi x hi c=>?_,_,rfl⟩;by_cases e:i=j
   .subst e;rw[hw]at c;cases c;unfold Jp;rw[a,k];rfl
   .exact n i x We c
 case fin=>
  rintro U ⟨n,o,rfl⟩;apply aU m7;rw[any_none λi x c=>n i x (by rw[cq];exact(ko.1 c).1) c]
noncomputable def Jy:FG Gp ["chart","mood"] ["MODE","TARGET","within"] (ak Gm):=fG
abbrev yp:=top 56
abbrev yq:=BB×BB×At×AT×AT×BB×Dx×List bO×AT×AT×AT
noncomputable abbrev yr:At:=["chart","gone","memory","behind","rows","mood"]
def se:yq->BB:=λ(bs,nm,ks,es,ss,is,os,ws,gone,mem,bh)=>[eU bs nm Qa6 is Qn6 Qa2,.lst (gone.map .int),.lst QcY,.lst (bh.map .int)]
def mG:yq->Prop:=λ(bs,nm,ks,es,ss,is,os,ws,gone,mem,bh)=>dI es/\es.length<=1000/\ks.length=es.length/\os.length=es.length/\mem.length=es.length/\bh.length=es.length/\rA os/\gone.length<=1000/\∀m∈gone,0<=m/\m<es.length
def mH:yq->T:=λ(bs,nm,ks,es,ss,is,os,ws,gone,mem,bh)=>(.lst ((K3 QeZ os mem bh gone).map T.sh):T)
structure TH(X:Cx)(CL:BM):Prop extends EL X yr ["heeded"],fY X.K X.mg CL where
 Gq:Fc X CL "heeded" 3 2 sd nO nP
theorem TJ(E:TH X CL) :
  kD X CL b yp yr se mG mH:=by
 rintro⟨bs,nm,ks,es,ss,is,os,ws,gone,mem,bh⟩ h;dsimp [mH]at h ⊢;obtain⟨l,hl,p,n,w,t,f,r,s⟩:=h;apply aG E.g Qau QaZ;refine fK E.g Qay (λj U=>∃o,U=[some _,some _,some _,some _,some (.lst ((K3 QeZ os mem bh (gone.take j)).map T.sh)),o])
  (c7 Qbo) ⟨_,rfl⟩ (λj U ⟨_,e⟩=>by subst e;exact hT rfl) ?turn ?fin
 case turn=>
  rintro j d U q ⟨o,rfl⟩;obtain⟨m,rfl,_,hm,x,_,u⟩:=jW q;obtain⟨m0,m1⟩:=s m hm;have c:=(K4 (C8:=k7 ks es ws) (mem:=mem) (bh:=bh) f (gone.take j)).1;have k:(gone.take j).length<=j:=by simp;lia
  obtain⟨g1,g2⟩:=f.get m.toNat;rw[u,YD];generalize K3 _ os _ bh _=rs at c ⊢;apply iJ (E.ll 4).1 rfl (bD (aj dH (aj Qbw aL)) aC) rfl (by rw[cq];lia);refine Ek (λU=>U=[some (.sh (eU bs nm Qa6 is Qn6 Qa2)),some (.sh (.lst (gone.map .int))),some QmH,some (.sh (.lst (bh.map .int))),some (.lst ((rs++(D.tup [.str "out",.int m]::(if k7 ks es ws m=true then [D.tup [.str "keep",.int m,.int Qmw,.int QmL]] else []))).map T.sh)),some QnJ])
   (lM (aQ (c_ (bs,nm,ks,es,ss,is,os.map _,ws,m) E.Gq QP (ah Q2 (ah Qa1 aF)) (⟨l,p,hl,m0,m1⟩) rfl) rfl)) (λa=>?_) (λa=>?_) ?_
  .rw[ec a];refine iJ (E.ll 4).1 rfl (bD (aj dH (aj Qbw (aj (cM (aX Q3 Qa1 (fU m0 We)) rfl) (aj (cM (aX Qac Qa1 (fU m0 We)) rfl) aL)))) aC) rfl WE (ai ?_);simp
  .rw[bS (by rw[a];decide)];apply ai;simp
  rintro U rfl;have i:(if k7 ks es ws m=true then [D.tup [.str "keep",.int m,.int Qmw,.int QmL]] else []).length<=1:=by split<;>simp
  generalize (if k7 ks es ws m=true then [D.tup _] else [])=v at i ⊢;refine tS (E.ll 4).1 rfl (Sh (aX (cI E.bN E.zR Q2 Ss) Qa1 (eS [] m0 We)) g2) rfl (by rw[cq,iq,kq];lia) (ai ⟨some QnJ,?_⟩);simp
 case fin=>
  rintro U ⟨o,rfl⟩;rw[cq,ka];exact aU QgB rfl
noncomputable def CK:FG yr ["chart","gone","memory","behind"] ["heeded"] (ak yp):=fG
abbrev yt:=top 57
abbrev yu:=BB×BB×D×BB×BB×List bO×Nat×AT
noncomputable abbrev yw:At:=["chart","ways","rows","number"]
def sf:yu->BB:=λ(bs,nm,tr,is,os,ws,n,sel)=>[eU bs nm tr is os Qa2,.lst (sel.map .int)]
def mJ:yu->Prop:=λ(bs,nm,tr,is,os,ws,n,sel)=>sel.length<=1000/\(∀i∈sel,Qgh/\ze n Qci)
def mK:yu->T:=λ(bs,nm,tr,is,os,ws,n,sel)=>(.lst ((OI ws sel).map T.sh):T)
theorem TL(E:Dh yw ["DEEDS"] X CL) :
  kD X CL b yt yw sf mJ mK:=by
 rintro⟨bs,nm,tr,is,os,ws,n,sel⟩ h;dsimp [mK]at h ⊢;obtain⟨hl,hs⟩:=h;apply aG E.g QaD QaZ;refine fK E.g Qat (λj U=>∃o,U=[Option.some _,Option.some _,Option.some (.lst ((OI ws (sel.take j)).map T.sh)),o])
  (c7 Qbo) ⟨_,rfl⟩ (λj U ⟨_,e⟩=>by subst e;exact hT rfl) ?turn ?fin
 case turn=>
  rintro j d U l ⟨o,rfl⟩;obtain⟨i,rfl,_,hi,p,_,m⟩:=jW l;obtain⟨⟨a,i1⟩,hw⟩:=hs i hi;have k:=(K5 (some:=sel.take j) (λx c=>(hs x (wg c)).2)).1;have f:(sel.take j).length<=j:=by simp;lia
  have d1:=hw.2.2.2.1;apply iJ (E.ll 2).1 rfl QrJ rfl (by rw[cq];lia);refine tS (E.ll 2).1 rfl (Sh (aZ (aX Qid Qac (eS w0 a i1)) (au (aK E.ahB QP)) Om) hw.2.2.2.2.1) rfl (by rw[iq,cq];show _+1+(f9 ws i).Cu.length<=_;lia) (ai ⟨Option.some Qjy,?_⟩);rw[m,YF,h7,h5];rfl
 case fin=>
  rintro U ⟨o,rfl⟩;rw[cq,ka];exact aU QeR rfl
noncomputable def CM:FG yw ["chart","ways"] ["DEEDS"] (ak yt):=fG
abbrev su:=top 28
abbrev sA:=BB×BB×D×BB×BB×List bO×Int
noncomputable abbrev sC:At:=["chart","number"]
def jJ:sA->BB:=λ(bs,nm,tr,is,os,ws,i)=>[eU bs nm tr is os Qa2,.int i]
def fN:sA->Prop:=λ(bs,nm,tr,is,os,ws,i)=>0<=i/\i<ws.length
def jK:sA->T:=λ(bs,nm,tr,is,os,ws,i)=>(.sh (.bl (nj ws i)):T)
def Mj(E:Dh sC ["TARGET"] X CL) :
  kD X CL b su sC jJ fN jK:=by
 rintro⟨bs,nm,tr,is,os,ws,i⟩ h;obtain⟨h0,h1⟩:=h;exact aU (Ed (aZ (aX Qid QU (eS w0 h0 h1)) (au (aK E.ua QP)) Qd0) QbA).2 rfl
noncomputable def wW:FG sC ["chart","number"] ["TARGET"] (ak su):=fG
abbrev DL:=top 52
abbrev Ml:=BB×BB×At×AT×AT×Dx×Dx×List bO×AT×AT×AT
noncomputable abbrev Mm:At:=["chart","opens","memory","ways","going","gone","behind","come","script"]
def vP:Ml->BB:=λ(bs,nm,ks,es,ss,is,os,ws,ops,mem,a)=>[eU bs nm Qa6 Qn5 Qn6 Qa2,.lst Qcd,.lst QcY,.lst QgR]
def qF:Ml->Prop:=λ(bs,nm,ks,es,ss,is,os,ws,ops,mem,a)=>n5 ks es ss is os ws/\(ops.Pairwise (· < ·)/\∀x∈ops,0<=x/\x<es.length)/\Cv ks es mem/\rB ks es ws a
def qG:Ml->T:=λ(bs,nm,ks,es,ss,is,os,ws,ops,mem,a)=>(.tup [.lst ((FO ks es ss is os ws mem ops a).map T.sh),.lst (((FR ks es ss (mv ks es ws mem ops QaS) ops QaS).map .int).map T.sh),.lst (((mv ks es ws mem ops QaS).map .int).map T.sh)]:T)
structure ahT(X:Cx)(CL:BM):Prop extends EL X Mm ["all_left","remembered","all_entered","out_rows","way_rows","in_rows","sorted"],fY X.K X.mg CL where
 jD:Jf X "chart"
 TN:Jf X "gone"
 TQ:Fc X CL "all_left" 5 3 rY mE mF
 Mp:Fc X CL "remembered" 1 4 nL jI nM
 HC:Fc X CL "all_entered" 45 3 iX gj iY
 TV:Fc X CL "out_rows" 4 4 se mG mH
 TX:Fc X CL "way_rows" 1 2 sf mJ mK
 BG:Fc X CL "in_rows" 1 2 oA lg lq
 sE:Fc X CL "has_target" 1 2 jJ fN jK
 Gq:Fc X CL "heeded" 3 2 sd nO nP
theorem ahU(E:ahT X CL) :
  kD X CL b DL Mm vP qF qG:=by
 rintro⟨bs,nm,ks,es,ss,is,os,ws,ops,mem,a⟩ h;dsimp only [qF,vP,qG]at h ⊢;obtain⟨c,⟨z,k⟩,hm,hs⟩:=h;have t:=c.pre.1;have n0:=c.n0;have n1:=c.n1;have o:=hs.xq c;have s:=hs.vi c;have m:=hs.i;have L:=hs.l;have j:=hs.ap;have M:ops.length<=es.length:=ic (z.imp λh e=>by lia) k;have q:=Sa (ws:=ws) k hm QaS;have r:=c.tree q;obtain⟨_,_,S⟩:=XX r z k j o;obtain⟨f1,f2⟩:=OG (ks:=ks) t z k j;obtain⟨g1,g2⟩:=Jo (ks:=ks) t z k j;obtain⟨Y,P,O⟩:=E4 r j o;have f:∀x∈oZ ks es ops QaS,0<=x/\x<es.length:=λx u=>k x (K2.1 u).1;have v:(a.filter Qdg).map QbO=rj ws a:=rfl;have y:∀i∈a.filter Qdg,Qgh/\QhA/\QqW/\xE (f9 ws i).mode/\QpJ:=λi hi=>by
  have h1:=(js.1 hi).1;have w:=s i h1;have g:=o Qci (hP.2 ⟨i,hi,rfl⟩);exact⟨m i h1,w.1,g.1,w.2.2.1,g.2⟩
 unfold FO;refine Ey (p:=λd=>nj ws d.qI) (gg:=λd=>T.sh d) E.g Qau QhB (c7 Qbc) QaI (λC s0 K f0 J d hd=>?amL) QgV ?rest (by exact hT rfl) QeK
 case amL=>
  obtain⟨i,hi,rfl⟩:=hP.1 hd;exact⟨lM (c_ (bs,nm,dG ks es ss,is.map .tup,os.map .tup,ws,i) (lT E.sE) Hj QlI (by dsimp only [fN];exact m i hi) rfl),λ_=>(v_ (AY 0))⟩
 case rest=>
 have H:(((a.map D.int).filter (λd=>nj ws d.qI)).map λd=>T.sh d)=((a.filter Qdg).map D.int).map T.sh:=by
  rw[mB,hW];exact(hW ..).symm
 rw[H];refine aG E.g Qay (fC (ds:=(oZ ks es ops QaS).map .int) (aQ (c_ (bs,nm,ks,es,ss,is.map .tup,os.map .tup,ws,ops,a.filter Qdg) E.TQ QP (ah Q2 (ah QU Qjj)) (by dsimp only [mE];exact⟨t,We,c.kl,We,k,λi hi=>⟨(y i hi).1,(y i hi).2.1,(y i hi).2.2.1⟩,by rw[v];lia⟩) (aR _)) rfl)) ?_;have Z:((oZ ks es ops QaS).filter QeZ).length<=es.length:=jq Qfq g2;refine aG E.g Qa0 (aQ (c_ (ks,es,ss,mem,ops,(oZ ks es ops QaS).filter QeZ) E.Mp Q1 (ah QcU (ah Q3 (ah QU (ah (bQ (aQ (nS (p:=λd=>k7 ks es ws d.qI) (g:=λd=>T.sh d) QhB E.g.calm (c7 Qbw) QaI (λC s0 K f0 J d hd=>?adK) QgV) (t2:=.lst _) (by
  refine congrArg T.lst ?_;rw[mB,hW];exact(List.map_map ..).symm))) aF)))) (by dsimp only [jI];exact⟨t,c.kl,hm.1,k,λx u=>f x (List.mem_filter.1 u).1⟩) (aR _)) (t2:=.lst (((mv ks es ws mem ops QaS).map .int).map T.sh)) rfl) ?_
 case adK=>
  obtain⟨i,hi,rfl⟩:=hP.1 hd;exact⟨lM (c_ (bs,nm,ks,es,ss,is.map .tup,os.map .tup,ws,i) (lT E.Gq) Hj QlI (by dsimp only [nO];exact⟨t,c.kl,We,(f i hi).1,(f i hi).2⟩) rfl),λ_=>(v_ (AY 0))⟩
 generalize W:mv ks es ws mem ops QaS=bh at *;refine aG E.g QcA (aQ (c_ (bs,nm,ks,es,ss,is.map .tup,os.map .tup,ws,bh,a.filter Qdg) E.HC QaC (ah Q2 (ah QdI Qjj)) (by dsimp only [gj];exact⟨⟨We,c.kl,c.sl,q.1,c.kinds⟩,r,y,by rw[v];lia⟩) (aR _)) rfl) ?_;obtain⟨V,B⟩:=K4 (C8:=k7 ks es ws) (mem:=mem) (bh:=bh) c.or (oZ ks es ops QaS);obtain⟨U,A⟩:=K5 (n:=es.length) s;have R:(xJ ks es ss bh QaS).length<=es.length:=by unfold xJ;rw[mS];exact P
 have F:∀x∈xJ ks es ss bh QaS,0<=x/\x<is.length:=λx u=>by
  rw[c.il];exact(O x (g8.1 u)).1
 obtain⟨i1,I⟩:=A8 c.ir _;refine aG E.g Qit (qO (bQ (qO (bQ (aQ (c_ (bs,nm,ks,es,ss,is.map .tup,os,ws,oZ ks es ops QaS,mem,bh) E.TV QaJ (ah Q2 (ah Qa1 (ah Q3 (ah QdI aF)))) (by dsimp only [mG];exact⟨t,We,c.kl,c.ol,hm.1,q.1,c.or,We,f⟩) (bT B)) (t2:=.lst _) rfl))
  (bQ (aQ (c_ (bs,nm,dG ks es ss,is.map .tup,os.map .tup,ws,es.length,a) E.TX QbD (ah Q2 QhP) (by dsimp only [mJ];exact⟨We,λi hi=>⟨m i hi,s i hi⟩⟩) (bT A)) rfl)) B A (Nat.le_of_lt (bB We))))
  (bQ (aQ (c_ (bs,nm,dG ks es ss,is,os.map .tup,ws.map j4,xJ ks es ss bh QaS) E.BG Qde (ah Q2 (ah QnF aF)) (by dsimp only [lg];exact⟨c.ir,We,F⟩) (bT I)) rfl)) (OJ B A) I (Nat.le_of_lt (bB (by rw[List.length_append];lia)))) ?_
 have G:((((ops.map D.int).filter (λd=>!decide (d.qI∈oZ ks es ops QaS))).map λd=>T.sh d))=((ops.filter QpZ).map D.int).map T.sh:=by
  rw[mB,hW];exact(hW ..).symm
 have N:(ops.filter QpZ).length<=ops.length:=nr _ _;refine aU (oU (aH (vM (E.ll 8).1) (aH (aQ (qS E.nA (bQ (aQ (qO (Ao:=(xJ ks es ss bh QaS).map .int) (bQ (aQ (nS (g:=λd=>T.sh d) (cH (.cons (E.ll 5).1 (.inl E.TN) .nil) Wf) E.g.calm (c7 Qbo) QaI (λC s0 K f0 J d hd=>?amM) QgV) (congrArg T.lst G))) QnF (bI _) (bI _) (ke (bB (by simp only[cq];lia)))) (t2:=.lst (((ops.filter _++xJ ks es ss bh QaS).map .int).map T.sh)) (by rw[<- h7]))) We Qhb) rfl) Qs6)) aC) rfl
 case amM=>
  obtain⟨i,hi,rfl⟩:=hP.1 hd;exact⟨(Dt (jl 0) (iK 1) rfl rfl).1,λ_=>(v_ (AY 0))⟩
def Gr:Q9 (ak DL) ([("chart",.cell),("opens",b9),("memory",b9),("ways",b9),("going",b9),("gone",.cell),("behind",b9),("come",b9),("script",b9),("all_left",bE),("remembered",bE),("all_entered",bE),("out_rows",bE),("way_rows",bE),("in_rows",bE),("sorted",bE)])=true:=by decide +kernel
noncomputable def ad3:cO Mm ["chart","opens","memory","ways"] (ak DL):=g9
abbrev Mq:=top 17
abbrev Mr:=At×AT×AT×Int
noncomputable abbrev Ms:At:=["tree","mood"]
def BX:Mr->BB:=λ(ks,es,ss,m)=>[dG ks es ss,.int m]
def vQ:Mr->Prop:=λ(ks,es,ss,m)=>dI es/\0<=m/\m<es.length/\es.length<=1000
def BZ:Mr->T:=λ(ks,es,ss,m)=>(.sh (.int ((bM es m).length:Nat)):T)
structure ahV(X:Cx)(CL:BM):Prop extends EL X Ms ["len","above"],fY X.K X.mg CL where
 mz:Fc X CL "above" 1 2 j8 j9 kg
def ahW(E:ahV X CL) :
  kD X CL b Mq Ms BX vQ BZ:=by
 rintro⟨ks,es,ss,m⟩ h;have hl:((bM es m).map D.int).length=(bM es m).length:=by simp
 exact aU (cB hl E.e7 (bQ (c_ (ks,es,ss,m) E.mz Q1 Qif h (Ci _))) QP) rfl
noncomputable def PN:FG Ms ["tree","mood"] ["len","above"] (ak Mq):=fG
abbrev uT:=top 30
abbrev uU:=At×AT×AT×Int×Int
noncomputable abbrev uV:At:=["tree","one","other"]
def pZ:uU->BB:=λ(ks,es,ss,t,u)=>[dG ks es ss,.int t,.int u]
def kJ:uU->Prop:=λ(ks,es,ss,t,u)=>dI es/\es.length<=1000/\(-1<=t/\t<es.length) /\ -1<=u/\u<es.length
def kK:uU->T:=λ(ks,es,ss,t,u)=>(.sh (.bl (K7 es t u)):T)
structure PR(X:Cx)(CL:BM):Prop extends EL X uV ["within"],fY X.K X.mg CL where
 lu:Fc X CL "within" 2 3 ki ku kB
theorem PV(E:PR X CL) :
  kD X CL b uT uV pZ kJ kK:=by
 rintro⟨ks,es,ss,t,u⟩ h;dsimp [kK]at h ⊢;obtain⟨c,hl,⟨t0,t1⟩,u0,u1⟩:=h;unfold K7;refine eO (qK (Cd (fq QU Q3).1 (λe=>(Cd (fq QU QbA).1 (λd=>(AG (fq Q3 QbA).1)))))) (λa=>?_) (λa=>ai ?_)
 .apply aU m7;rw[a];rfl
 .rw[a];simp at a;apply aU (PU (c_ ((ks,es,ss,t,u)) E.lu QP (ah Q2 Qpq) ((⟨c,We,We,hl⟩)) rfl) (λe=>(aa6 (c_ ((ks,es,ss,u,t)) E.lu QP (ah Q2 (ah Q3 (ah QU aF))) ((⟨c,We,We,hl⟩)) rfl))));rw[i3 a.2.2,i3 a.2.1];rfl
noncomputable def z9:FG uV ["tree","one","other"] ["within"] (ak uT):=fG
abbrev Mt:=top 31
abbrev TY:=BB×BB×At×AT×AT×BB×BB×List bO×AT
noncomputable abbrev T3:At:=["chart","found","chosen","tops","number","upper"]
def Aa:TY->BB:=λ(bs,nm,ks,es,ss,is,os,ws,row)=>[eU bs nm Qa6 is os Qa2,.lst (row.map .int)]
def uW:TY->Prop:=λ(bs,nm,ks,es,ss,is,os,ws,row)=>dI es/\es.length<=900/\ks.length=es.length/\row.length<=63/\(∀k∈row,0<=k/\k<ws.length)/\∀w∈ws,(0<=w.src/\w.src<es.length) /\ -1<=w.ij/\w.ij<es.length
def Ab:TY->T:=λ(bs,nm,ks,es,ss,is,os,ws,row)=>(.lst (((RY ks es ws row).map .int).map T.sh):T)
structure am1(X:Cx)(CL:BM):Prop extends EL X T3 ["sorted","has_target","way_top","any"],fY X.K X.mg CL where
 jD:Jf X "chart"
 Mb:Jf X "upper"
 sE:Fc X CL "has_target" 1 2 jJ fN jK
 qE:Fc X CL "way_top" 4 2 ly jo lz
 ahX:Fc X CL "depth" 2 2 BX vQ BZ
 PX:Fc X CL "tops_meet" 3 3 pZ kJ kK
 lam:x3 X CL "#kept.<locals>.<lambda>" "kept.<locals>.<lambda>"
 dp:X.A.depth<recursionLimit
 rm:eL 4 X.A
theorem am2(E:am1 X CL) :
  kD X CL b Mt T3 Aa uW Ab:=by
 rintro⟨bs,nm,ks,es,ss,is,os,ws,row⟩ h;dsimp only [uW,Aa,Ab]at h ⊢;obtain⟨G,hl,L,Y,F,hw⟩:=h;refine aG E.g QaD QaZ ?_;refine aG E.g Qat QaZ ?_;have P:∀(l:AT) (x:Int),(l.map D.int).map T.sh++[T.sh Qd1]=((l++[x]).map D.int).map T.sh:=by intros;simp
 have O:∀{w:bO},w∈ws->-1<=jP ks es w/\jP ks es w<es.length:=λ{w} hm=>by
  have hs:=(hw w hm).1;rcases acS (dP:=fW ks) (es:=es) (a:=w.src) (c:=w.ij) with z|z
  .unfold jP;rw[z];lia
  .have:=bH G hs.1 hs.2 z;unfold jP;lia
 have W:(iD Qb1 row).length<=63:=by rw[A0];exact Y
 have B:∀k∈iD Qb1 row,0<=k/\k<ws.length:=λk L=>F k (Ji.1 L);have M:∀l:AT,(∀k∈l,0<=k/\k<ws.length)->∀t∈(nc ks es ws l).2,-1<=t/\t<es.length:=by
  have gen:∀(l:AT) (s:Qhp),(∀k∈l,0<=k/\k<ws.length)->(∀t∈s.2,-1<=t/\t<es.length)->∀t∈(l.foldl Qhv s).2,-1<=t/\t<es.length:=by
   intro l
   induction l with
   | nil=>intro s _ hs;exact hs
   | cons k l S=>
    intro s hl hs;rw[pj];refine S _ (λq v=>hl q (hJ _ v)) ?_;obtain⟨k0,k1⟩:=hl k gF;unfold YL;split
    .split
     .exact hs
     .intro t u;obtain z|z:=hG.1 u
      .exact hs t z
      .rw[hU.1 z];exact O QoY
    .exact hs
  exactλl hl=>gen l ([],[]) hl (λt u=>by cases u)
 refine fK E.g Qau (λj U=>∃o n,U=[some _,some Qrz,some (.lst (((nc ks es ws ((iD Qb1 row).take j)).1.map .int).map T.sh)),some (.lst (((nc ks es ws ((iD Qb1 row).take j)).2.map .int).map T.sh)),o,n])
  (c7 (fC (ds:=(iD Qb1 row).map .int) (aQ (EG (y:="way") (g:=λd=>YM es ws d.qI) E.lam E.g E.dp E.nA QP QhB QU (bI _) WE (λf c s0 H0 b' d hd=>?key)) (by rw[Jj];rfl)))) ⟨_,_,rfl⟩ (λj U ⟨_,_,e⟩=>by subst e;exact hT rfl) ?turn ?fin
 case key=>
  obtain⟨k,A,rfl⟩:=hP.1 hd;obtain⟨k0,k1⟩:=F k A;obtain⟨⟨s0,s1⟩,_⟩:=hw _ QoY;exact au (aQ (fJ (au (c_ (ks,es,ss,(f9 ws k).src) (alC E.ahX (E.rm.mono Wk)) (R3 Wf) (ah (cI (by exact E.bN) (by exact E.cQ) QlE eV) (ah (aZ (aX (cI (by exact E.bN) (by exact E.cj) QlE dM) QrZ (eS (f:=j4) w0 k0 k1)) (au (aK (by exact E.zT) (R3 Wf))) qW) aF)) (by dsimp only [vQ];exact⟨G,s0,s1,We⟩) rfl))) rfl)
 case turn=>
  rintro j d U Z ⟨o,n,rfl⟩;obtain⟨k,rfl,_,A,AV,_,Aq⟩:=jW Z;obtain⟨k0,k1⟩:=B k A;obtain⟨I,H⟩:=hw _ QoY;have hlen:=Wr ks es ws ((iD Qb1 row).take j);have iH:((iD Qb1 row).take j).length<=63:=by rw[l9];lia
  have r:=M ((iD Qb1 row).take j) λq v=>B q (wg v);show cG X CL b _ _ {nx:=λU=>∃o n,U=[_,_,some Qfn,some Qfn,o,n],rt:=_,bk:=_,ct:=λU=>∃o n,U=[_,_,some Qfn,some Qfn,o,n]};rw[Aq,acX];generalize nc ks es ws ((iD Qb1 row).take j)=s at hlen r ⊢;obtain⟨cs,Dg⟩:=s;dsimp only at hlen r ⊢;unfold YL;dsimp only;refine Ek (λU=>∃N n,(if nj ws k=true then(if Dg.any (K7 es Qiy)=true then(cs,Dg) else(cs++[k],Dg++[jP ks es Qko])) else(cs++[k],Dg))=(cs++[k],N)/\U=[some (.sh (eU bs nm Qa6 is os Qa2)),some Qrz,some (.lst ((cs.map .int).map T.sh)),some (.lst ((N.map .int).map T.sh)),some QeT,n])
   (lM (aQ (c_ (bs,nm,dG ks es ss,is,os,ws,k) E.sE Q1 Qh5 (by dsimp only [fN];exact⟨k0,k1⟩) rfl) (t2:=.sh (.bl (nj ws k))) rfl)) (λm=>?_) (λm=>?_) ?_
  .have m:nj ws k=true:=m;have V:¬ (f9 ws k).ij=-1:=by unfold nj at m;simpa using m
   refine aG E.g Qay (aQ (c_ (bs,nm,ks,es,ss,is,os,ws,k) E.qE QaC Qh5 (by dsimp only [jo];exact⟨G,We,L,⟨k0,k1⟩,I,We,H.2⟩) rfl) rfl) ?_;have J:=O (nY (ws:=ws) k0 k1);refine eO (lM (aQ (als E.g E.ap8 (bQ (aQ (abS (p:=λ_=>true) (g:=λd=>T.sh (.bl (K7 es Qiy d.qI))) (cH (.cons (E.ll 0).1 QoC (.cons (E.ll 5).1 (.inl E.Mb) .nil)) Wf) E.g.calm QcZ (λd _=>rfl) (λC s0 H0 f0 b' d hd=>?EX) (ke (bB (by rw[cq];lia)))) ?ceq)) QaJ) (t2:=.sh (.bl (Dg.any (K7 es Qiy)))) (congrArg (λz=>T.sh (.bl z)) (by rw[List.any_map];rfl)))) (λv=>?_) (λv=>ai ?_)
   case EX=>
    obtain⟨t,K,rfl⟩:=hP.1 hd;exact⟨rfl,λ_=>aQ (c_ (ks,es,ss,jP ks es Qko,t) (lT E.PX) Hj (ah (cI (by exact E.bN) (by exact E.cQ) (iK 1) eV) (ah (iK 2) (ah (jl 0) aF))) (by dsimp only [kJ];exact⟨G,We,J,r t K⟩) rfl) rfl⟩
   case ceq=>
    rw[jk,hW,hW,hW];rfl
   .refine alf ?_;rw[ec m,ec v];exact⟨_,_,rfl⟩
   .refine iJ (E.ll 3).1 rfl Qbw rfl WE (ai ⟨Dg++[jP ks es Qko],some (.sh (.int Qiy)),?_,?_⟩)
    .rw[ec m,bS (by rw[v];decide)]
    .rw[P];rfl
  .have m:nj ws k=false:=m;exact ai ⟨Dg,_,by rw[bS (by rw[m];decide)],rfl⟩
  rintro U ⟨N,R,eT,rfl⟩;rw[eT];refine iJ (E.ll 2).1 rfl QdE rfl WE (ai ?_);rw[P];exact⟨_,_,rfl⟩
 case fin=>
  rintro U ⟨o,n,rfl⟩;rw[cq,ka];have hlen:=Wr ks es ws (iD Qb1 row);exact aU (aQ (qS E.nA QnE We QP) rfl) rfl
def Mu:Q9 (ak Mt) ([("chart",.cell),("found",b9),("chosen",b9),("tops",b9),("number",b9),("upper",.cell),("sorted",bE),("has_target",bE),("way_top",bE),("any",bE)])=true:=by decide +kernel
noncomputable def W2:cO T3 ["chart","found"] (ak Mt):=g9
abbrev iM:=inClass (top 61) 2
abbrev kL:=Addr×CH×Nat×World×GS×Nat×Str
noncomputable abbrev iN:At:=["self","number","sign","opens","memory","rows","asks","picked","move"]
def gk:kL->Bn:=λ(y,c,mo,w,s,n,sg)=>[.pin y Qli,.sh QdP,.sh Qe1]
def gu:kL->Bn:=λ(y,c,mo,w,s,n,sg)=>[.pin y (.ins "Growth" (Np c.d mo w ((Rc c mo s n sg).getD s))),.sh QdP,.sh Qe1]
def iZ:kL->Prop:=λ(y,c,mo,w,s,n,sg)=>WR c mo s n sg/\Rc c mo s n sg≠none
def i6:kL->T:=λ(y,c,mo,w,s,n,sg)=>(.sh .non:T)
structure qa(X:Cx)(CL:BM):Prop extends EL X iN ["list","branches","moved","kept","tuple","len"],fY X.K X.mg CL where
 T4:Fc X CL "branches" 3 4 mC jF mD
 ahY:Fc X CL "moved" 46 4 vP qF qG
 B3:Fc X CL "kept" 5 2 Aa uW Ab
 lP:Fu X CL "Growth" "number_of" 1 3 dh di dm
 jg:IT X CL "Growth" "number_of" 1 3 cT dU dW cU
 PY:r3 X CL "branches" 3 4 jG gZ jH
theorem uX(E:qa X CL){y:Addr}{w:World}{s:GS}(h:WR c mo s n sg)(Z:Rc c mo s n sg=none->∃I W,X=Cx.hu I (XE I W)/\dX b W QeF) :
  cG X CL b (bJ iM) (oX iN [.pin y Qli,.sh QdP,.sh Qe1]) {nx:=λU=>∃s',Rc c mo s n sg=some s'/\Keeps U [.pin y (.ins "Growth" (Np c.d mo w s')),.sh QdP,.sh Qe1],rt:=λ_ _=>False}:=by
 obtain⟨f,nd,ln,ae,gd,hn,hk,aa,IC⟩:=h;obtain⟨p,G⟩:∃p,p=s.fl.getD n ([],[]):=⟨_,rfl⟩;have B:s.fl[n]? = some p:=by rw[G,i4,iB hn];rfl
 have o:Gd c p:=gd p (i0 B);have g1:=o.b;have g3:=ap6 o;have n1:=f.k.n1;have wl:=f.k.wl;have J:=f.k.kl;have N:=f.k.pre.1;have F:=f.q (c.bs.map (·.2)) (cq ..);have Ni:yO QeO (n:Int)=some (v5 p):=dQ (by rw[ib,B];rfl);unfold Np;refine aG E.g Qat (AH E.dg (cM (aZ QuI ao qW) (by show D.aY _=true;exact bI _)) QP aW) ?_;refine aG E.g Qau (AH E.dg (cM (aZ QuI ao vY) (by show D.aY _=true;exact bI _)) QP aW) ?_;refine aG E.g Qay (cu bG aC) ?_;show cG X CL b _ [some QkN,some Qc1,some QjC,some _,some _,some Qdc,none,none,none] _;by_cases hw:s.sp<(ou c p sg).length
 .have e:Rc c mo s n sg=none:=by unfold Rc;rw[<- G,ec hw]
  obtain⟨I,W,rfl,R⟩:=Z e;refine RM E.g QqX (λ_ U=>U.length=9/\U[0]? = some (some T.bad)) (VA (c7 (ds:=[]) (V3 (t:=.sh Qdc) (U2:=[some T.bad,none,none,none,none,none,none,none,none]) (c.bs.map qx,c.nm,c.ks,c.es,c.ss,c.is.map .tup,c.os.map .tup,c.ws,p.1,sg,s.sp) V1 R E.PY Q1
   (gi (VQ (fL E.aS E.gX Qb8 rfl rfl k9) rfl (gW k9)).m (gi (JJ (E.ll 3).1 rfl).m (gi (v_ (E.ll 2).1).m (gi (VQ Qrf rfl (gW tZ)).m Dw)))) (by dsimp only [gZ];exact⟨⟨N,We,J⟩,⟨We,F.ok,F.g⟩,⟨We,g1⟩,hw,IC⟩)))) ⟨rfl,rfl⟩ (λj U z i hi=>?_) (λj d U hd=>by cases hd) (λU z=>V2 0 z.2)
  simp only[fF,iu,or_false]at hi;rw[z.1];obtain rfl|rfl:=hi<;>decide
 have hB:(ou c p sg).length<=s.sp:=by lia
 refine RM E.g QqX (λj U=>∃x M L C,O5 c mo p ((ou c p sg).take j) (s.fl,[])=some x/\U=[some (.pin y (.ins "Growth" (Bc c.d mo (.lst ((x.1.map v5).map T.sh)) (.jN w (x.1.map v5) (Lp x.1.length)) _ Qm5))),some Qc1,some QjC,some _,some _,some (.lst ((x.2.map WH).map T.sh)),M,L,C])
  (VA (c7 (fC (aQ (c_ (c.bs.map qx,c.nm,c.ks,c.es,c.ss,c.is.map .tup,c.os.map .tup,c.ws,p.1,sg,s.sp) E.T4 Q1 (ah QkR (ah QcZ (ah Q3 (ah (iQ Qrf rfl (gW tZ) rfl) aF)))) (by dsimp only [jF];exact⟨⟨N,We,J⟩,⟨We,F.ok,F.g⟩,⟨We,g1⟩,hB,IC⟩) (bT (gU (λx=>ahz x) _))) (t2:=.lst (((ou c p sg).map vW).map T.sh)) rfl)))) ⟨(s.fl,[]),none,none,none,rfl,rfl⟩ (λj U ⟨x,_,_,_,_,e⟩ i hi=>?len) ?turn ?fin
 case len=>
  subst e;simp only[fF,iu,or_false]at hi;obtain rfl|rfl:=hi<;>exact hT rfl
 case turn=>
  rintro j d U Y ⟨x,M,L,C,l,rfl⟩;rw[ib]at Y;obtain⟨a,v,rfl⟩:=mf.1 Y;have P:=i0 v;obtain⟨A,_⟩:=Ly f o _ (n:=0) (λz hz=>wg hz) ⟨nd,ln,gd,rfl,λr O=>by cases O⟩ l;have kl:=A.rl;have V:=A.ln;rw[l9]at kl;obtain⟨pn,pk⟩:=O4 sg a P;have S:=WM f pn pk;have K:D.aY QnG=true:=fB λd hd=>WN (Yf f S d hd);have pl:a.2.length<=63:=by
   have:=ic (n:=c.ws.length) pn pk;lia
  refine⟨ _,rfl,?_⟩;show cG X CL b _ [some QkN,some Qc1,some QjC,some _,some _,some _,some _,some _,C] _;have em:qG (c.bs.map qx,c.nm,c.ks,c.es,c.ss,c.is,c.os,c.ws,p.1,p.2,G0 c a.2)=T.tup [.lst ((o3 c p Qbp).map T.sh),.lst (((toN c p Qbp).1.map .int).map T.sh),.lst (((toN c p Qbp).2.map .int).map T.sh)]:=rfl;have wo:=f.k.wo;refine aG E.g Qit (jx (d:=.tup [.lst QnG,.lst ((toN c p Qbp).1.map .int),.lst ((toN c p Qbp).2.map .int)]) (aQ (c_ _ E.ahY QaC (ah QkR (ah QcZ (ah Qcv (ah (bQ (aQ (c_ (c.bs.map qx,c.nm,c.ks,c.es,c.ss,c.is.map .tup,c.os.map .tup,c.ws,a.2) E.B3 QaJ (ah QkR (ah (bQ (AH E.dg QeS QP aW)) aF)) (by dsimp only [uW];exact⟨N,We,J,pl,pk,λw hw=>⟨(wo w hw).1,by have:=(wo w hw).2.1;lia⟩⟩) (aR _)) rfl)) aF)))) (by dsimp only [qF];exact⟨f.k,⟨o.s,o.b⟩,o.m,S⟩) ?cl) em) ?fr) ?_
  case cl=>
   rw[em];rw[T.clean,T.dR,T.dR,T.dR,T.dR,bT K,aR,aR];rfl
  case fr=>rw[T.bU,T.dz,T.dz,T.dz,T.dz,bV,bV,bV]
  show cG X CL b _ [some QkN,some Qc1,some QjC,some _,some _,some _,some _,some _,some (.sh (.tup [.lst _,.lst _,.lst _]))] _;have hlen:((x.2.map WH).map T.sh).length<=1000000:=by rw[cq,cq];lia
  by_cases H:tf c mo p x a
  .have e:Rc c mo s n sg=none:=by unfold Rc;rw[<- G,bS hw,ady v l H];rfl
   obtain⟨I,W,rfl,R⟩:=Z e;refine UP (E.ll 5).1 rfl (VW (tl:=[.sh (.tup QoD),.sh _,.sh .non]) (gi (v_ (E.ll 6).1).m (gi (mQ E.rD Qs7 K QbD).m (gi (Oo (t:=.sh .non) (U2:=[some T.bad,none,none,none,none,some _,none,none,none]) (dl:=[.lst _,.lst _]) Qpj V1 (λ_=>R) E.lP (E.ll 0).1 (.pin rfl) Qp0 (λ_ _=>⟨⟨A.nd,V,We⟩,H⟩)).m Dw))) aC) rfl hlen QoZ
  refine UP (E.ll 5).1 rfl (ace (ds:=[.tup QoD,.tup _,.int _]) (gi (v_ (E.ll 6).1).m (gi (mQ E.rD Qs7 K QbD).m (gi (qM (dl:=[.lst _,.lst _]) Qpj (.pin y (.ins "Growth" _)) E.jg (E.ll 0).1 (.pin rfl) Qp0 (λ_ _=>⟨⟨A.nd,V,We⟩,H⟩) Qcc (λz hz=>by cases hz;exact⟨rfl,.inr rfl,trivial⟩)) Dw))) aC) rfl hlen (ai ⟨rb c p x a,some (.sh (.tup QoD)),some (.sh (.tup (a.2.map .int))),some (.sh (.tup [.lst QnG,.lst ((toN c p Qbp).1.map .int),.lst ((toN c p Qbp).2.map .int)])),adz v l H,?_⟩);show [_,_,_,_,_,some (T.lst ((x.2.map WH).map T.sh++[T.sh _])),_,_,_]=_;rw[show(x.2.map WH).map T.sh++[T.sh _]=((rb c p x a).2.map WH).map T.sh by unfold rb;rw[h7,h7];rfl];rfl
 case fin=>
  rintro U ⟨x,M,L,C,l,rfl⟩;rw[cq,ka]at l;obtain⟨A,_⟩:=Ly f o _ (n:=0) (λz hz=>hz) ⟨nd,ln,gd,rfl,λr O=>by cases O⟩ l;have kl:=A.rl;rw[Nat.zero_add]at kl;refine acr E.aS E.fE Qb8 rfl rfl tZ (au (cB (cq ..) E.e7 Qcy Qde)) QaG ?_;show cG X CL b _ [some (.pin y _),_,_,_,_,_,_,_,_] _;rw[ahp];refine VY (zQ n sg) E.u QnD (fL E.aS E.pA Qb8 rfl rfl DH) (aQ (oU (aH Qbo (aH Qax bG)) aC) rfl) rfl (gW DH) (by rw[show(gK QbZ).map (·.1)=s.rs.map (·.1) by unfold gK fX;rw[hW,hW];rfl];exact hk) (by unfold gK fX;rw[cq,cq];lia) (ai ⟨⟨x.1,s.rs++[(zQ n sg,x.2)],s.sp-x.2.length⟩,?_,?_⟩)
  .unfold Rc;rw[<- G,bS hw,l];rfl
  .show Keeps [some (T.lD [.fld "rows"] _ _),_,_,_,_,_,_,_,_] _;have e1:gK QbZ++[(zQ n sg,T.lst ((x.2.map WH).map T.sh))]=gK (fX (s.rs++[(zQ n sg,x.2)])):=by unfold gK fX;rw[h7,h7];rfl
   have e2:((s.sp:Nat):Int)-(x.2.length:Nat)=((s.sp-x.2.length:Nat):Int):=by lia
   rw[e1,e2];exact US (ds:=[.int n,.str sg])
def HD(E:qa X CL) :
  L3.DdM X CL b iM iN gk iZ i6 gu:=by
 rintro⟨y,c,mo,w,s,n,sg⟩ h;dsimp only [iZ,gk,i6,gu]at h ⊢;obtain⟨h1,a⟩:=h;refine(uX E h1 λz=>absurd z a).mono (λU z=>?_) λ_ _ z=>z.elim;obtain⟨s',e,k⟩:=z;rw[e];exact⟨rfl,k⟩
abbrev lJ:Type:=Addr×CH×Nat×World×GS×Nat×Str
def gM:lJ->Bn:=λ(y,c,mo,w,s,n,sg)=>[.pin y Qli,.sh QdP,.sh Qe1]
def gO:lJ->Prop:=λ(y,c,mo,w,s,n,sg)=>WR c mo s n sg/\Rc c mo s n sg=none
def gP:lJ->Str:=λ(y,c,mo,w,s,n,sg)=>"TooWide"
def Gs(E:qa Qby CL)(y c mo w s n sg)(h:gO (y,c,mo,w,s,n,sg))(a:dX b W (CL (gP (y,c,mo,w,s,n,sg)))) :
  cG Qby CL b (bJ iM) (oX iN (gM (y,c,mo,w,s,n,sg))) {nx:=λ_=>False,rt:=λ_ _=>False}:=by
 dsimp only [gO,gM,gP]at h a ⊢;refine(uX E h.1 λ_=>⟨X,W,rfl,a⟩).mono (λU z=>?_) λ_ _ z=>z.elim;obtain⟨s',e,_⟩:=z;rw[h.2]at e;cases e
noncomputable def fO:FG iN ["self","number","sign"] ["list","branches","moved","kept","tuple","len"] (ak iM):=fG
def yx(l:At):(v8 l).Nodup:=by
 unfold v8;have gen:∀(l acc:At),acc.Nodup->(l.foldl BH acc).Nodup:=by
  intro l
  induction l with
  | nil=>intro acc h;exact h
  | cons x l b=>
   intro acc h;rw[pj];refine b _ ?_;unfold BH;split
   .exact h
   .rename_i hn;rw[kc];exact⟨h,kn.2 ⟨iu,lr⟩,λa f c d e=>by cases hU.1 d;exact hn (e▸f)⟩
 exact gen l [] lr
def gQ(c:CH):At:=v8 (c.ws.map (·.sign))
def JI(w:bO):D×Str×BB:=(.int w.src,w.sign,[.tup w.asks,.tup w.Cu,.int w.ij,.str w.mode])
theorem Mv(h:c.Ok):(gQ c).length<=12:=by
 have:=Py (c.ws.map (·.sign));have:=h.k.wl;unfold gQ;rw[cq] at *;lia
def TZ(h:c.Ok)(hm:0<mo):rC c mo (gQ c) 0 0 Qfa:=by
 refine⟨kn.2 ⟨iu,lr⟩,hm,Nat.one_pos,λp b=>?_,?_,lr,λq a=>(by cases a),hI _⟩
 .cases hU.1 b;exact(amk h).1
 .show []=Fv (gQ c) 0 0;unfold Fv;rw[uk];rfl
theorem rC.pre(h:c.Ok){s:GS}(k:rC c mo (gQ c) n j s)(hm:mo<=100)(hn:QjB)(a:(gQ c)[j]? = some sg):WR c mo s n sg:=by
 have ln:=k.ln;have sp:=k.sp;refine⟨h,k.nd,ln,hm,k.gd,hn,?_,?_,We⟩
 .rw[k.ks];exact Js (yx _) n a
 .have e:=congrArg List.length k.ks;rw[cq]at e;have hl:=Mv h;have:(Fv (gQ c) n j).length<=12*n+12:=by
   unfold Fv;rw[iq,cq,l9];have f:=j5 (f:=λm=>(gQ c).map (zQ m)) (c:=12) (List.range n) λm _=>by rw[cq];exact hl
   rw[kr]at f;lia
  lia
theorem TU{c:CH}(h:c.Ok){mo n:Nat}:∀(l:At) {j:Nat} {s s':GS},(gQ c).drop j=l->rC c mo (gQ c) n j s->n<s.fl.length->Rf c mo n l s=some s'->rC c mo (gQ c) n (gQ c).length s'/\s.fl.length<=s'.fl.length
 | [],j,s,s',e,k,_,g=>by
  cases g;have a:=List.drop_eq_nil_iff.1 e;have e2:Fv (gQ c) n j=Fv (gQ c) n (gQ c).length:=by unfold Fv;rw[List.take_of_length_le a,ka]
  exact⟨⟨k.nd,k.ln,k.p0,k.gd,k.ks.trans e2,k.kd,k.rw,k.sp⟩,hI _⟩
 | sg::l,j,s,s',e,k,hn,g=>by
  have a:=by
   have:=congrArg (·[0]?) e;simpa using this
  rw[Rf]at g;cases b:Rc c mo s n sg with
  | none=>rw[b]at g;cases g
  | some s2=>
   rw[b]at g;obtain⟨k2,l2⟩:=S3 h (yx _) k a hn b;obtain⟨k3,l3⟩:=TU h l (by rw[<- List.drop_drop,e];rfl) k2 We g;exact⟨k3,jq l2 l3⟩
theorem TM{c:CH}(h:c.Ok){mo:Nat}:∀(f:Nat) {n:Nat} {s s':GS},rC c mo (gQ c) n 0 s->n<=s.fl.length->mo<=n+f->ti c mo (gQ c) f n s=some s'->rC c mo (gQ c) s'.fl.length 0 s'
 | 0,n,s,s',k,hn,hf,e=>by
  cases e;have:=k.ln;have e2:n=s.fl.length:=by lia
  subst e2;exact k
 | f+1,n,s,s',k,hn,hf,e=>by
  rw[ti]at e;split at e
  .rename_i b;cases a:Rf c mo n (gQ c) s with
   | none=>rw[a]at e;cases e
   | some s2=>
    rw[a]at e;obtain⟨k2,l2⟩:=TU h (gQ c) (j:=0) rfl k b a;have ks:=k2.ks;rw[WQ]at ks;exact TM h f ⟨k2.nd,k2.ln,k2.p0,k2.gd,ks,k2.kd,k2.rw,k2.sp⟩ We We e
  .cases e;have e2:n=s.fl.length:=by lia
   subst e2;exact k
theorem TK(h:c.Ok)(hm:0<mo){s:GS}(e:Nq c mo (gQ c)=some s):rC c mo (gQ c) s.fl.length 0 s:=TM h mo (TZ h hm) (hY _) We e
def Zn(l:QoR):(fX l).map (·.1)=l.map (·.1):=by unfold fX;rw[hW];rfl
def ad8{hs:At}{s:GS}(k:rC c mo hs n j s):∀q∈fX s.rs,D.aY q.2=true:=λq e=>by
 obtain⟨r,b,rfl⟩:=hP.1 e;exact fB λd hd=>by obtain⟨x,a,rfl⟩:=hP.1 hd;exact WO ((k.rw r b).2 x a)
def ahZ(p:Pl):(v5 p).jS=true:=by
 show(D.tup [.tup _,.tup _]).jS=true;rw[D.jS,D.aY,D.aY,D.aY,D.jS,D.jS,bI,bI];rfl
def Nr(c:CH):BB:=inR c.is (YN c).1
abbrev Ac:=top 62
abbrev Mw:=CH×Nat
abbrev Ad:At:=["chart","most","start","names","growth","number","sign"]
def vR:Mw->BB:=λ(c,mo)=>[c.d,.int mo]
def vS:Mw->Prop:=λ(c,mo)=>(c.Ok/\0<mo/\mo<=100)/\Nq c mo (gQ c)≠none
def vU:Mw->T:=λ(c,mo)=>(.tup [.sh QsD,.sh (.tup (Nr c)),.lst ((((Nq c mo (gQ c)).getD Qfa).fl.map v5).map T.sh),.dct (gK QqH)]:T)
structure Mx(X:Cx)(CL:BM):Prop extends EL X Ad ["begun","signs","Growth","len","tuple"],fY X.K X.mg CL where
 ah0:Fc X CL "begun" 44 1 BE BF vN
 ah1:Fc X CL "signs" 1 1 BI qC vO
 ad9:Fm X CL "Growth" 1 3 sP sQ sR
 lP:Fu X CL "Growth" "number_of" 1 3 dh di dm
 jg:IT X CL "Growth" "number_of" 1 3 cT dU dW cU
 Gu:Fu X CL "Growth" "grow" 47 3 gM gO gP
 HF:IT X CL "Growth" "grow" 47 3 gk iZ i6 gu
theorem PZ(E:Mx X CL)(h:c.Ok/\0<mo/\mo<=100)(H:Nq c mo (gQ c)=none->∃r W,X=Cx.hu r (XE r W)/\dX b W QeF) :
  cG X CL b (bJ Ac) (entry Ad [c.d,.int mo]) {nx:=λ_=>False,rt:=λu _=>∃s,Nq c mo (gQ c)=some s/\u=.tup [.sh QsD,.sh (.tup (Nr c)),.lst ((s.fl.map v5).map T.sh),.dct QoB]}:=by
 obtain⟨l,m0,m1⟩:=h;have i:=l.k;have n1:=i.n1;have wl:=i.wl;have I:=OS l;have q:D.aY (Nr c)=true:=(A8 i.ir (YN c).1).2;refine aG E.g QaD (jx (d:=.tup [.lst (Nr c),.lst ((YN c).1.map .int),.lst ((YN c).2.map .int)]) (aQ (c_ (c.bs.map qx,c.nm,c.ks,c.es,c.ss,c.is,c.os.map .tup,c.ws.map j4) E.ah0 QP (ah Q2 aF) (by exact⟨l.nl,i.n0,We,i.kl,i.sl,i.il,i.ir,i.kinds,I⟩) ?cl) (t2:=.tup [.lst ((Nr c).map T.sh),.lst (((YN c).1.map .int).map T.sh),.lst (((YN c).2.map .int).map T.sh)]) rfl) ?fr) ?_
 case cl=>
  show T.clean (.tup [.lst ((Nr c).map T.sh),.lst _,.lst _])=true;rw[T.clean,T.dR,T.dR,T.dR,T.dR,bT q,aR,aR];rfl
 case fr=>rw[T.bU,T.dz,T.dz,T.dz,T.dz,bV,bV,bV]
 have v:(c.ws.map JI).map KC=c.ws.map j4:=by rw[hW];rfl
 have a:v8 ((c.ws.map JI).map (·.2.1))=gQ c:=by rw[hW];rfl
 refine aG E.g Qat (fC (aQ (c_ (c.bs.map qx,c.nm,dG c.ks c.es c.ss,c.is.map .tup,c.os.map .tup,c.ws.map JI) E.ah1 Q1 (ah (Cj Q2 (by show c.d=_;unfold CH.d;rw[v])) aF) (by dsimp only [qC];rw[List.length_map];lia) (qY _)) (by show T.lst _=_;rw[a]))) ?_;refine aG E.g Qau (NP (c.d,mo,X.w) E.ad9 QaC Qvd trivial) ?_;refine Kx (qM (dl:=[.lst _,.lst _]) (λy=>(y,c.d,mo,X.w,(⟨[],[],8*mo⟩:GS),YN c)) (.ins "Growth" (Np c.d mo X.w Qfa)) E.jg (E.ll 4).1 QoT (aH (bW Qax ao vY) (aH (bW Qax ao EC) bG)) (λ_ _=>⟨⟨List.nodup_nil,Nat.zero_le _,We⟩,λz=>by have:=z.2;dsimp only [List.length_nil]at this;lia⟩) Qcc (λz _=>⟨rfl,.inl (by dsimp only;rw[ahs];rfl),trivial⟩)) ?_;refine aG E.g Qay lB ?_;show cG X CL b _ [some Qkj,some (.sh (.int mo)),some (.sh _),some _,some _,some (.sh (.int 0)),none] _;refine zj E.g (λk U=>∃(n:Nat) (s:GS) (o:FC),rC c mo (gQ c) n 0 s/\n<=s.fl.length/\Nq c mo (gQ c)=ti c mo (gQ c) (mo-n) n s/\k=mo-n/\U=[some Qkj,some _,some (.sh _),some _,some (.ins "Growth" (Np c.d mo X.w s)),some Qc1,o]) _
  ⟨0,q7 c mo,none,TZ l m0,hY _,rfl,rfl,rfl⟩ ?_
 rintro k U ⟨n,s,o,hs,hn,he,rfl,rfl⟩;have F:=hs.ln;refine⟨_,_,(Ef Qa1 (au (cB (cq ..) E.e7 (iQ Qq2 rfl (Lw eu) (bV _)) QaJ))).1,λG=>?_,λG=>?_⟩
 .obtain⟨f,hf⟩:∃f,mo-n=f+1:=⟨mo-n-1,We⟩;rw[hf,ti,ec We]at he;refine fK E.g Qa0 (λj U=>∃(s2:GS) (o:FC),Rf c mo n ((gQ c).take j) s=some s2/\rC c mo (gQ c) n j s2/\n<s2.fl.length/\U=[some Qkj,some _,some (.sh _),some _,some (.ins "Growth" (Np c.d mo X.w s2)),some Qc1,o]) (c7 Qbc) ⟨s,o,rfl,hs,We,rfl⟩ (λj U ⟨_,_,_,_,_,e⟩=>by subst e;exact hT rfl) ?turn ?fin
  case turn=>
   rintro j d U A ⟨s2,o,e2,k2,n2,rfl⟩;rw[ib]at A;obtain⟨sg,a,rfl⟩:=mf.1 A;have C:=k2.pre l m1 n2 a;cases p:Rc c mo s2 n sg with
   | none=>
    have x:Nq c mo (gQ c)=none:=by
     have hl:=(ko.1 a).1;have K:=by
      have B:=wi j (gQ c);rw[wt hl,(ko.1 a).2]at B;exact B.symm
     have e3:Rf c mo n (gQ c) s=none:=by
      rw[K,Lz,e2];show Rf c mo n (sg::_) s2=none;rw[Rf,p];rfl
     rw[he,e3];rfl
    obtain⟨r,W,rfl,J⟩:=H x;exact Kx (Oo (t:=.sh .non) (U2:=[some T.bad,none,none,none,none,none,none]) (dl:=[.int n,.str sg]) (λy=>(y,c,mo,r.w,s2,n,sg)) V1 (λ_=>J) E.Gu (E.ll 4).1 QoT QsE (λ_ _=>⟨C,p⟩)).m QoZ
   | some s3=>
    obtain⟨k3,l3⟩:=S3 l (yx _) k2 a n2 p;refine Kx (qM (dl:=[.int n,.str sg]) (λy=>(y,c,mo,X.w,s2,n,sg)) _ E.HF (E.ll 4).1 QoT QsE (λ_ _=>⟨C,by rw[p];intro z;cases z⟩) Qcc (λz _=>⟨rfl,.inl (by rw[p];rfl),trivial⟩)) (ai ⟨s3,_,?_,k3,We,rfl⟩);rw[gw a,Lz,e2];show Rf c mo n [sg] s2=some s3;rw[Rf,p];rfl
  case fin=>
   rintro U ⟨s2,o,e2,k2,n2,rfl⟩;rw[cq,ka]at e2;rw[cq]at k2;refine alU E.g Qay rfl ao (ai ⟨mo-Qaa,We,n+1,s2,o,?_,n2,?_,rfl,rfl⟩)
   .have ks:=k2.ks;rw[WQ]at ks;exact⟨k2.nd,k2.ln,k2.p0,k2.gd,ks,k2.kd,k2.rw,k2.sp⟩
   .rw[he,e2,show mo-Qaa=f by lia];rfl
 .have x:Nq c mo (gQ c)=some s:=by
   rw[he];cases mo-n with
   | zero=>rfl
   | succ f=>rw[ti,bS We]
  exact aU (oU (aH Qbc (aH (mQ E.rD (au (bW Qax ao qW)) q QbD) (aH (apJ (VR Qq2 rfl (Lw eu)) (U2:=[some Qkj,some _,some (.sh _),some _,some (.ins "Growth" (Bc c.d mo QoO _ _ _)),some Qc1,o]) (by show [_,_,_,_,some (T.lD [.fld "flats"] _ _),_,_]=_;unfold Np;rw[aht eu (ahn _)])) (aH (VR (fL E.aS E.pA Qh3 rfl rfl DH) rfl (Lw DH)) bG)))) aC) ⟨s,x,rfl⟩
def ah2(E:Mx X CL) :
  kD X CL b Ac Ad vR vS vU:=by
 rintro⟨c,mo⟩ h;dsimp only [vS,vR,vU]at h ⊢;obtain⟨h1,a⟩:=h;refine(PZ E h1 λz=>absurd z a).mono QeG λv U z=>?_;obtain⟨s,e,k⟩:=z;rw[e];exact k
abbrev B4:Type:=CH×Nat
def oH:B4->BB:=λ(c,mo)=>[c.d,.int mo]
def oJ:B4->Prop:=λ(c,mo)=>(c.Ok/\0<mo/\mo<=100)/\Nq c mo (gQ c)=none
noncomputable def oK:B4->Str:=λ(c,mo)=>"TooWide"
def aea(E:Mx Qby CL)(c mo)(h:oJ (c,mo))(a:dX b W (CL (oK (c,mo)))) :
  cG Qby CL b (bJ Ac) (entry Ad (oH (c,mo))) {nx:=λ_=>False,rt:=λ_ _=>False}:=by
 dsimp only [oJ,oH,oK]at h a ⊢;refine(PZ E h.1 λ_=>⟨X,W,rfl,a⟩).mono QeG λv U z=>?_;obtain⟨s,e,_⟩:=z;rw[h.2]at e;cases e
noncomputable def qH:FG Ad ["chart","most"] ["begun","signs","Growth","len","tuple"] (ak Ac):=fG
abbrev sF:=inClass (top 64) 0
abbrev sG:=BB×BB×BB×BB×(List (lE×BB))
noncomputable abbrev sH:At:=["self","boxes","signs","begin","flats","rows","key"]
def uY:sG->BB:=λ(bs,hs,bg,pr,kvs)=>[.lst bs,.lst hs,.tup bg,.lst pr,.dct (fQ kvs)]
def uZ:sG->Prop:=λ(bs,hs,bg,pr,kvs)=>D.aY bs=true/\D.aY hs=true/\D.aY pr=true/\(∀q∈kvs,D.aY q.2=true)/\(kvs.map (·.1)).Nodup/\kvs.length<=5000
def u9:sG->BS:=λ(bs,hs,bg,pr,kvs)=>(O2 bs hs bg pr kvs:BS)
theorem My(E:Dh sH ["list","tuple"] X CL)(bs hs bg pr:BB)(kvs:QcR)(y:Addr)(h:D.aY bs=true/\D.aY hs=true/\D.aY pr=true/\(∀q∈kvs,D.aY q.2=true)/\(kvs.map (·.1)).Nodup/\kvs.length<=5000) :
  cG X CL b (bJ sF) (Kl sH y "Table" [.lst bs,.lst hs,.tup bg,.lst pr,.dct (fQ kvs)]) {nx:=λU=>U[0]? = some (some (.pin y QqL)),rt:=λ_ _=>False}:=by
 obtain⟨h1,t,s,r,p,w⟩:=h;apply fM E.fD E.Hq (E.ll 0).1 (cD E.dg QU h1 QP aW).m rfl QaG;rw[zk];apply fM E.fD E.wR (E.ll 0).1 (cD E.dg Q3 t QP aW).m rfl QaG;rw[dJ Wf,zk];apply fM E.fD E.Hr (E.ll 0).1 (Yp E.rD Qbc Q1).m rfl QaG;rw[dJ Wf,dJ Wf,zk];apply fM E.fD E.wQ (E.ll 0).1 (cD E.dg Qbk s QP aW).m rfl QaG;rw[dJ Wf,dJ Wf,dJ Wf,zk];apply fM E.fD E.fj (E.ll 0).1 Oe.m rfl QaG;rw[dJ Wf,dJ Wf,dJ Wf,dJ Wf];refine agL E.g Qa0 (λj U=>∃o,U=[some (.pin y (.ins _ Qqe)),some _,some _,some _,some _,some _,o]) Qbw ⟨_,rfl⟩ (λj U ⟨_,e⟩=>by subst e;exact hT rfl) ?turn ?fin
 case turn=>
  rintro x j k d U c ⟨o,rfl⟩;have n:=c;unfold fQ at c;rw[ib]at c;obtain⟨q,l,e⟩:=mf.1 c;cases e;have f:=i0 l;have hv:=Lk (by rw[SK];exact p) n;have hn:q.1∉(gK Qmh).map _:=λhm=>by
   rw[SM,List.map_take]at hm;obtain⟨i,hi,e⟩:=List.getElem_of_mem hm;rw[l9]at hi;rw[List.getElem_take]at e;have a:i<(kvs.map (·.1)).length:=by lia
   have:=(Hk a p).1 (show(kvs.map _)[i]? = (kvs.map _)[j]? by
    rw[iB a,e,ib,l];rfl)
   lia
  refine VY q.1 E.u (cD E.dg (abV q.1 E.u Qa1 QuJ hv) (r q f) QP aW) (fL E.fD E.fj Qb8 rfl rfl YW) QuJ rfl (by rfl) hn (by unfold gK;rw[cq,l9];lia) (ai ⟨some (zo q.1),?_⟩);have e:T.lD [.fld "rows"] (.dct (gK Qmh++[(q.1,.lst Qn2)])) (.pin y (.ins "Table" Qqe))=.pin y (.ins "Table" (Lj bs hs bg pr (.dct (gK QuK)))):=by
   have v:gK Qmh++[(q.1,T.lst Qn2)]=gK QuK:=by
    unfold gK;rw[rk,l,h7];rfl
   rw[v];exact YX
  show [some (T.lD [.fld _] _ _),_,_,_,_,_,_]=_;rw[e]
 case fin=>
  rintro U ⟨o,rfl⟩;rw[show(fQ kvs).length=kvs.length by unfold fQ;rw[cq],ka];exact ai rfl
noncomputable def qb:FG sH ["self","boxes","signs","begin","flats","rows"] ["list","tuple"] (ak sF):=fG
abbrev oM:=top 65
abbrev vd:=CH×Nat
noncomputable abbrev oN:At:=["chart","most","parts"]
def qc:vd->BB:=λ(c,mo)=>[c.d,.int mo]
def qd:vd->Prop:=λ(c,mo)=>(c.Ok/\0<mo/\mo<=100)/\Nq c mo (gQ c)≠none
def kM:vd->T:=λ(c,mo)=>(.ins "Table" (O2 QeN ((gQ c).map .str) (Nr c) (((Nq c mo (gQ c)).getD Qfa).fl.map v5) QqH):T)
structure CN(X:Cx)(CL:BM):Prop extends EL X oN ["grown","Table"],fY X.K X.mg CL where
 ah3:Fc X CL "grown" 48 2 vR vS vU
 ah4:Fm X CL "Table" 1 6 uY uZ u9
 aeb:r3 X CL "grown" 48 2 oH oJ oK
theorem P0(E:CN X CL) :
  kD X CL b oM oN qc qd kM:=by
 rintro⟨c,mo⟩ h;dsimp [kM]at h ⊢;obtain⟨⟨a,m0,m1⟩,i⟩:=h;obtain⟨s,e⟩:∃s,Nq c mo _=some s:=Option.ne_none_iff_exists'.1 i;have hs:=TK a m0 e;apply aG E.g QaD (jx (d:=.tup _) (cF (c,mo) E.ah3 QP Qvd ⟨⟨a,m0,m1⟩,i⟩) (by
  show T.bU (.tup _)=_;rw[e];rw[T.bU,T.dz,T.dz,T.dz,T.dz,bV,T.bU,T.bU,T.bU,Jr]))
 have k:=hs.ln;have j:(fX s.rs).length<=5000:=by
  have hl:=Mv a;have e2:=congrArg List.length hs.ks;rw[cq]at e2;have f:=j5 (f:=λm=>(gQ c).map (zQ m)) Qsm λm _=>by rw[cq];exact hl
  unfold Fv at e2;rw[uk,tL,hX]at e2;rw[kr]at f;unfold fX;rw[cq];lia
 exact aU (aQ (NP (c.bs.map qx,(gQ c).map .str,Nr c,s.fl.map v5,fX s.rs) E.ah4 Q1 (aj (jv E.bN E.wM QaE OB) (aj (bW Qax ao qW) (aj (bW Qax ao vY) (aj (bW Qax ao EC) (aj (bW Qax ao Om) aL))))) ⟨gU QcB _,m9 _,gU (ahZ) _,ad8 hs,by rw[Zn];exact hs.kd,j⟩) (by rw[e];rfl)) rfl
abbrev qe:Type:=CH×Nat
def i7:qe->BB:=λ(c,mo)=>[c.d,.int mo]
def i9:qe->Prop:=λ(c,mo)=>(c.Ok/\0<mo/\mo<=100)/\Nq c mo (gQ c)=none
noncomputable def ja:qe->Str:=λ(c,mo)=>"TooWide"
def Mz(E:CN Qby CL)(c mo)(h:i9 (c,mo))(a:dX b W (CL (ja (c,mo)))) :
  cG Qby CL b (bJ oM) (entry oN (i7 (c,mo))) {nx:=λ_=>False,rt:=λ_ _=>False}:=by
 dsimp only [i9,i7,ja]at h a ⊢;exact aG E.g QaD (V3 (t:=.sh .non) (U2:=[some T.bad,none,none]) (c,mo) V1 a E.aeb QP (gi (v_ (E.ll 0).1).m (gi (v_ (E.ll 1).1).m Dw)) h) QoZ
noncomputable def iA:FG oN ["chart","most"] ["grown","Table"] (ak oM):=fG
def vk(c:CH):T:=match Nq c 24 (gQ c) with
 | some s=>.ins "Table" QpN
 | none=>.sh .non
abbrev yy:=top 80
abbrev yz:=CH
noncomputable abbrev yC:At:=["chart","table"]
def sI:yz->BB:=λc=>[c.d]
def sJ:yz->Prop:=λc=>c.Ok
def mL:yz->T:=λc=>(vk c:T)
structure T5(X:Cx)(CL:BM):Prop extends EL X yC ["flattened","TooWide"],fY X.K X.mg CL where
 P1:Fc X CL "flattened" 49 2 qc qd kM
 MA:r3 X CL "flattened" 49 2 i7 i9 ja
 st:X.stack=X.env::X.outer
 fm:X.env.frame=some X.env.locals
 nx:X.xe=λ_ _=>False
 yE:exmOne X.K Qn3 Qn3=some true
def T6(E:T5 X CL) :
  kD X CL b yy yC sI sJ mL:=by
 intro c h;dsimp [mL]at h ⊢;apply aG E.g QcH aa2;unfold vk;cases e:Nq c 24 _ with
 | some s=>
  apply alP E.nx;refine aG E.g QcH (aQ (cF (c,24) E.P1 QP (aj QaE (aj lB aL)) ⟨⟨h,Wk,Wk⟩,by rw[e];intro z;cases z⟩) (t2:=.ins _ (O2 _ _ _ _ QbZ)) (by show T.ins _ _=_;rw[e];rfl)) (ai ?_);exact aU Qjc rfl
 | none=>
  refine alO E.st E.fm E.nx (λp=>apz E.g.nd (E.ll 1).pin (alN (c,24) E.nx E.MA.pin QP (ah (au (v_ (E.ll 0).1.pin)) Qje) ⟨⟨h,Wk,Wk⟩,e⟩)) (.hit Q1 E.xR E.yE Wk) λev=>?_;refine alQ E.g.nd (E.ll 1).hand aa2 (ai ?_);exact aU Qbo rfl
noncomputable def CP:FG yC ["chart"] ["flattened","TooWide"] (ak yy):=fG
def xn(l:List k8):AT:=l.flatMap λr=>Y3 r.2.1
def yF(s:GS)(n:Nat)(x:Str):List k8:=((s.rs.find? λq=>decide Qo0).map (·.2)).getD []
def xp(s:GS)(hs:At)(n:Nat):AT:=hs.flatMap λx=>xn (yF s n x)
def o4(s:GS)(hs:At):AT:=(List.range s.fl.length).flatMap (xp s hs)
def q4(n:Nat)(l:AT):AT:=((List.range n).map λ(i:Nat)=>(i:Int)).filter λw=>!decide (w∈l)
def mI(g l:AT):AT:=l.foldl jM g
def DM(g a c:AT):mI g (a++c)=mI (mI g a) c:=He ..
theorem MB{w:Int}:∀(l g:AT),w∈mI g l↔w∈g\/w∈l
 | [],g=>by simp[mI]
 | x::l,g=>by
  show w∈mI (jM g x) l↔_;rw[MB l,fF];unfold jM;split
  .rename_i h;exact⟨λz=>z.elim .inl λz=>.inr Qg3,λz=>z.elim .inl λz=>z.elim (λe=>.inl (e▸h)) .inr⟩
  .rw[hG,hU];exact⟨λz=>z.elim (λz=>z.elim .inl λe=>.inr Qfk) λz=>.inr Qg3,λz=>z.elim (λz=>.inl Qck) λz=>z.elim (λe=>.inl (.inr e)) .inr⟩
theorem Jz:∀(l g:AT),g.Nodup->(mI g l).Nodup
 | [],g,h=>h
 | x::l,g,h=>by
  refine Jz l (jM g x) ?_;unfold jM;split
  .exact h
  .rename_i hn;rw[kc];exact⟨h,kn.2 ⟨iu,lr⟩,λa d c b e=>by cases hU.1 b;exact hn (e▸d)⟩
structure o1(n:Nat)(g:AT):Prop where
 d:g.Nodup
 b:∀w∈g,0<=w/\w<(n:Int)
theorem o1.add{g:AT}(h:o1 n g)(hl:∀w∈l,0<=w/\w<(n:Int)):o1 n (mI g l):=⟨Jz l g h.d,λw hw=>((MB l g).1 hw).elim (h.b w) (hl w)⟩
theorem o1.len{g:AT}(h:o1 n g):g.length<=n:=ic h.d h.b
def ah6{hs:At}{x:Str}(hn:n<m)(a:x∈hs):zQ n x∈Fv hs m 0:=hZ _ (i5.2 ⟨n,lx.2 hn,xa a⟩)
theorem vV{s:GS}(k:QrA){x:Str}(hn:QjB)(b:x∈gQ c):(zQ n x,yF s n x)∈s.rs:=by
 have h:=ah6 hn b;rw[<- k.ks]at h;obtain⟨q,d,e⟩:=hP.1 h;unfold yF;cases a:s.rs.find? λq=>decide Qo0 with
 | none=>exact absurd (t4.1 a q d) (by rw[e];simp)
 | some r=>
  have e1:r.1=zQ n x:=iw (List.find?_some (p:=λq:lE×List k8=>decide Qo0) a);show(zQ n x,r.2)∈s.rs;rw[<- e1];exact HE a
def T7{s:GS}(k:QrA){x:Str}(hn:QjB)(a:x∈gQ c):oY QgW (zQ n x)=some (.lst ((yF s n x).map WH)):=by
 obtain⟨j,b⟩:=y4 (vV k hn a);refine Lk (j:=j) (by unfold fQ fX;rw[hW,hW];exact k.kd) ?_;unfold fQ fX;rw[ib,ib,b];rfl
def ah7(l:AT)(w:Int):(xA (Wm l) Qc6).isSome=decide (w∈l):=by
 unfold xA Wm
 induction l with
 | nil=>rfl
 | cons y l a=>
  rw[ik,nt];by_cases e:y=w
  .subst e;rw[kf (rfl:(Sum.inl y:Key)=Sum.inl y),kf (gF:y∈y::l)];rfl
  .rw[i3 (λz=>e (Sum.inl.inj z):¬ (Sum.inl y:Key)=Sum.inl w)];show((List.find? _ _).map _).isSome=_;rw[a];exact decide_eq_decide.2 ⟨λz=>hJ _ z,λz=>(fF.1 z).elim (λq=>absurd q.symm e) id⟩
def Gv(n:Nat):(fH 0 ((n:Nat):Int).toNat).length=n:=by unfold fH;rw[cq,kr,ji]
abbrev oO:=top 1
abbrev ve:=CH×GS
abbrev vf:At:=["chart","table","gone","flat","sign","row","part"]
def kN:ve->BB:=λ(c,s)=>[c.d,SJ QeN ((gQ c).map .str) (Nr c) QeO QbZ]
def kO:ve->Prop:=λ(c,s)=>c.Ok/\rC c 24 (gQ c) s.fl.length 0 s
def kP:ve->T:=λ(c,s)=>(.lst (((q4 c.ws.length Qod).map .int).map T.sh):T)
structure P4(X:Cx)(CL:BM):Prop extends EL X vf ["range","len"],fY X.K X.mg CL where
 TN:Jf X "gone"
theorem P5(E:P4 X CL) :
  kD X CL b oO vf kN kO kP:=by
 rintro⟨c,s⟩ h;dsimp only [kO,kN,kP]at h ⊢;obtain⟨hC,hs⟩:=h;have wl:=hC.k.wl;have fl:=hs.ln;have xC:∀{G:AT},o1 c.ws.length G->(Wm G).length<=1000000:=λ{G} g=>by
  have:=g.len;unfold Wm;rw[cq];lia
 refine aG E.g QaD Ks ?_;refine fK E.g Qat (λj U=>∃(G:AT) (S A f a:FC),o1 c.ws.length G/\G=mI [] ((List.range j).flatMap (xp s (gQ c)))/\U=[some _,some QhC,some (.iC (Wm G)),S,A,f,a]) (kX E.lY (au (cB (cq ..) E.e7 (cI E.fD E.wQ QU O1) Q1)) We QP) ⟨[],none,none,none,none,⟨lr,λw hw=>by cases hw⟩,rfl,rfl⟩ (λj U ⟨_,_,_,_,_,_,_,e⟩=>by subst e;exact hT rfl) ?turn ?fin
 case turn=>
  rintro n d U O ⟨G,S,A,f,a,Z,P,rfl⟩;obtain⟨rfl,hn⟩:=zf O;refine fK E.g Qau (λj U=>∃(I:AT) (A f a:FC),o1 c.ws.length I/\I=mI G (((gQ c).take j).flatMap λx=>xn (yF s n x))/\U=[some _,some QhC,some (.iC (Wm I)),some _,A,f,a]) (c7 (jv E.fD E.wR Qbo OZ)) ⟨G,A,f,a,Z,rfl,rfl⟩ (λj U ⟨_,_,_,_,_,_,e⟩=>by subst e;exact hT rfl) ?PL ?fin2
  case PL=>
   rintro j d U O ⟨I,A,f,a,K,v,rfl⟩;rw[ib]at O;obtain⟨x,V,rfl⟩:=mf.1 O;have L:=i0 V;have M:=(hs.rw _ (vV hs hn L)).2;have F4:=T7 hs hn L;generalize hR:yF s n x=R at M F4;refine fK E.g Qay (λk U=>∃(H:AT) (f a:FC),o1 c.ws.length H/\H=mI I (xn (R.take k))/\U=[some _,some QhC,some (.iC (Wm H)),some _,some _,f,a]) (c7 (abW _ E.u (jv E.fD E.fj Qbo j6) (aQ (oU (aH Qbc (aH QdE bG)) aC) (by rw[oP];rfl)) F4)) ⟨I,f,a,K,rfl,rfl⟩ (λj U ⟨_,_,_,_,_,e⟩=>by subst e;exact hT rfl) ?aqt ?auj
   case aqt=>
    rintro k d U Y ⟨H,f,a,J,t,rfl⟩;rw[ib]at Y;obtain⟨r,W,rfl⟩:=mf.1 Y;obtain⟨ra,ri,rl,rn,JY⟩:=M r (i0 W);refine fK E.g Qa0 (λm U=>∃(F:AT) (a:FC),o1 c.ws.length F/\F=mI H (Y3 (r.2.1.take m))/\U=[some _,some QhC,some (.iC (Wm F)),some _,some _,some _,a]) (RJ (bW Qbw ao vY)) ⟨H,a,J,rfl,rfl⟩ (λj U ⟨_,_,_,_,e⟩=>by subst e;exact hT rfl) ?aqv ?aul
    case aqv=>
     rintro m d U hm ⟨F,a,l,o,rfl⟩;obtain⟨w,y,z,rfl,hw⟩:=ahA (ri d (i0 hm));have N:Y3 (r.2.1.take (m+1))=Y3 (r.2.1.take m)++Y3 [.tup QoE]:=by
      unfold Y3;rw[gw hm,oI,h7]
     refine eO (je (aZ QbC ao qW) dY).1 (λB=>?_) (λB=>ai (ai ?_))
     .have B:=iw B;obtain⟨i,rfl⟩:=hw B;subst B;have e1:Y3 [.tup Qve]=[i]:=by
       unfold Y3;rw[List.filter_cons,ec (show decide ((D.tup _).N6.toS=("way":Str))=true from kf rfl)];rfl
      have hi:=JY i (hP.2 ⟨_,js.2 ⟨i0 hm,kf rfl⟩,rfl⟩);refine RW Qku E.u (E.ll 2).1 m7 (aZ QbC ao vY) rfl (xC l) (ai (ai ⟨jM F i,some (.sh (.tup Qve)),?_,?_,?_⟩))
      .exact l.add λw hw=>by cases hU.1 hw;exact hi
      .rw[N,e1,DM,<- o];rfl
      .rw[ag8];rfl
     .have B:=ky B;have e1:Y3 [.tup QoE]=[]:=by
       unfold Y3;rw[List.filter_cons,bS (show ¬ decide ((D.tup QoE).N6.toS=("way":Str))=true fromλq=>B (iw q))];rfl
      refine⟨F,_,l,?_,rfl⟩;rw[N,e1,hX];exact o
    case aul=>
     rintro U ⟨F,a,l,o,rfl⟩;rw[ka]at o;refine ai ⟨F,_,_,l,?_,rfl⟩;unfold xn;rw[gw W,ro,pz,List.flatMap_nil,hX,DM];unfold xn at t;rw[<- t];exact o
   case auj=>
    rintro U ⟨H,f,a,J,t,rfl⟩;rw[cq,ka]at t;refine ai ⟨H,_,_,_,J,?_,rfl⟩;rw[gw V,ro,pz,List.flatMap_nil,hX,DM,<- v,hR];exact t
  case fin2=>
   rintro U ⟨I,A,f,a,K,v,rfl⟩;rw[cq,ka]at v;refine ai ⟨I,_,_,_,_,K,?_,rfl⟩;rw[xf,ro,pz,List.flatMap_nil,hX,DM,<- P];exact v
 case fin=>
  rintro U ⟨G,S,A,f,a,Z,P,rfl⟩;rw[Gv]at P;refine Pt (i:=2) rfl (by rw[T.bU]) ?_;refine aU (aQ (nS (p:=λd=>!decide (d.qI∈G)) (g:=T.sh) (cH (.cons (E.ll 2).1 (.inl E.TN) .nil) Wf) E.g.calm (kX E.lY (au (cB (cq ..) E.e7 Qid Q1)) We QP) QaI (λC s0 H0 f0 b' d hd=>?EX) (by rw[Gv];exact ke (bB We))) ?eq) rfl
  case EX=>
   obtain⟨i,hi,rfl⟩:=hP.1 hd;exact⟨ath (af9 (.inl _) (E.u) (jl 0) (iK 1) rfl) (by rw[ah7];rfl),λ_=>aQ QjT rfl⟩
  case eq=>
   have eA:∀w:Int,w∈G↔w∈o4 s (gQ c):=λw=>by
    rw[P,MB];unfold o4;simp
   unfold q4 fH;rw[ji,mB,hW,mB,hW,hW];refine congrArg T.lst ?_;have ef:(List.range c.ws.length).filter ((λd:D=>!decide (d.qI∈G))∘λ(i:Nat)=>D.int _)=(List.range c.ws.length).filter _:=List.filter_congr λi _=>by
    show(!decide (0+(i:Int)∈G))=!decide ((i:Int)∈o4 s (gQ c));rw[oP,decide_eq_decide.2 (eA i)]
   rw[ef];refine ow λi _=>?_;show T.sh Qbu=_;rw[oP];rfl
def Ae:Q9 (ak oO) ([("chart",b9),("table",b9),("gone",.cell),("flat",b9),("sign",b9),("row",b9),("part",b9),("range",bE),("len",bE)])=true:=by decide +kernel
noncomputable def MC:cO vf ["chart","table"] (ak oO):=g9
def r8(w:Int):D:=.tup [.str "way",.int w]
def m3(s:GS)(w:Int):Bool:=s.rs.any λq=>q.2.any λr=>r.2.1.any λd=>tM d (r8 w)
def MD(h:p6 m d)(n:Nat):As (n+2) d:=by
 obtain⟨x,rfl,g⟩:=h;have s1:∀(w:Str) (r:BB),PyData.strOk w=true->(∀d∈r,As Qaa d)->As _ _:=λw r hw b=>.tup λd hd=>by
  obtain rfl|hd:=fF.1 hd
  .exact .str _ _ hw
  .exact b d hd
 have i1:∀l:AT,∀d∈l.map D.int,As Qaa d:=λl d hd=>by obtain⟨i,_,rfl⟩:=hP.1 hd;exact .int _ _
 have t1:∀a c,As Qaa QuL:=λa c=>.tup λd hd=>by
  obtain rfl|hd:=fF.1 hd
  .exact .int _ _
  .cases hU.1 hd;exact .int _ _
 cases x with
 | xK q=>
  cases q with
  | put i a c=>
   exact s1 "put" _ Wf λd hd=>by
    obtain rfl|hd:=fF.1 hd
    .exact .int _ _
    .cases hU.1 hd;exact t1 _ _
  | call s=>exact s1 "call" [.str s] Wf λd hd=>by cases hU.1 hd;exact .str _ _ g
  | say s a c=>
   exact s1 "say" [.str s,.tup _] Wf λd hd=>by
    obtain rfl|hd:=fF.1 hd
    .exact .str _ _ g.1
    .cases hU.1 hd;exact t1 _ _
 | out i=>exact s1 "out" ([i].map .int) Wf (i1 _)
 | keep i p q=>exact s1 "keep" ([i,p,q].map .int) Wf (i1 _)
 | way i=>exact s1 "way" ([i].map .int) Wf (i1 _)
 | Nh i=>exact s1 "in" ([i].map .int) Wf (i1 _)
noncomputable def MF(h:p6 m d)(n:Nat):lU (n+2) d:=(MD h n).dep
def ah8(w:Int):lU 60 (r8 w):=MF (m:=0) ⟨.way w,rfl,trivial⟩ 58
abbrev Gw:=top 81
abbrev Gy:=CH×GS×Int
abbrev Gz:At:=["table","way","rows","row"]
def yG:Gy->BB:=λ(c,s,w)=>[SJ QeN ((gQ c).map .str) (Nr c) QeO QbZ,.int w]
def yH:Gy->Prop:=λ(c,s,w)=>∀q∈s.rs,∀r∈q.2,∀d∈r.2.1,lU 60 d
def sL:Gy->T:=λ(c,s,w)=>(.sh (.bl (m3 s w)):T)
def aed(E:Dh Gz [] X CL) :
  kD X CL b Gw Gz yG yH sL:=by
 rintro⟨c,s,w⟩ h;dsimp [sL]at h ⊢;refine agM E.g QaD (λj U=>(∃(m f:FC),U=[some (.sh (.ins _ _)),some _,m,f])/\(s.rs.take j).any (λq=>q.2.any λr=>r.2.1.any λd=>tM d (r8 w))=false) (jv E.fD E.fj QaE j6) ⟨⟨none,none,rfl⟩,rfl⟩ (λj U ⟨⟨_,_,e⟩,_⟩=>by subst e;exact hT rfl) ?turn ?fin
 case turn=>
  rintro x j k d U o ⟨⟨m,f,rfl⟩,hf⟩;unfold fQ fX at o;rw[hW,ib]at o;obtain⟨q,t,e⟩:=mf.1 o;cases e;have l:=i0 t;refine fK E.g Qat (λk U=>(∃(f:FC),U=[some _,some _,some (.sh QuM),f])/\(q.2.take k).any (λr=>r.2.1.any λd=>tM d (r8 w))=false) (c7 Qax) ⟨⟨_,rfl⟩,rfl⟩ (λj U ⟨⟨_,e⟩,_⟩=>by subst e;exact hT rfl) ?PL ?fin2
  case PL=>
   rintro k d U v ⟨⟨f,rfl⟩,a⟩;rw[ib]at v;obtain⟨r,p,rfl⟩:=mf.1 v;have i:=i0 p;refine eO (agO (d:=r8 w) E.u (au (bD (aj dH Qix) aC)) (aZ Qac ao vY) (ah8 w) (h q l r i)) (λn=>?_) (λn=>ai (ai ⟨⟨_,rfl⟩,?_⟩))
   .apply aU m7;show T.sh _=T.sh _;rw[show m3 s w=true from nv.2 ⟨q,l,nv.2 ⟨r,i,n⟩⟩]
   .rw[gw p,List.any_append,a,my,n];rfl
  case fin2=>
   rintro U ⟨⟨f,rfl⟩,a⟩;rw[cq,ka]at a;refine ai ⟨⟨_,_,rfl⟩,?_⟩;rw[gw t,List.any_append,hf,my,a];rfl
 case fin=>
  rintro U ⟨⟨m,f,rfl⟩,hf⟩;rw[show(fQ _).length=s.rs.length by unfold fQ fX;rw[cq,cq],ka]at hf;apply aU m7;rw[show m3 s w=false from hf]
noncomputable def JA:FG Gz ["table","way"] [] (ak Gw):=fG
abbrev MG:=top 82
abbrev T8:=CH×GS×AT
noncomputable abbrev T9:At:=["chart","table","found","way"]
def GA:T8->BB:=λ(c,s,f)=>[c.d,SJ QeN ((gQ c).map .str) (Nr c) QeO QbZ,.lst (f.map .int)]
def GB:T8->Prop:=λ(c,s,f)=>c.Ok/\(∀q∈s.rs,∀r∈q.2,∀d∈r.2.1,lU 60 d)/\f.length<=1000
def GC:T8->T:=λ(c,s,f)=>(.sh (.bl (tM (.lst (f.map .int)) (.lst ((((List.range c.ws.length).map λ(i:Nat)=>(i:Int)).filter λw=>!m3 s w).map .int)))):T)
structure am4(X:Cx)(CL:BM):Prop extends EL X T9 ["isinstance","list","int","bool","range","len"],fY X.K X.mg CL where
 DN:Jf X "table"
 aee:Fc X CL "_law_marked" 1 2 yG yH sL
theorem am5(E:am4 X CL) :
  kD X CL b MG T9 GA GB GC:=by
 rintro⟨c,s,f⟩ h;obtain⟨m,hd,t⟩:=h;have wl:=m.k.wl;refine eO (Eg (lM (isL E.rE E.dg QP Q1 Q3))) (λa=>by cases a) (λ_=>ai ?_);refine fK E.g Qat (λj U=>∃o,U=[some _,some _,some _,o]) (c7 Qax) ⟨_,rfl⟩ (λj U ⟨_,e⟩=>by subst e;exact hT rfl) ?turn ?fin
 case turn=>
  rintro j d U l ⟨o,rfl⟩;rw[ib]at l;obtain⟨w,_,rfl⟩:=mf.1 l;exact eO (qK (Cd (Eg (lM (isI E.rE E.ap9 QP QaC Qac))) (λq=>(AG (lM (isB E.rE E.amD QP QaJ Qac)))))) (λa=>by cases a) (λ_=>ai (ai ⟨_,rfl⟩))
 case fin=>
  rintro U ⟨o,rfl⟩;refine aU (Kg E.u Q3 (bQ (aQ (nS (p:=λd=>!m3 s d.qI) (g:=T.sh) (cH (.cons (E.ll 1).1 (.inl E.DN) .nil) Wf) E.g.calm (kX E.lY (au (cB (cq ..) E.e7 Qid Qde)) We QbD) QaI (λC s0 v f0 r d hd=>?EX) (by rw[Gv];exact ke (bB We))) ?eq)) (tU _) (tU _)).2 rfl
  case EX=>
   obtain⟨i,hi,rfl⟩:=hP.1 hd;exact⟨Eg (lM (c_ (c,s,0+(i:Int)) (lT E.aee) Hj QlI (by assumption) rfl)),λ_=>aQ QjT rfl⟩
  case eq=>
   unfold fH;rw[ji,mB,hW,mB,hW,hW];apply congrArg _;have n:(List.range _).filter ((λd=>!m3 s d.qI)∘λi=>D.int _)=(List.range c.ws.length).filter _:=List.filter_congr λi _=>by
    show(!m3 s (0+i))=!m3 s i;rw[oP]
   rw[n];refine ow λi _=>?_;show T.sh Qbu=_;rw[oP];rfl
def W3:Q9 (ak MG) ([("chart",b9),("table",.cell),("found",b9),("way",b9),("isinstance",bE),("list",bE),("int",bE),("bool",bE),("range",bE),("len",bE)])=true:=by decide +kernel
noncomputable def ah9:cO T9 ["chart","table","found"] (ak MG):=g9
def JG(w:WY):bO:=⟨w.src,w.sg,w.qs,w.ds,w.tg,w.md⟩
def vT(s:AT):CH:=⟨v7 s,(sy s).map .str,jf (fz s) (mn s) (fz s).length,fz s,iF (fz s) (mn s) (fz s).length,(FT s).is,(FT s).os,(FT s).ws.map JG⟩
theorem S1{d:BB}{x:Str}(h:lU 2 (.tup d))(a:D.str x∈d):PyData.strOk x=true:=by
 cases h with
 | tup h=>
  cases h _ a with
  | str _ _ hs=>exact hs
def MH(g:wG Qd7 d):vc nb d:=by
 obtain⟨n,rfl,_⟩|⟨k,t,rfl,e,a,c,rfl,b,_⟩|⟨n,t,rfl,_,a,c,rfl,b,_⟩:=g.pr
 .exact⟨.call n,rfl,S1 (g.dp 0) Wl⟩
 .exact⟨.put k a c,rfl,e,b⟩
 .exact⟨.say n a c,rfl,S1 (g.dp 0) Wl,b⟩
def am6(g:LI nb nm d):∃a:xM,d=Ba a/\∀bs:AT,bs.length=nb->a.Ok nm bs:=by
 obtain⟨w,k,rfl,hw,e⟩|⟨w,s,t,rfl,hw,⟨a,c,rfl,h,_⟩,⟨a2,i,rfl,b,_⟩⟩:=g
 .obtain rfl|rfl:=hw
  .exact⟨.Dc true k,rfl,λ_ _=>e⟩
  .exact⟨.Dc false k,rfl,λ_ _=>e⟩
 .exact⟨.num w a c a2 i,rfl,λbs f=>⟨hw,by rw[f];exact h,by rw[f];exact b⟩⟩
theorem GD{α:Type}{f:α->D}{P:Qkg}:∀{l:BB},(∀d∈l,∃a,d=f a/\P a)->∃m:List α,l=m.map f/\m.length=l.length/\∀a∈m,P a
 | [],_=>⟨[],rfl,rfl,λa g=>by cases g⟩
 | d::l,h=>by
  obtain⟨a,e,c⟩:=h d gF;obtain⟨m,e2,e3,i⟩:=GD λx b=>h x QkD;refine⟨a::m,by rw[ik,<- e2,e],by rw[kq,kq,e3],λx b=>?_⟩;obtain rfl|b:=fF.1 b
  .exact c
  .exact i x b
def Zo(a:x∈c9 es k):x=k\/x∈bM es k:=by
 have hm:x∈[(k:Int)]++bM es k:=by
  unfold c9 at a;split at a
  .unfold cutD at a;exact List.mem_of_mem_drop (wg a)
  .exact a
 obtain h|h:=hG.1 hm
 .exact .inl (hU.1 h)
 .exact .inr h
theorem aqy:nV [-1]:=⟨Fe,λk a=>by
 have:k+1<1:=a;lia⟩
theorem W4:∀(l:Cn) (es:AT),nV es->0<es.length->nV (l.foldl xN es)
 | [],es,h,_=>h
 | p::r,es,h,h0=>by
  rw[pj];have hl:=(Wz p h.1 h0).2;refine W4 r (xN es p) ?_ We;unfold xN;split
  .obtain⟨k,a⟩:∃k,k+1=es.length:=⟨es.length-1,We⟩;rw[show es.length-1=k by lia];obtain⟨c,_,_⟩:=tW (k:=k) h.1 a;have b1:=lj Qg7 (b:=((c9 es k).length:Nat)) We;have b2:=lL Qg7 (b:=((c9 es k).length:Nat)) We;exact h.snoc a (Zo (getD_mem (l:=c9 es k) We))
  .exact h
theorem W5(nb nm:Nat)(ns:At):∀(l:Cn) (o:OW),(l.foldl QdV o).is.length=o.is.length+nu l
 | [],o=>rfl
 | p::r,o=>by
  have e:(qz nb nm ns o p).is.length=o.is.length+Qqy:=by
   unfold qz;split
   .show(o.is++[[]]).length=_;rw[iq,kv]
   split
   .show(ny o.is _).length=_;rw[ny,rh];rfl
   split
   .rfl
   split
   .rfl
   split<;>rfl
  rw[pj,W5 nb nm ns r,e,nu];lia
def P6(es cs:AT)(h:m<n):(jf es cs n).getD m Str.empty=kindB es cs m/\(iF es cs n).getD m 0=tX es cs m:=by
 unfold jf iF;rw[i4,i4,ib,ib,ue h];exact⟨rfl,rfl⟩
theorem am7{s:AT}(hs:s.length<=26):(vT s).Ok:=by
 obtain⟨e0,_,e2⟩:=FU s;have u:(nB s).length<=12:=by
  have:=S7 s;unfold nB qV;rw[cq,kr];lia
 have D:=qy (nB s);have o:(fz s).length=1+nu _:=(WB _).2;have j:=Lf (nb:=(v7 s).length) (S8 s) e0 (nB s) 0 oa (SD _ _);rw[Nat.zero_add]at j;have c:Ld _ _ _ (FT s):=j;have p:(FT s).is.length=(fz s).length:=o▸W5 _ _ _ _ oa;have v:=Ph s;have n:∀w∈(FT s).ws,ze _ (JG w):=λw hw=>by
  have g:=c.ww w hw;have sr:=g.sr;rw[p]at sr;refine⟨sr,?_,?_,?_,fB λd hd=>(g.g2 d hd).im,fB λd hd=>(g.g1 d hd).im⟩
  .obtain z|z:=g.fin.tg
   .exact .inl z.1
   .exact .inr z.1
  .obtain z|z:=g.fin.tg
   .exact .inl z.2
   .obtain q|q:=fF.1 z.2
    .exact .inl q
    obtain q|q:=fF.1 q
    .exact .inr (.inl q)
    .exact .inr (.inr (hU.1 q))
  .have:=g.l2;show w.ds.length<=12;lia
 have r:∀k,k<(fz s).length->((vT s).ks.getD ((k:Int)).toNat _)=kindB _ _ k:=λk f=>(P6 _ _ f).1;refine⟨⟨e0,by show(fz s).length<=13;lia,Fg _ _ _,Fi _ _ _,p,c.n2.trans p,λk f=>?_,W4 _ [-1] aqy Nat.one_pos,λk f h=>?_,λl hl=>?_,λl hl=>?_,λw hw=>?_,?_⟩,λbs y w hw=>?_,λl hl d hd=>MH ((c.ii l hl).g1 d hd),λl hl d hd=>MH ((c.oo l hl).g1 d hd),λw hw d hd=>?_,?_,by show(v7 s).length<=1000;lia⟩
 .unfold bf fW bF;rw[r k f];unfold kindB;split
  .rename_i z;exact .inl ⟨Wf,Wf,Wf,z⟩
  split
  .exact .inr (.inr ⟨Wf,Wf,Wf⟩)
  .exact .inr (.inl ⟨Wf,Wf,Wf⟩)
 .have f:k<(fz s).length:=f;have h:kindB _ _ k="one":=r k f▸iw h;show(iF _ _ _).getD k 0∈_;rw[(P6 _ _ f).2];unfold kindB at h;unfold tX;split at h
  .exact absurd h Wf
  rename_i z;rw[bS z];split at h
  .exact absurd h Wf
  rename_i t;rw[bS t];have B:=zd.2 z;have b1:=lj ((mn s).getD k 0 / 2) (b:=((jL (fz s) k).length:Nat)) We;have b2:=lL ((mn s).getD k 0 / 2) (b:=((jL (fz s) k).length:Nat)) We;show _∈jL (fz s) _;exact getD_mem We
 .have g:=c.ii l hl;have:=g.l1;exact⟨We,fB λd hd=>(g.g1 d hd).im⟩
 .have g:=c.oo l hl;have:=g.l1;exact⟨We,fB λd hd=>(g.g1 d hd).im⟩
 .obtain⟨x,i,rfl⟩:=hP.1 hw;exact n x i
 .have:=c.wl;show((FT s).ws.map JG).length<=12;rw[cq];lia
 .obtain⟨x,i,rfl⟩:=hP.1 hw;have g:=c.ww x i;obtain⟨m,e,C,hm⟩:=GD λd hd=>by
   obtain⟨a,A,ck⟩:=am6 (g.g1 d hd).pr;exact⟨a,A,ck bs y⟩
  have:=g.l1;exact⟨m,e,We,hm⟩
 .obtain⟨x,i,rfl⟩:=hP.1 hw;exact MH ((c.ww x i).g2 d hd)
 .show((sy s).map _).length=_;rw[cq];exact ahF s
def W6(h:p6 m d)(w:Int):tM d (r8 w)=true↔d.N6.toS=("way":Str)/\d.at2.qI=w:=by
 rw[show tM d (r8 w)=decide _ from V0 (MD h 8) 10 (MD (m:=0) ⟨.way w,rfl,trivial⟩ 8),pE];constructor
 .rintro rfl;exact⟨rfl,rfl⟩
 .intro⟨h1,b⟩;obtain⟨x,rfl,_⟩:=h;cases x with
  | xK q=>
   cases q with
   | put i a c=>exact absurd h1 (show ¬ ("put":Str)="way" by decide +kernel)
   | call s=>exact absurd h1 (show ¬ ("call":Str)="way" by decide +kernel)
   | say s a c=>exact absurd h1 (show ¬ ("say":Str)="way" by decide +kernel)
  | out i=>exact absurd h1 (show ¬ ("out":Str)="way" by decide +kernel)
  | keep i p q=>exact absurd h1 (show ¬ ("keep":Str)="way" by decide +kernel)
  | way i=>
   have b:i=w:=b;rw[b];rfl
  | Nh i=>exact absurd h1 (show ¬ ("in":Str)="way" by decide +kernel)
def W7{l:QoR}(nd:(l.map (·.1)).Nodup){p q:Qie}(c:p∈l)(b:q∈l)(e:p.1=q.1):p=q:=by
 obtain⟨i,hi⟩:=y4 c;obtain⟨j,a⟩:=y4 b;have d:i<(l.map (·.1)).length:=by rw[cq];exact(ko.1 hi).1
 have:=(Hk d nd).1 (show(l.map (·.1))[i]? = (l.map (·.1))[j]? by rw[ib,ib,hi,a];exact congrArg some e);subst this;rw[hi]at a;exact j2 a
def aia{s:GS}(k:Qlt)(w:Int):m3 s w=decide QuN:=by
 rw[xk,pE];have one:∀{q r},q∈s.rs->r∈q.2->((r.2.1.any _)=true↔w∈Y3 _):=λ{q r} a b=>by
  have h:=((k.rw q a).2 r b).i;rw[nv];constructor
  .rintro⟨d,hd,e⟩;obtain⟨e1,e2⟩:=(W6 (h d hd) w).1 e;exact hP.2 ⟨d,js.2 ⟨hd,kf e1⟩,e2⟩
  .intro z;obtain⟨d,hd,e2⟩:=hP.1 z;obtain⟨hd,e1⟩:=js.1 hd;exact⟨d,hd,(W6 (h d hd) w).2 ⟨iw e1,e2⟩⟩
 unfold m3 o4;rw[nv,i5];constructor
 .rintro⟨q,a,z⟩;obtain⟨r,b,z⟩:=nv.1 z;have f:=k.ks▸xa a;unfold Fv at f;rw[uk,tL,hX]at f;obtain⟨n,hn,f⟩:=i5.1 f;obtain⟨x,g,e⟩:=hP.1 f;have hn:=lx.1 hn;have eq:=W7 k.kd (vV k hn g) a e;have j:yF s n x=q.2:=congrArg (·.2) eq;refine⟨n,lx.2 hn,i5.2 ⟨x,g,i5.2 ⟨r,?_,(one a b).1 z⟩⟩⟩;rw[j];exact b
 .rintro⟨n,hn,z⟩;obtain⟨x,g,z⟩:=i5.1 z;obtain⟨r,b,z⟩:=i5.1 z;have a:=vV k (lx.1 hn) g;exact⟨_,a,nv.2 ⟨r,b,(one a b).2 z⟩⟩
def aib{r:k8}(h:C2 c m r)(n:Nat):lU (n+4) (WH r):=by
 refine .tup λd hd=>?_;obtain rfl|hd:=fF.1 hd
 .refine .tup λq e=>?_;obtain⟨x,b,rfl⟩:=hP.1 e;have t1:∀a c:Int,lU Qaa QuL:=λa c=>.tup λd hd=>by
   obtain rfl|hd:=fF.1 hd
   .exact .int _ _
   .cases hU.1 hd;exact .int _ _
  refine .tup λd hd=>?_;obtain rfl|hd:=fF.1 hd
  .exact .str _ _ (h.a x b)
  obtain rfl|hd:=fF.1 hd
  .exact t1 _ _
  .cases hU.1 hd;exact t1 _ _
 obtain rfl|hd:=fF.1 hd
 .exact .tup λd hd=>MF (h.i d hd) n
 .cases hU.1 hd;exact .int _ _
def am8(s:AT):∀x∈gQ (vT s),PyData.strOk x=true:=λx b=>by
 obtain⟨w,hw,rfl⟩:=hP.1 (adQ.1 b);obtain⟨y,a,rfl⟩:=hP.1 hw;exact((S9 s).ww y a).fin.s1
def W8(s:GS)(d:D):List k8:=((s.rs.find? λq=>decide (nT q.1=d)).map (·.2)).getD []
def z4(s:GS)(d:D):D:=.tup [d,.lst ((W8 s d).map WH)]
theorem am9{x y:Str}(h:nT (zQ n x)=nT (zQ m y)):n=m/\x=y:=by
 unfold nT zQ at h;injection h with h;injection h with h1 a;injection h1 with h1;injection a with a _;injection a with a;exact⟨We,a⟩
def GF{s:GS}(k:Qlt){q:Qie}(b:q∈s.rs):W8 s (nT q.1)=q.2/\oY QgW q.1=some QuM:=by
 have key:∀p∈s.rs,∃n x,p.1=zQ n x:=λp g=>by
  have a:=k.ks▸xa g;unfold Fv at a;rw[uk,tL,hX]at a;obtain⟨n,_,a⟩:=i5.1 a;obtain⟨x,_,e⟩:=hP.1 a;exact⟨n,x,e.symm⟩
 constructor
 .unfold W8;cases d:s.rs.find? _ with
  | none=>exact absurd (t4.1 d q b) Wl
  | some r=>
   have e1:=iw (List.find?_some (p:=λp=>decide _) d);have f:=HE d;obtain⟨n,x,a1⟩:=key r f;obtain⟨m,y,a2⟩:=key q b;rw[a1,a2]at e1;obtain⟨rfl,rfl⟩:=am9 e1;exact congrArg (·.2) (W7 k.kd f b (a1.trans a2.symm))
 .obtain⟨j,h⟩:=y4 b;apply Lk (by unfold fQ fX;rw[hW,hW];exact k.kd);unfold fQ fX;rw[ib,ib,h];rfl
def ana{s:GS}(k:Qlt)(h:∀x∈gQ c,PyData.strOk x=true):lU 60 (.lst ((gI QgW).map (z4 s))):=by
 refine .lst λd hd=>?_;obtain⟨e,he,rfl⟩:=hP.1 hd;unfold gI fQ fX at he;rw[hW,hW]at he;obtain⟨q,b,rfl⟩:=hP.1 he;show lU 59 (.tup [nT q.1,.lst ((W8 s (nT q.1)).map WH)]);rw[(GF k b).1];have a:=k.ks▸xa b;unfold Fv at a;rw[uk,tL,hX]at a;obtain⟨n,_,a⟩:=i5.1 a;obtain⟨x,f,e⟩:=hP.1 a;refine .tup λd hd=>?_;obtain rfl|hd:=fF.1 hd
 .rw[<- e];refine .tup λd hd=>?_;obtain rfl|hd:=fF.1 hd
  .exact .int _ _
  .cases hU.1 hd;exact .str _ _ (h x f)
 .cases hU.1 hd;refine .lst λd hd=>?_;obtain⟨r,g,rfl⟩:=hP.1 hd;exact aib ((k.rw q b).2 r g) 53
abbrev W9:=top 83
abbrev LH:=AT
noncomputable abbrev LG:At:=["script","chart","table","spots","found"]
noncomputable def DP:LH->BB:=λa=>[.lst QgR]
def DQ:LH->Prop:=λa=>a.length<=63
noncomputable def DR:LH->T:=λa=>(.sh Qcj:T)
structure aqA(X:Cx)(CL:BM):Prop extends EL X LG ["_law_chart_by","_law_parts_by","_law_table_of","idle_ways","_law_idle","len"],fY X.K X.mg CL where
 DN:Jf X "table"
 Ua:Fc X CL "_law_chart_by" 3 1 rL rM rN
 Ub:Fc X CL "_law_parts_by" 4 1 mj mq mw
 GH:Fc X CL "_law_table_of" 50 1 sI sJ mL
 CQ:Fc X CL "idle_ways" 1 2 kN kO kP
 SU:Fc X CL "_law_idle" 2 3 GA GB GC
theorem aqB(E:aqA X CL) :
  kD X CL b W9 LG DP DQ DR:=by
 intro a h;have O:(a.take 26).length<=26:=by rw[l9];lia
 have j:=am7 O;have z:=am8 QbM;have y:=adJ (v7 QbM);have H:=S9 QbM;have v:=DG H.ii;have t:=DG H.oo;have o:=WC H.ww;refine aG E.g QcH (jx (d:=(vT QbM).d) (c_ ((v7 QbM).map qx,sy QbM,jf _ _ _,fz QbM,iF _ _ _,(FT QbM).is.map D.tup,(FT QbM).os.map D.tup,(FT QbM).ws.map WY.d) E.Ua QP (ah (au (aQ (cF QbM E.Ub Q1 (aj (fC (aQ (tN Q2 (bI _) lV Qfs) (by rw[zg];exact congrArg (λl=>T.lst ((l.map D.int).map T.sh)) (Pj a 26)))) aL) (show(a.take 26).length<=1000 by lia)) rfl)) aF) (by exact⟨y,v,t,o⟩) (by
  exact Li y (m9 _) (Cr _ _ _) v t o)) (by
  show T.bU (.ins "Chart" _)=_;rw[Sv,Yv];unfold CH.d vT;rw[hW];rfl)) ?_
 generalize vT QbM=c at j z ⊢;have wl:=j.k.wl;cases J:Nq c 24 (gQ c) with
 | none=>
  have I:vk c=.sh .non:=by unfold vk;rw[J]
  refine aG E.g QaD Qq3 ?_;exact eO (alG Q3).1 (λ_=>aU m7 rfl) (λn=>by cases n)
 | some s=>
  have hs:=TK j Wk J;have I:vk c=.ins "Table" QpN:=by unfold vk;rw[J]
  refine aG E.g QaD (jx (d:=SJ _ _ (Nr c) _ QbZ) Qq3 (adp _ _ _ _ _)) ?_;refine eO (agQ Q3) (λn=>by cases n) (λ_=>ai ?_);have A:=λq e r R d hd=>MF (((hs.rw q e).2 r R).i d hd) 58;have L:(fQ QbZ).length<=sizeLine:=by
   have hl:=Mv j;have e2:=congrArg List.length hs.ks;have ln:=hs.ln;rw[cq]at e2;have f:=j5 (f:=λm=>(gQ c).map (zQ m)) (c:=12) Qsm λm _=>by rw[cq];exact hl
   unfold Fv at e2;rw[uk,tL,hX]at e2;rw[kr]at f;unfold fQ fX;rw[cq,cq];exact ke (bB We)
  have o6:∀d∈gI QgW,∃q∈s.rs,d=nT q.1:=λd hd=>by
   unfold gI fQ fX at hd;rw[hW,hW]at hd;obtain⟨q,e,rfl⟩:=hP.1 hd;exact⟨q,e,rfl⟩
  have B:=λq e=>fB λd hd=>by obtain⟨x,P,rfl⟩:=hP.1 hd;exact WO ((hs.rw q e).2 x P)
  have K:=ana hs z;unfold SJ;refine al1 (parts:=part1) (p:=λ_=>true) (g:=λd=>T.sh (z4 s d)) E.g Qat QpE QsU QaI (λC s0 U f0 S=>⟨En (by show List.Nodup (["spot","table"]:At);decide +kernel) Qkb,λd hd=>?EX⟩) L ?rest (by exact hT rfl) QeK
  case EX=>
   obtain⟨q,e,rfl⟩:=o6 d hd;obtain⟨G,F⟩:=GF hs e;refine⟨_,rfl,rfl,rfl,λ_=>jx (oU (aH QjT (aH (cD (by exact E.dg) (aci q.1 (by exact E.u) (cI (by exact E.fD) (by exact E.fj) (iK 1) j6) (jl 0) F) (B q e) Hj aW) bG)) aC) ?_⟩;rw[T.bU,T.dz,T.dz,T.dz,bV,T.bU];show _=D.tup _;rw[G]
  case rest=>
  have M:(gI QgW).map (λd=>T.sh (z4 s d))=((gI _).map (z4 s)).map T.sh:=(hW ..).symm;rw[jk,M];have N:tM (.lst ((q4 c.ws.length Qod).map .int)) (.lst ((((List.range c.ws.length).map λ(i:Nat)=>(i:Int)).filter λw=>!m3 s w).map .int))=true:=by
   rw[N8];refine kf ?_;unfold q4;exact List.filter_congr λw _=>by rw[aia hs]
  have V:(q4 c.ws.length Qod).length<=12:=by
   have:=nr (λw=>!decide QuN) ((List.range c.ws.length).map λ(i:Nat)=>(i:Int));rw[cq,kr]at this;unfold q4;lia
  refine aG E.g Qau Qpf ?_;refine eO (Eg (lM (aQ (c_ (c,s,q4 c.ws.length _) E.SU QbD (ah QU (ah Q3 Qjj)) ⟨j,A,We⟩ rfl) (by show T.sh _=_;rw[N])))) (λn=>by cases n) (λ_=>ai ?_);refine iJ (E.ll 4).1 rfl (cB (cq ..) E.e7 (cI E.bN E.cj QU dM) Qde) rfl (by rw[cq,cq];lia) ?_;refine eO (Eg (lM (aQ (c_ (c,s,q4 c.ws.length _) E.SU QbD (ah QU (ah Q3 (ah (bQ Qpf) aF))) ⟨j,A,We⟩ rfl) (by show T.sh _=_;rw[N])))) (λn=>by cases n) (λ_=>ai ?_);refine aU (aQ (Kg E.u QcZ (bQ (aQ (Ot (parts:=part1) QpE E.g.calm QsU QaI (λC s0 U f0 S=>⟨En (by show List.Nodup (["spot","table"]:At);decide +kernel) Qkb,λd hd=>?adK⟩) L) (by rw[jk,M]))) K K).2 (t2:=.sh Qcj) (by rw[abk K])) rfl
  case adK=>
   obtain⟨q,e,rfl⟩:=o6 d hd;obtain⟨G,F⟩:=GF hs e;refine⟨_,rfl,rfl,rfl,λ_=>aQ (bD (aj QjT (aj (acw q.1 (by exact E.u) (jv (by exact E.fD) (by exact E.fj) (v_ (Of 1)) j6) (jl 0) F) aL)) aC) ?_⟩;show T.sh _=T.sh (.tup _);rw[G]
def SS:Q9 (ak W9) ([("script",b9),("chart",b9),("table",.cell),("spots",b9),("found",b9),("_law_chart_by",bE),("_law_parts_by",bE),("_law_table_of",bE),("idle_ways",bE),("_law_idle",bE),("len",bE)])=true:=by decide +kernel
noncomputable def SO:cO LG ["script"] (ak W9):=g9
noncomputable def cl(aO bq aD aP aM bL cX:Addr):Str->Addr:=λc=>if c="Chart" then aO else if c="Tree" then bq else if c="Growth" then aD else if c="Table" then aP else if c="TooWide" then aM else if c="#goable.<locals>.<lambda>" then bL else if c="#kept.<locals>.<lambda>" then cX else 0
variable{aO bq aD aP aM bL cX:Addr}
def P7:cl aO bq aD aP aM bL cX "#goable.<locals>.<lambda>" = bL:=by unfold cl;rw[bS Wf];rw[bS Wf];rw[bS Wf];rw[bS Wf];rw[bS Wf];rw[ec rfl]
def Zq:cl aO bq aD aP aM bL cX "#kept.<locals>.<lambda>" = cX:=by unfold cl;rw[bS Wf];rw[bS Wf];rw[bS Wf];rw[bS Wf];rw[bS Wf];rw[bS Wf];rw[ec rfl]
def ael:cl aO bq aD aP aM bL cX "Chart" = aO:=by unfold cl;rw[ec rfl]
def aic:cl aO bq aD aP aM bL cX "Tree" = bq:=by unfold cl;rw[bS Wf];rw[ec rfl]
def Zr:cl aO bq aD aP aM bL cX "Growth" = aD:=by unfold cl;rw[bS Wf];rw[bS Wf];rw[ec rfl]
def aem:cl aO bq aD aP aM bL cX "Table" = aP:=by unfold cl;rw[bS Wf];rw[bS Wf];rw[bS Wf];rw[ec rfl]
def Uc:cl aO bq aD aP aM bL cX "TooWide" = aM:=by unfold cl;rw[bS Wf];rw[bS Wf];rw[bS Wf];rw[bS Wf];rw[ec rfl]
def aid{x:Str}(h:IK x=true)(h0:cl aO bq aD aP aM bL cX x≠0):(cl aO bq aD aP aM bL cX x,NZ x)∈([(bL,"goable.<locals>.<lambda>"),(cX,"kept.<locals>.<lambda>")]:Cs):=by
 unfold cl at h0 ⊢;rw[bS (λe=>by rw[e]at h;exact absurd h Wf)]at h0 ⊢;rw[bS (λe=>by rw[e]at h;exact absurd h Wf)]at h0 ⊢;rw[bS (λe=>by rw[e]at h;exact absurd h Wf)]at h0 ⊢;rw[bS (λe=>by rw[e]at h;exact absurd h Wf)]at h0 ⊢;rw[bS (λe=>by rw[e]at h;exact absurd h Wf)]at h0 ⊢;by_cases b:x="#goable.<locals>.<lambda>"
 .rw[ec b,b,show NZ _="goable.<locals>.<lambda>" by decide +kernel];simp
 rw[bS b]at h0 ⊢;by_cases a:x="#kept.<locals>.<lambda>"
 .rw[ec a,a,show NZ _="kept.<locals>.<lambda>" by decide +kernel];simp
 rw[bS a]at h0 ⊢;exact absurd rfl h0
theorem all_mk{l:Qnt}{w:World}{K:Frag}{h:Heap}{mg:Bi}{T0:BY}{fa CT Af Ue Zt eg P8 Zu Ug Uh P9 Zv fg ff Zw Ui ef Qa Qc Zx ee ed wX jh HG GK HJ Qd HK Qe Zy eb c3 Qf yI fe c2 bo Zz Uj MJ c1 ZC HL fb Uk Ul MK ea d6 Qg R qf ML Ag vg Um Qh e8 cP bj:Addr}(g:K.In h)(G:Qu7)(ae:mg "law" = some (.ref fa))
  {Qi MN Uo ZD d5 Qj ZE Up Uq Qk ZF e6 e5 ZG Ur d4 Ql Qm ZH d3 d0 HM yJ HN GL HP Qn HQ Qo ZI dE cx Qp Us e4 cw bc ZJ Ut MP cv ZK HR eX Uu Uv MQ dC dA Qq P HS dy MR Qs Uw Qt eW cp O:QaN}
  (du:InG K "Chart" aO) (bN:yU K aO) (gx:makesIn K aO=true) (gv:keepIn K (.ref aO)=true)
  (HV:bu K aO "boxes")
  (HW:bu K aO "names")
  (MS:bu K aO "tree")
  (Qu:bu K aO "ins")
  (MT:bu K aO "outs")
  (MV:bu K aO "ways")
  (cn:InG K "Tree" bq) (iG:yU K bq) (dt:makesIn K bq=true) (dr:keepIn K (.ref bq)=true)
  (MX:bu K bq "kinds")
  (HX:bu K bq "elders")
  (HY:bu K bq "starts")
  (gr:InG K "Growth" aD) (aS:yU K aD) (JB:makesIn K aD=true) (JC:keepIn K (.ref aD)=true)
  (GN:bu K aD "chart")
  (HZ:bu K aD "most")
  (GO:bu K aD "flats")
  (Di:bu K aD "places")
  (Ic:bu K aD "rows")
  (wc:bu K aD "spare_rows")
  (dq:InG K "Table" aP) (fD:yU K aP) (Qv:makesIn K aP=true) (Qw:keepIn K (.ref aP)=true)
  (Ie:bu K aP "boxes")
  (Ig:bu K aP "signs")
  (Ih:bu K aP "begin")
  (Ii:bu K aP "flats")
  (MY:bu K aP "rows")
  (ZL:InG K "TooWide" aM)
  {Ux Uy:Str} {B5:Addr} {Uz GP UA:B2} {UB UC:Bool} {UD:At} {Qx:Option Bool} {UE:Do} {UG UH UI UJ UK:FB} (UL:K.lookup aM=some (excClassObj Ux Uy aM B5 Uz GP UB UD UA UC Qx UE UG UH UI UJ UK "ValueError.__new__")) (UM:Wq 2 (nsOkIn K B5=true)) (UN:nsIn K B5 "__init__" = some none) (UO:Wq 2 (tailIn K VL GP=true))
  (yK:Wq 5 (exmOne K (.ref aM) (.ref aM)=some true))
  (V:nZ K bq "__init__" "Tree.__init__" t6 CT Qi)
  (X:nZ K aO "__init__" "Chart.__init__" rH Af MN)
  (UQ:jA K "_law_chart_by" xT Ue Uo)
  (ZM:jA K "_law_cell_at" Bd Zt ZD)
  (dk:jA K "_law_chain" LJ eg d5)
  (Qy:jA K "_law_elders_by" ug P8 Qj)
  (ZN:jA K "_law_name_by" Bk Zu ZE)
  (UR:jA K "_law_names_by" xW Ug Up)
  (UT:jA K "_law_kinds_by" rP Uh Uq)
  (Qz:jA K "_law_number_by" uq P9 Qk)
  (ZO:jA K "_law_deed_by" Bo Zv ZF)
  (gq:jA K "_law_way_by" FD fg e6)
  (gm:jA K "_law_ask_by" FI ff e5)
  (ZP:jA K "_law_owns_by" Br Zw ZG)
  (UU:jA K "_law_parts_by" rV Ui Ur)
  (dj:jA K "inner" DJ ef d4)
  (QB:jA K "opened_in" uB Qa Ql)
  (N:jA K "opened" FW Qc Qm)
  (ZQ:jA K "in_rows" Bw Zx ZH)
  (eT:jA K "begun" LW ee d3)
  (eR:jA K "signs" LZ ed d0)
  (L:nZ K aD "__init__" "Growth.__init__" pH wX HM)
  (n:nZ K aD "number_of" "Growth.number_of" eY jh yJ)
  (Ij:jA K "open_leaves" kG HG HN)
  (GQ:jA K "at_next_leaf" nH GK GL)
  (Ik:jA K "number_asks" pM HJ HP)
  (QC:jA K "with_pick" uG Qd Qn)
  (Il:jA K "at_next_way" pT HK HQ)
  (QD:jA K "with_held" uK Qe Qo)
  (ZR:jA K "further" BJ Zy ZI)
  (eP:jA K "above" L6 eb dE)
  (cm:jA K "fits" Tg c3 cx)
  (Ah:jA K "goable" z7 Qf Qp)
  {qD:Addr} {ZS:Do} {JD:Ch} {ZT:Da} (ZU:Wq 1 (Qp.code=.ref qD)) (hh:K.lookup qD=some ⟨.type "code",ZS,.fields JD,ZT⟩) (hg:Wq 1 (JD[11]? = some (.ref bL))) (JF:Wq 2 (codeHdIn K qD bL=true)) (ZV:Wq 3 (bL≠0)) (ZW:Wq 2 (K.lookup bL=none)) (ZX:Wq 3 (bL∈T0))
  (F:jA K "branches" kh yI Us)
  (gh:jA K "within" Ga fe e4)
  (cf:jA K "left" Ma c2 cw)
  (bb:jA K "top" LO bo bc)
  (ZY:jA K "way_top" BP Zz ZJ)
  (UW:jA K "all_left" yk Uj Ut)
  (MZ:jA K "remembered" rZ MJ MP)
  (cc:jA K "road" Tw c1 cv)
  (ZZ:jA K "entered" BU ZC ZK)
  (Im:jA K "all_entered" pW HL HR)
  (gf:jA K "heeded" Gm fb eX)
  (UX:jA K "out_rows" yp Uk Uu)
  (UY:jA K "way_rows" yt Ul Uv)
  (M0:jA K "has_target" su MK MQ)
  (eN:jA K "moved" DL ea dC)
  (eM:jA K "depth" Mq d6 dA)
  (QF:jA K "tops_meet" uT Qg Qq)
  (M3:jA K "kept" Mt R P)
  {B3:Addr} {eJ:Do} {Xa:Ch} {eI:Da} (eH:Wq 1 (P.code=.ref B3)) (hc:K.lookup B3=some ⟨.type "code",eJ,.fields Xa,eI⟩) (hb:Wq 1 (Xa[11]? = some (.ref cX))) (Xb:Wq 2 (codeHdIn K B3 cX=true)) (eG:Wq 3 (cX≠0)) (eF:Wq 2 (K.lookup cX=none)) (eE:Wq 3 (cX∈T0))
  (r:nZ K aD "grow" "Growth.grow" iM qf HS)
  (D:jA K "grown" Ac ML dy)
  (J:nZ K aP "__init__" "Table.__init__" sF Ag MR)
  (I:FnD K "flattened" oM vg Qs ["chart","most"])
  (UZ:jA K "_law_table_of" yy Um Uw)
  (QG:jA K "idle_ways" oO Qh Qt)
  (gc:jA K "_law_marked" Gw e8 eW)
  (cb:jA K "_law_idle" MG cP cp)
  (M:jA K "law" W9 bj O)
  (b7:V5 K "list")
  (ba:V5 K "len")
  (eD:V5 K "range")
  (aT:V5 K "min")
  (QH:V5 K "enumerate")
  {eC:Tok} (b6:AZ K "SIGN" 1 eC)
  {yL:Tok} (Ai:AZ K "ROWS_FOR_A_FLAT" 8 yL)
  (eA:V5 K "tuple")
  {ey:Tok} (b5:AZ K "LEAF" 0 ey)
  {f5:Tok} (ew:AZ K "ASKED" 2 f5)
  {Z6:Tok} (f3:AZ K "PICKED" 3 Z6)
  {et:Tok} (b4:AZ K "HELD" 4 et)
  {er:Tok} (b0:AZ K "ASKS" 2 er)
  {bx:Tok} (aI:AZ K "WAY" 1 bx)
  (bt:V5 K "dict")
  {Z7:Tok} (fT:AZ K "SOURCE" 0 Z7)
  (fR:V5 K "sorted")
  (U0:V5 K "reversed")
  {Z8:Tok} (fI:AZ K "TARGET" 4 Z8)
  {en:Tok} (br:AZ K "MODE" 5 en)
  {fA:Tok} (el:AZ K "DEEDS" 3 fA)
  (ax:V5 K "any")
  (M4:V5 K "isinstance")
  (aw:V5 K "int")
  (y_bool:V5 K "bool")
  (GR:Wq 3 (cX≠bL))
  : ∃(fd:QaN) (ts:Cs),(∀p∈ts,p.1∈T0/\ts.lookup p.1=some p.2/\K.lookup p.1=none/\∃c,CodeHd h c p.1)/\(∀(s:Qb) (v:Value),BindsTo s fd ⟨[v],[]⟩ [("script",v)])/\∀base:Heap,K.In base->base.Ns mainGlobals mg->Ez mg base->dB l.prog w K mg base oS 51 fa fd ["script"] (spT K ts 1 DP DQ DR):=by
 have e:=ae.symm.trans (j0 g G M.m);cases e;obtain⟨k,rfl,rfl,rfl,rfl,rfl,rfl,rfl,af⟩:∃k:Str->Addr,aO=k "Chart" /\ bq=k "Tree" /\ aD=k "Growth" /\ aP=k "Table" /\ aM=k "TooWide" /\ bL=k "#goable.<locals>.<lambda>" /\ cX=k "#kept.<locals>.<lambda>" /\ ∀x,IK x=true->k x≠0->(k x,NZ x)∈([(bL,"goable.<locals>.<lambda>"),(cX,"kept.<locals>.<lambda>")]:Cs):=⟨(cl aO bq aD aP aM bL cX),ael.symm,aic.symm,Zr.symm,aem.symm,Uc.symm,P7.symm,Zq.symm,λx=>aid⟩;have QI:=V.bA ["self","kinds","elders","starts"];have M5:=X.bA ["self","boxes","names","tree","ins","outs","ways"];have QJ:=j0 g G N.m;have QK:=N.bA ["tree","memory","mood","mode"];have wY:=L.bA ["self","chart","most"];have C:=n.bA ["self","opens","memory"];have fy:=j0 g G Ah.m;have fw:=Ah.bA ["chart","opens","leaf","sign"];have yM:=j0 g G F.m;have yN:=F.bA ["chart","opens","sign","most"];have bp:=j0 g G M3.m;have df:=M3.bA ["chart","found"];have Y:=r.bA ["self","number","sign"];have M6:=j0 g G D.m;have M7:=D.bA ["chart","most"];have Aj:=J.bA ["self","boxes","signs","begin","flats","rows"];have CV:=j0 g G I.m;have CW:=I.b;have ha:=j0 g G M.m;have g5:=M.bA ["script"];have ek:=j0 g G du;have de:=j0 g G cn;have QL:=j0 g G gr;have Xc:=j0 g G dq;have Z9:=j0 g G ZL;have U1:KD K (k "TooWide"):=⟨⟨_,_,_,_,_,_,_,_,_,_,_,_,_,_,_,_,UL,UM.1,UN,UO.1⟩⟩;have f:fY K mg k:=⟨ma g G b7,iG,MX,HX,HY,bN,fD,HV,Ie,HW,MS,Qu,MT,MV,ma g G ba,ma g G eD,ma g G aT,ma g G QH,⟨_,j0 g G b6⟩,⟨_,j0 g G Ai⟩,aS,GN,HZ,GO,Ii,Di,Ic,MY,wc,ma g G eA,Z9,U1,⟨_,j0 g G b5⟩,⟨_,j0 g G ew⟩,⟨_,j0 g G f3⟩,⟨_,j0 g G b4⟩,⟨_,j0 g G b0⟩,⟨_,j0 g G aI⟩,ma g G bt,⟨_,j0 g G fT⟩,ma g G fR,ma g G U0,⟨_,j0 g G fI⟩,⟨_,j0 g G br⟩,⟨_,j0 g G el⟩,ma g G ax,Ig,Ih,ma g G M4,ma g G aw,ma g G y_bool⟩;refine⟨O,[((k "#goable.<locals>.<lambda>"),"goable.<locals>.<lambda>"),((k "#kept.<locals>.<lambda>"),"kept.<locals>.<lambda>")],?tabs,?bind,λbase kb _ bl=>?_⟩
 case tabs=>
  intro p j;simp only[fF,iu,or_false]at j;obtain rfl|rfl:=j
  .exact⟨ZX.1,by simp only[k4,wy],ZW.1,qD,codeHd_of_K g JF.1⟩
  .exact⟨eE.1,by simp only[k4,wy,beq_false_of_ne GR.1],eF.1,B3,codeHd_of_K g Xb.1⟩
 case bind=>
  obtain⟨dV,oc,od,kV,doc,pm,an,d7,ct,IB,rfl,lk,iO⟩:=M.ex;cases (show dV=.none from M.dn);exactλs v=>.of_eq rfl
 have q:=@apO l.prog w mg base K h k g G;have QM:dB l.prog w K mg base oS 1 CT _ ["self","kinds","elders","starts"] (qr K k "Tree" 4 wI wJ wK):=Dr V.1 rG.1 λd7 o outer s H E b a y d j=>by
  obtain⟨p0,p1,p2⟩:=a;refine O6 ?_ p0 p1 p2 y j;exact⟨gE ⟨⟨rG.nd,rfl,.never⟩,d.units⟩ rG,f⟩
 have M8:dB l.prog w K mg base oS 1 Af _ ["self","boxes","names","tree","ins","outs","ways"] (qr K k "Chart" 7 uc ud uf):=Dr X.1 pB.1 λd7 o outer s H E b a y d j=>by
  obtain⟨p0,p1,p2,z,t,A⟩:=a;refine LD ?_ p0 p1 p2 z t A y j;exact⟨gE ⟨⟨pB.nd,rfl,.never⟩,d.units⟩ pB,f⟩
 have U3:=q 2 rL rM rN UQ  CB.1 λd u p=>SR (by exact⟨gE u CB,f,⟨⟨_,_,_,⟨dt,V.a,V.i,dr⟩,QM,de,QI⟩,d.mono Wk⟩,⟨⟨_,_,_,⟨gx,X.a,X.i,gv⟩,M8,ek,M5⟩,d.mono Wk⟩⟩) p;have JH:=q 0 n9 oh oi ZM  Fx.1 λd u p=>Y4 (by exact⟨gE u Fx,f⟩) p;have ej:=q 0 Bg Bh Bj dk  O7.1 λd u p=>ahD (by exact⟨gE u O7,f⟩) p;have QN:=q 1 pC kE pD Qy  zU.1 λd u p=>O9 (by exact⟨gE u zU,f,bX ej d⟩) p;have g4:=q 0 oj om oq ZN  Fy.1 λd u p=>Y5 (by exact⟨gE u Fy,f⟩) p;have U4:=q 1 rO lZ l0 UR  CD.1 λd u p=>SW (by exact⟨gE u CD,f,bX JH d,bX g4 d⟩) p;have U5:=q 0 rQ mh rR UT  Pa λd u p=>S6 (by exact⟨cE u uo,f,cV uo 0 rfl,cV uo 4 rfl⟩) p;have vj:=q 0 gA gB gC Qz  zV.1 λd u p=>Pb (by exact⟨gE u zV,f⟩) p;have g0:=q 1 uw jm ux ZO  Fz.1 λd u p=>Y8 (by exact⟨gE u Fz,f,bX vj d⟩) p;have fv:=q 0 x8 rS x9 gq  Ju.1 λd u p=>adE (by exact⟨gE u Ju,f⟩) p;have fu:=q 1 yb rT yc gm  Jv.1 λd u p=>adG (by exact⟨gE u Jv,f,bX vj d⟩) p;have gN:=q 2 uy oz uz ZP  FN.1 λd u p=>Za (by exact⟨gE u FN,f,bX g0 d,bX fv d,bX fu d⟩) p;have U6:=q 3 mj mq mw UU  Pp λd u p=>Tf (by exact⟨cE u uA,f,cV uA 0 rfl,cV uA 4 rfl,bX JH d,bX QN d,bX U4 d,bX U5 d,bX gN d,bX vj d⟩) p;have Xd:=q 0 vJ mW vK dj  adL λd u p=>ahI (by exact⟨cE u Pq,f,cV Pq 1 rfl⟩) p;have QO:=q 1 pF pG kF QB  zW.1 λd u p=>Pu (by exact⟨gE u zW,f,bX Xd d⟩) p;have gJ:∀dd,dB l.prog w K mg base oS (3+dd) Qc Qm ["tree","memory","mood","mode"] (RH K k 4 nE (nF dd) j7):=by
  intro dd
  induction dd using Nat.strongRecOn with
  | ind dd ih=>
   rw[show 3+dd=(2+dd)+1 by lia];exact kW N.1 Bv.1 λd7 o outer s H E b a _ d j=>by
    refine adO (dd:=dd) ?_ j;exact⟨gE ⟨⟨Bv.nd,rfl,.never⟩,d.units⟩ Bv,f,bX QO d We,λd' hd=>⟨⟨_,_,_,ih d' hd,QJ,N.kp,QK⟩,d.mono We⟩⟩
 have ft:=gJ 40;have QS:=IZ ft QJ N.kp QK;have JK:=q 0 oA lg lq ZQ  F0.1 λd u p=>Zc (by exact⟨gE u F0,f⟩) p;have Xe:=q 43 BE BF vN eT  Px.1 λd u p=>ahL (by exact⟨gE u Px,f,bX QS d,bX JK d⟩) p;have Xf:=q 0 BI qC vO eR  Pz.1 λd u p=>ahO (by exact⟨gE u Pz,f⟩) p;have wZ:dB l.prog w K mg base oS 1 wX _ ["self","chart","most"] (qr K k "Growth" 3 sP sQ sR):=Dr L.1 nG.1 λd7 o outer s H E b a y d j=>by
  obtain⟨p0,p1,p2⟩:=a;refine Hs ?_ p0 p1 p2 y j;exact⟨gE ⟨⟨nG.nd,rfl,.never⟩,d.units⟩ nG,f⟩
 have f7:dB l.prog w K mg base oS 1 jh _ ["self","opens","memory"] (vt K k 3 cT dU dW cU):=Y1 n.1 dw.1 (λa j=>by
  obtain⟨p0,p1,p2,z,t,A⟩:=a;dsimp only [cT,cU]
  repeat (first|exact trivial|refine⟨rfl,?_⟩)) λd7 o outer s H E b a d j=>by
  refine yf ?_ _ j;exact⟨gE ⟨⟨dw.nd,rfl,.never⟩,d.units⟩ dw,f⟩
 have Z:dB l.prog w K mg base QgM 1 jh _ ["self","opens","memory"] (FF K k 3 dh di dm):=V4 n.1 dw.1 λd7 o outer s H E b a d j B=>by
  obtain⟨p0,p1,p2,z,t,A⟩:=a;refine v9 ?_ p0 p1 p2 z t A j B;exact⟨gE ⟨⟨dw.nd,rfl,zx rfl rfl⟩,d.units⟩ dw,f⟩
 have w9:=q 0 lF lG iS Ij  F2 λd u p=>Hu (by exact⟨cE u uE,f,cV uE 0 rfl⟩) p;have GU:=q 0 ig iy iz GQ  sS.1 λd u p=>F3 (by exact⟨gE u sS,f⟩) p;have Io:=q 0 lH iT lI Ik  uF.1 λd u p=>Hv (by exact⟨gE u uF,f⟩) p;have QT:=q 0 pQ pR pS QC  zX.1 λd u p=>PB (by exact⟨gE u zX,f⟩) p;have Iq:=q 0 iU iV iW Il  uJ.1 λd u p=>Hw (by exact⟨gE u uJ,f⟩) p;have QV:=q 0 kH gD kI QD  zY.1 λd u p=>PD (by exact⟨gE u zY,f⟩) p;have JL:=q 1 uN uO uP ZR  F5.1 λd u p=>Zf (by exact⟨gE u F5,f,bX GU d,bX Io d,bX QT d,bX Iq d,bX QV d⟩) p;have T:=q 0 j8 j9 kg eP  PF.1 λd u p=>ahP (by exact⟨gE u PF,f⟩) p;have dc:=q 0 F6 F7 zZ cm  WV.1 λd u p=>amO (by exact⟨gE u WV,f⟩) p;have fo:dB l.prog w K mg base oS 2 Qf _ ["chart","opens","leaf","sign"] (RH K k 4 yg yh rW):=kW Ah.1 Jw λd7 o outer s H E b a iO d j=>by
  refine adT ?_ j;exact⟨cE ⟨⟨Jw.nd,rfl,.never⟩,d.units⟩ BO,f,cV BO 0 rfl,cV BO 7 rfl,bX T d,bX dc d,N0 bl kb iO ZU.1 (JF.1) (ZV.1),VH d,d⟩
 have QW:=IZ fo fy Ah.kp fw;have U7:dB l.prog w K mg base oS 3 yI _ ["chart","opens","sign","most"] (RH K k 4 mC jF mD):=kW F.1 oB λd7 o outer s H E b a _ d j=>by
  refine Tp ?_ j;exact⟨cE ⟨⟨oB.nd,rfl,.never⟩,d.units⟩ fS,f,cV fS 0 rfl,cV fS 1 rfl,cV fS 2 rfl,bX w9 d,bX JL d,bX QW d⟩
 have GV:=IZ U7 yM F.kp yN;have CY:dB l.prog w K mg base QgM 3 yI _ ["chart","opens","sign","most"] (sk K k 4 jG gZ jH):=R8 F.1 oB λd7 o outer s H E b a d j B=>by
  obtain⟨p0,p1,p2,z,t,A,U,p7,p8,p9,aa⟩:=a;refine PJ ?_ p0 p1 p2 z t A U p7 p8 p9 aa j B;exact⟨cE ⟨⟨oB.nd,rfl,zx rfl rfl⟩,d.units⟩ fS,f,cV fS 0 rfl,cV fS 1 rfl,cV fS 2 rfl,bX w9 d,bX JL d,bX QW d⟩
 have Al:=q 1 ki ku kB gh  Jx.1 λd u p=>adV (by exact⟨gE u Jx,f,bX T d⟩) p;have da:=q 2 Gf Gg Gh cf  ahS λd u p=>amU (by exact⟨cE u Mf,f,cV Mf 0 rfl,cV Mf 2 rfl,bX Al d⟩) p;have ar:=q 2 Mg Mh DK bb  Tx.1 λd u p=>aqj (by exact⟨gE u Tx,f,bX T d,bX Al d⟩) p;have B6:=q 3 ly jo lz ZY  Gi.1 λd u p=>Zi (by exact⟨gE u Gi,f,bX ar d⟩) p;have U8:=q 4 rY mE mF UW  CJ.1 λd u p=>Tv (by exact⟨gE u CJ,f,bX da d,bX B6 d⟩) p;have M9:=q 0 nL jI nM MZ  wV.1 λd u p=>Mi (by exact⟨gE u wV,f⟩) p;have c8:=q 1 Gj z8 uR cc  WZ.1 λd u p=>amX (by exact⟨gE u WZ,f,bX T d⟩) p;have gz:=q 43 oE oF oG ZZ  Gk.1 λd u p=>Zk (by exact⟨gE u Gk,f,bX c8 d,bX QS d,bX Xd d⟩) p;have Ir:=q 44 iX gj iY Im  uS.1 λd u p=>HB (by exact⟨gE u uS,f,bX gz d,bX B6 d⟩) p;have QX:=q 2 sd nO nP gf  Jy.1 λd u p=>ad2 (by exact⟨gE u Jy,f,bX Al d⟩) p;have U9:=q 3 se mG mH UX  CK.1 λd u p=>TJ (by exact⟨gE u CK,f,bX QX d⟩) p;have Va:=q 0 sf mJ mK UY  CM.1 λd u p=>TL (by exact⟨gE u CM,f⟩) p;have Am:=q 0 jJ fN jK M0  wW.1 λd u p=>Mj (by exact⟨gE u wW,f⟩) p;have Xg:=q 45 vP qF qG eN  ad3 λd u p=>ahU (by exact⟨cE u Gr,f,cV Gr 0 rfl,cV Gr 5 rfl,bX U8 d,bX M9 d,bX Ir d,bX U9 d,bX Va d,bX JK d,bX Am d,bX QX d⟩) p;have ei:=q 1 BX vQ BZ eM  PN.1 λd u p=>ahW (by exact⟨gE u PN,f,bX T d⟩) p;have QY:=q 2 pZ kJ kK QF  z9.1 λd u p=>PV (by exact⟨gE u z9,f,bX Al d⟩) p;have c5:dB l.prog w K mg base oS 5 R _ ["chart","found"] (RH K k 2 Aa uW Ab):=kW M3.1 W2 λd7 o outer s H E b a iO d j=>by
  refine am2 ?_ j;exact⟨cE ⟨⟨W2.nd,rfl,.never⟩,d.units⟩ Mu,f,cV Mu 0 rfl,cV Mu 5 rfl,bX Am d,bX B6 d,bX ei d,bX QY d,N0 bl kb iO eH.1 (Xb.1) (eG.1),VH d,d⟩
 have S:=IZ c5 bp M3.kp df;have xg:dB l.prog w K mg base oS 47 qf _ ["self","number","sign"] (vt K k 3 gk iZ i6 gu):=Y1 r.1 fO.1 (λa j=>by
  obtain⟨p0,p1,p2,z,t,A,U⟩:=a;dsimp only [gk,gu]
  repeat (first|exact trivial|refine⟨rfl,?_⟩)) λd7 o outer s H E b a d j=>by
  refine HD ?_ _ j;exact⟨gE ⟨⟨fO.nd,rfl,.never⟩,d.units⟩ fO,f,bX GV d,bX Xg d,bX S d,⟨⟨_,_,_,⟨n.a,n.i,n.kp⟩,Z,C⟩,d.mono Wk,aS⟩,⟨⟨_,_,_,⟨n.a,n.i,n.kp⟩,f7,C⟩,d.mono Wk,aS⟩,⟨⟨_,_,_,CY,yM,F.kp,yN⟩,d.mono Wk⟩⟩
 have vm:dB l.prog w K mg base QgM 47 qf _ ["self","number","sign"] (FF K k 3 gM gO gP):=V4 r.1 fO.1 λd7 o outer s H E b a d j B=>by
  obtain⟨p0,p1,p2,z,t,A,U⟩:=a;refine Gs ?_ p0 p1 p2 z t A U j B;exact⟨gE ⟨⟨fO.nd,rfl,zx rfl rfl⟩,d.units⟩ fO,f,bX GV d,bX Xg d,bX S d,⟨⟨_,_,_,⟨n.a,n.i,n.kp⟩,Z,C⟩,d.mono Wk,aS⟩,⟨⟨_,_,_,⟨n.a,n.i,n.kp⟩,f7,C⟩,d.mono Wk,aS⟩,⟨⟨_,_,_,CY,yM,F.kp,yN⟩,d.mono Wk⟩⟩
 have eh:dB l.prog w K mg base oS 48 ML _ ["chart","most"] (RH K k 2 vR vS vU):=kW D.1 qH.1 λd7 o outer s H E b a _ d j=>by
  refine ah2 ?_ j;exact⟨gE ⟨⟨qH.nd,rfl,.never⟩,d.units⟩ qH,f,bX Xe d,bX Xf d,⟨⟨_,_,_,⟨JB,L.a,L.i,JC⟩,wZ,QL,wY⟩,d.mono Wk⟩,⟨⟨_,_,_,⟨n.a,n.i,n.kp⟩,Z,C⟩,d.mono Wk,aS⟩,⟨⟨_,_,_,⟨n.a,n.i,n.kp⟩,f7,C⟩,d.mono Wk,aS⟩,⟨⟨_,_,_,⟨r.a,r.i,r.kp⟩,vm,Y⟩,d.mono Wk,aS⟩,⟨⟨_,_,_,⟨r.a,r.i,r.kp⟩,xg,Y⟩,d.mono Wk,aS⟩⟩
 have Xh:=IZ eh M6 D.kp M7;have QZ:dB l.prog w K mg base QgM 48 ML _ ["chart","most"] (sk K k 2 oH oJ oK):=R8 D.1 qH.1 λd7 o outer s H E b a d j B=>by
  obtain⟨p0,p1⟩:=a;refine aea ?_ p0 p1 j B;exact⟨gE ⟨⟨qH.nd,rfl,zx rfl rfl⟩,d.units⟩ qH,f,bX Xe d,bX Xf d,⟨⟨_,_,_,⟨JB,L.a,L.i,JC⟩,wZ,QL,wY⟩,d.mono Wk⟩,⟨⟨_,_,_,⟨n.a,n.i,n.kp⟩,Z,C⟩,d.mono Wk,aS⟩,⟨⟨_,_,_,⟨n.a,n.i,n.kp⟩,f7,C⟩,d.mono Wk,aS⟩,⟨⟨_,_,_,⟨r.a,r.i,r.kp⟩,vm,Y⟩,d.mono Wk,aS⟩,⟨⟨_,_,_,⟨r.a,r.i,r.kp⟩,xg,Y⟩,d.mono Wk,aS⟩⟩
 have An:dB l.prog w K mg base oS 1 Ag _ ["self","boxes","signs","begin","flats","rows"] (qr K k "Table" 6 uY uZ u9):=Dr J.1 qb.1 λd7 o outer s H E b a y d j=>by
  obtain⟨p0,p1,p2,z,t⟩:=a;refine My ?_ p0 p1 p2 z t y j;exact⟨gE ⟨⟨qb.nd,rfl,.never⟩,d.units⟩ qb,f⟩
 have Q0:dB l.prog w K mg base oS 49 vg _ ["chart","most"] (RH K k 2 qc qd kM):=kW I.1 iA.1 λd7 o outer s H E b a _ d j=>by
  refine P0 ?_ j;exact⟨gE ⟨⟨iA.nd,rfl,.never⟩,d.units⟩ iA,f,bX Xh d,⟨⟨_,_,_,⟨Qv,J.a,J.i,Qw⟩,An,Xc,Aj⟩,d.mono Wk⟩,⟨⟨_,_,_,QZ,M6,D.kp,M7⟩,d.mono Wk⟩⟩
 have Q5:=IZ Q0 CV I.kp CW;have Nb:dB l.prog w K mg base QgM 49 vg _ ["chart","most"] (sk K k 2 i7 i9 ja):=R8 I.1 iA.1 λd7 o outer s H E b a d j B=>by
  obtain⟨p0,p1⟩:=a;refine Mz ?_ p0 p1 j B;exact⟨gE ⟨⟨iA.nd,rfl,zx rfl rfl⟩,d.units⟩ iA,f,bX Xh d,⟨⟨_,_,_,⟨Qv,J.a,J.i,Qw⟩,An,Xc,Aj⟩,d.mono Wk⟩,⟨⟨_,_,_,QZ,M6,D.kp,M7⟩,d.mono Wk⟩⟩
 have Vb:=q 49 sI sJ mL UZ  CP.1 λd u p=>T6 (by exact⟨gE u CP,f,bX Q5 d,⟨⟨_,_,_,Nb,CV,I.kp,CW⟩,d.mono Wk⟩,rfl,rfl,rfl,yK.1⟩) p;have Q6:=q 0 kN kO kP QG  MC λd u p=>P5 (by exact⟨cE u Ae,f,cV Ae 2 rfl⟩) p;have fk:=q 0 yG yH sL gc  JA.1 λd u p=>aed (by exact⟨gE u JA,f⟩) p;have c4:=q 1 GA GB GC cb  ah9 λd u p=>am5 (by exact⟨cE u W3,f,cV W3 1 rfl,bX fk d⟩) p;have ag:dB l.prog w K mg base oS 51 _ _ ["script"] (RH K k 1 DP DQ DR):=kW M.1 SO λd7 o outer s H E b a _ d j=>by
  refine aqB ?_ j;exact⟨cE ⟨⟨SO.nd,rfl,.never⟩,d.units⟩ SS,f,cV SS 2 rfl,bX U3 d,bX U6 d,bX Vb d,bX Q6 d,bX c4 d⟩
 exact ag.imp (agf QcB QcB af)
def walk{l:Qnt}{q:Qah}{loose:At}{n:Qnc}{e:QmA}{d:DefRec}{K:Params->Frag}{T0:BY}(hn:l.most=some 63)(b:QmI)
  (j:∀(w:World) (h:Heap),e w h->(K w.params).In h) (k:∀(w:World) (h:Heap),e w h->∀P∈T0,h.get? P=some (tabObj #[]))
  (F:∀(w:World) (mg:Bi) (g:Addr) (h:Heap),(K w.params).In h->h.Ns mainGlobals mg->mg d.name=some (.ref g) →
   ∃(fd:QaN) (ts:Cs),(∀p∈ts,p.1∈T0/\ts.lookup p.1=some p.2/\(K w.params).lookup p.1=none/\∃c,CodeHd h c p.1)/\(∀(s:Qb) (u:Value),BindsTo s fd ⟨[u],[]⟩ [("script",u)])/\∀base:Heap,(K w.params).In base->base.Ns mainGlobals mg->Ez mg base->dB l.prog w QjA mg base oS 51 g fd ["script"] (spT QjA ts 1 DP DQ DR)) :
  PySem.W.WalkO q loose n e l.row.toRowW d [] Qlv:=
 abP hn Wk b ⟨rfl,Wk,Wk⟩ j k F (λ_ _ _ a ns hl m i=>agg rfl hl rfl m i)
end Law
end
namespace PySem.W.Fast
def tw10047352904176822793:=0
def tw101365059767366533:=0
def tw10142348522044433657:=0
def tw10181584136610343438:=0
def tw10263838673160474538:=0
def tw10344983894685549874:=0
def tw10422216453821914239:=0
def tw10508923911961666323:=0
def tw105319090159522646:=0
def tw1054208033911939298:=0
def tw10554758411057175769:=0
def tw10574058380989935646:=0
def tw10617209558852815376:=0
def tw10621547822161037384:=0
def tw10623882051979185608:=0
def tw10642624228058700860:=0
def tw10716092723446900436:=0
def tw10745710117682880616:=0
def tw10948329080593305542:=0
def tw109727017286869851:=0
def tw11038274079105098171:=0
def tw1106463102090986011:=0
def tw11121484184474360835:=0
def tw11194391678213537890:=0
def tw11233101575874130736:=0
def tw11241668375694505540:=0
def tw11300549659943731320:=0
def tw11301878981181218492:=0
def tw11426570702824725423:=0
def tw11459267320798282766:=0
def tw11490599345757532608:=0
def tw11495188272220513231:=0
def tw11502981545411911734:=0
def tw11511858282248261257:=0
def tw11647190527850202455:=0
def tw11684560992406101697:=0
def tw11699043713876330133:=0
def tw1174331998228156284:=0
def tw11746457989931860285:=0
def tw11760449884998125222:=0
def tw11769973186599741092:=0
def tw11849020346874309078:=0
def tw11872985638623488561:=0
def tw11879763011786668783:=0
def tw11929888973512210643:=0
def tw11936818187943533257:=0
def tw11997781541356326125:=0
def tw12032548518893757500:=0
def tw12086698434911091611:=0
def tw12168363341381450301:=0
def tw12218164484598613451:=0
def tw12268153117551653974:=0
def tw12339702576937946426:=0
def tw12500105197603705561:=0
def tw12535661260453790121:=0
def tw12536229632225410872:=0
def tw12613982862760654822:=0
def tw12731353811737606708:=0
def tw1275062073848776874:=0
def tw1292526607744763978:=0
def tw13082439819065615911:=0
def tw13232151237200305631:=0
def tw13262043226837669766:=0
def tw13375904953279828029:=0
def tw13384059569332047937:=0
def tw1361585796729671201:=0
def tw13695439881815127012:=0
def tw13706153648670553617:=0
def tw13722384440644705854:=0
def tw13779336422875191129:=0
def tw13806329031076130086:=0
def tw13931811126969028632:=0
def tw14038625760993345143:=0
def tw14146021395899157791:=0
def tw14241784351903794950:=0
def tw14331528065472961877:=0
def tw14334099918862412308:=0
def tw1438066365208609166:=0
def tw14392081037908685937:=0
def tw14585756151328581445:=0
def tw1460755777347149565:=0
def tw14639872811896809628:=0
def tw14691797749976213081:=0
def tw14745948084430581030:=0
def tw14762497646630846981:=0
def tw14775487094327465283:=0
def tw14808505144452892931:=0
def tw1483393960659022367:=0
def tw14840678476493579831:=0
def tw14902368372699639221:=0
def tw14960608361988363481:=0
def tw14975397160526603084:=0
def tw14995569737353679805:=0
def tw15129161012135191171:=0
def tw15345707113440532884:=0
def tw15447076421907924226:=0
def tw15477498681559122394:=0
def tw15530748013737290967:=0
def tw15531276387302089326:=0
def tw1557156363756937007:=0
def tw15592333898036632862:=0
def tw15621960614135304484:=0
def tw15648596754486733638:=0
def tw15682009270057066573:=0
def tw15711273567867088543:=0
def tw15753553613167484928:=0
def tw15829265277211461433:=0
def tw15965267331202181562:=0
def tw16097187549313531198:=0
def tw16099458512541831840:=0
def tw16180996948686579493:=0
def tw16233080789859070984:=0
def tw16245214521844817944:=0
def tw1628198099358521014:=0
def tw16304202751526348883:=0
def tw16337996512685979497:=0
def tw16390001092597613828:=0
def tw16422634882870281892:=0
def tw16443313300903637694:=0
def tw16802329306063897835:=0
def tw16898865890643559192:=0
def tw16898945332308138035:=0
def tw16927282311444744128:=0
def tw16946702899905500604:=0
def tw17059382272172262478:=0
def tw17066805293585404092:=0
def tw17175352934537390296:=0
def tw17177354269192096201:=0
def tw1718334632000922775:=0
def tw17244071567622958717:=0
def tw17296150664493720327:=0
def tw17369500943475672549:=0
def tw17460909328005968091:=0
def tw17471605003800605841:=0
def tw17506813528804833595:=0
def tw17552049442810106869:=0
def tw17558618302513317394:=0
def tw17567093730013536342:=0
def tw17698231467190564223:=0
def tw17715546493108816282:=0
def tw17735736156042517581:=0
def tw17841500768641691462:=0
def tw17855740209145091453:=0
def tw18023049325442890608:=0
def tw18046877002813928426:=0
def tw18081338178739412048:=0
def tw18082219779587719144:=0
def tw18142682094144365063:=0
def tw18174735029944643493:=0
def tw18192092049279771133:=0
def tw18238184299973393168:=0
def tw1825360628129056857:=0
def tw18263126894291582021:=0
def tw18283278152064036493:=0
def tw18368809044844569126:=0
def tw18373028630003687338:=0
def tw1838879523446310433:=0
def tw1917506964013595400:=0
def tw1934145396822998163:=0
def tw195597749479012264:=0
def tw1990272487430663079:=0
def tw2319691726535112279:=0
def tw2338084716320358832:=0
def tw2380050793175764585:=0
def tw2387185281812803885:=0
def tw2399615112453976033:=0
def tw2500944372630270492:=0
def tw2543506081504402839:=0
def tw2645824153632622497:=0
def tw2749939202075601044:=0
def tw2780862493459716603:=0
def tw2802490017066721109:=0
def tw2804498386557411835:=0
def tw2814925764114402715:=0
def tw2837254512712353957:=0
def tw2882504592172418230:=0
def tw2886015856802301466:=0
def tw2914219328321428452:=0
def tw2958066186262327394:=0
def tw3013432694482316589:=0
def tw3030395128448668745:=0
def tw3099737792388524150:=0
def tw3218966652563787904:=0
def tw3237980828544358931:=0
def tw3370322231414978753:=0
def tw3415496549674067280:=0
def tw3467754629577879130:=0
def tw3528020904300888897:=0
def tw3583314501407029427:=0
def tw3664061246172530211:=0
def tw3699135629947660326:=0
def tw3788229275952119768:=0
def tw3793529522605790109:=0
def tw3853909028874130975:=0
def tw3859489133823384094:=0
def tw3912494061125573844:=0
def tw3984791263188363661:=0
def tw398718808242452940:=0
def tw4013455028759257977:=0
def tw4021859297525133105:=0
def tw4040777672603170939:=0
def tw4089308358088735630:=0
def tw423586660550292268:=0
def tw4255889600699540250:=0
def tw4279868642900304808:=0
def tw4458875224653191503:=0
def tw4461194727393617728:=0
def tw4525322822178430667:=0
def tw4559396669216170862:=0
def tw4574869002465483728:=0
def tw4583966140073248024:=0
def tw4633813167271009600:=0
def tw4637013414670461215:=0
def tw4818917204942205411:=0
def tw4935883725802499933:=0
def tw498365277064749032:=0
def tw5218977196942209663:=0
def tw5252097179015822905:=0
def tw525575201807210115:=0
def tw5276705578526229038:=0
def tw5383274047815234600:=0
def tw5549800157533041742:=0
def tw5594442080976567284:=0
def tw5596616430424937433:=0
def tw5598514601743588300:=0
def tw5696890236980752097:=0
def tw5725709570464634121:=0
def tw5763188840997088136:=0
def tw5768953653320275925:=0
def tw5839945405200117770:=0
def tw5888654457175867551:=0
def tw5915567215158092401:=0
def tw5942977222875473957:=0
def tw6010405200962661179:=0
def tw6077166009535347666:=0
def tw611068177692362184:=0
def tw619364940044289590:=0
def tw6366796653591413341:=0
def tw6425735407203248764:=0
def tw6470026783265150414:=0
def tw6479439484466737597:=0
def tw6617344657392250364:=0
def tw6838363329324806711:=0
def tw6962879888207790948:=0
def tw7077619360951194699:=0
def tw721646921699198522:=0
def tw7228608138237059067:=0
def tw7306399593675203510:=0
def tw7313952766811386085:=0
def tw7451065502331738831:=0
def tw7463660929788606010:=0
def tw7512813342742293544:=0
def tw7545059539969255464:=0
def tw7610411139955175001:=0
def tw7622245506470817049:=0
def tw7679496925420726133:=0
def tw7696568992674039337:=0
def tw7702532302122159350:=0
def tw7720186008735683797:=0
def tw7783948121253788548:=0
def tw7812951120839941387:=0
def tw795375455359759413:=0
def tw8099272597843883183:=0
def tw8159910859262147162:=0
def tw8228484544746506475:=0
def tw8249253530611176817:=0
def tw836847555772838704:=0
def tw8389833492040987324:=0
def tw8432673927632904493:=0
def tw8497918724048942517:=0
def tw8606820170992501870:=0
def tw8726778434736898344:=0
def tw8764271706526482481:=0
def tw8770108975414072111:=0
def tw8770741086108902455:=0
def tw8780660962751254311:=0
def tw8870788048043019909:=0
def tw9045734773434290688:=0
def tw9078035612151630035:=0
def tw9112692243086852983:=0
def tw9158504226033651689:=0
def tw926265343637882748:=0
def tw9370345556650194754:=0
def tw939688063521165408:=0
def tw9415814566145321184:=0
def tw94259043882089885:=0
def tw9440348239365714305:=0
def tw9459271622505927632:=0
def tw9655354155220839168:=0
def tw9778867234739866579:=0
def tw9824528506667213141:=0
def tw9826339515829974563:=0
def tw991095872415664173:=0
end PySem.W.Fast
open PySem PySem.W PyProof.Rows
set_option maxRecDepth 100000 in
set_option maxHeartbeats 0 in
theorem PySem.Challenge.cw_moodtree_k64_idle_ways_holds : PySem.Challenge.rw_moodtree_k64_idle_ways.Holds := by
 w_on; o_law; k_head; (case hw => w_witness2)
 k_fill
 refine Law.walk (l := PySem.Challenge.rw_moodtree_k64_idle_ways) rfl rfl (λw h Y => PySem.W.km_in_of Y) (λw h Y => PySem.W.km_tabs_of Y) ?F
 case F =>
   intro w mg fa h KX G hmg
   apply Law.all_mk KX G hmg
   all_goals first | exact L3.Wq.mk (n := 1) rfl | (refine L3.Wq.mk (n := 2) ?_; kernel_rfl) | (refine L3.Wq.mk (n := 3) ?_; decide) | (refine L3.Wq.mk (n := 5) ?_; kts_exm) | (apply L3.fn1 <;> k_is) | (apply L3.fn2 <;> k_is) | (apply L3.fnD <;> first | k_is | rfl | ((repeat (intro _)); exact ⟨_, rfl, rfl⟩)) | (apply L2.yU.mk <;> k_is) | ((try delta L3.InG); (try delta L2.bu); (try delta L3.V5); (try delta L3.AZ); k_is)
