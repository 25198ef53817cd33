import PyProof.Rows.All
import Wide.All
import OpenK.AllK
import Wide.FinOn
import Lean
import PyProof.EqAt
import PyProof.EqKinds
import PyProof.TupleCall
import PySem.Challenge.RW_moodtree_k23_whole_read_is_written
set_option Elab.async false
set_option linter.all false
set_option maxRecDepth 100000
set_option maxHeartbeats 4000000
open PySem.W (instObj hideAll hideAll_size Frag lookIn plainGet hasDictIn findIn handedIn plainOver takerIn makesIn typeIn emptyDict isFn keepIn cellsFrom_some fnOf codeIn kitOne funFrames_hide nsOkIn nsIn tailIn tail_of_in isNs_of_in exmOne clsIn KeysLit mapOf_K)
theorem Wc{p:Prop}(h:p:=by lia):p:=h
def Wl{p:Prop}(h:p:=by decide +kernel):p:=h
def Wp{p:Prop}(h:p:=by decide):p:=h
def W2{p:Prop}(h:p:=by simp):p:=h
theorem WA{p:Prop}(h:p:=by simp_all):p:=h
theorem WE{p:Prop}(h:p:=by grind):p:=h
theorem WF{p:Prop}(h:p:=by simp;lia):p:=h
open Lean in
def qqM (k:Name) (x:List Syntax):Syntax:=.node .none k x.toArray
open Lean in
def qqL (x:String):Syntax:=.atom .none x
open Lean in
def qqN (x:String):Syntax:=mkIdent x.toName
open Lean in
def qqC (x:List Syntax):Syntax:=qqM nullKind (x.intersperse (qqL ","))
open Lean in
def qqS (q:List Syntax) (t:String):List Syntax:=
 let r:=(t.drop 1).toString;let n:=r.toNat?.getD 1;let s:=q.drop n;let a:=(q.take n).reverse;let y:=q.headD .missing;let o:=q.tail;let x:=o.headD .missing;let w:=o.tail;let p:=qqM ``Parser.Term.hygienicLParen [qqL "(",qqM hygieneInfoKind [mkIdent .anonymous]]
 match t.front with
 | '@'=>qqM ``Parser.Term.app [s.headD .missing,qqM nullKind a]::s.tail
 | '['=>qqM `«term[_]» [qqL "[",qqC a,qqL "]"]::s
 | '<'=>qqM ``Parser.Term.anonymousCtor [qqL "⟨",qqC a,qqL "⟩"]::s
 | ','=>qqM ``Parser.Term.tuple [p,qqM nullKind [a.headD .missing,qqL ",",qqC a.tail],qqL ")"]::s
 | '.'=>qqM ``Parser.Term.dotIdent [qqL ".",qqN r]::q
 | '!'=>qqM ``Parser.Term.explicit [qqL "@",qqN r]::q
 | '\''=>Syntax.mkStrLit r::q
 | '_'=>(if r.isEmpty then qqM ``Parser.Term.hole [qqL t] else qqN t)::q
 | '='=>qqM ``Parser.Term.namedArgument [qqL "(",qqN r,qqL ":=",y,qqL ")"]::o
 | '>'=>qqM ``Parser.Term.proj [y,qqL ".",if r.isNat then Syntax.mkLit fieldIdxKind r else qqN r]::o
 | '~'=>qqM (.mkSimple s!"term{r}_") [qqL r,y]::o
 | '^'=>qqM ``Parser.Term.arrow [x,qqL "→",y]::w
 | '`'=>qqM (.mkSimple s!"term_{r}_") [x,qqL r,y]::w
 | ':'=>qqM ``Parser.Term.typeAscription [p,x,qqL ":",qqM nullKind [y],qqL ")"]::w
 | '?'=>qqM `termIfThenElse [qqL "if",w.headD .missing,qqL "then",x,qqL "else",y]::w.tail
 | '\\'=>qqM ``Parser.Term.fun [qqL "fun",qqM ``Parser.Term.basicFun [qqM nullKind [if r=="_" then qqM ``Parser.Term.hole [qqL r] else qqN r],qqM nullKind [],qqL "=>",y]]::o
 | _=>(if t.isNat then Syntax.mkNumLit t else if t=="Prop" then qqM ``Parser.Term.prop [qqL t] else qqN t)::q
def qqT:Array String:=("
aq E.ll 0 @ @















Shared





E.gg 0 @
model X.prog X.w @2

.refl _ @


aq E.ll 2 @ @
E.gg 1 @
Inv X pins U H s @5





aq E.ll 1 @ @



X.et XE X W @2 @

List α @
.ref C @

aq E.ll 3 @ @






Program
E.ll 2 @
i 1 `+
A Prop ^





model prog w @2
.ref a @
k 1 `+
QHS
QHT
k1.trans k2 @
E.ll 3 @
E.gg 2 @
E.ll 1 @
trivial \\_ \\_ \\_
aq E.ll 4 @ @
rfl \\_
.inr rfl @
e es `::
E.gg 3 @
n 1 `+
ah QL ao @2
.ref f @
aE st @
QHU
E.ll 4 @
E.ll 5 @
bG X CL b e δ t δ1 @7
.str x @
.inl rfl @
AC X e es @3
.Name x pos @2
.ref e @
cg I q W2 @3
QHV
trivial \\_ \\_ \\_ \\_
v_ E.ll 0 @ >1 @
.bl true @
j 1 `+
ak cJ ai @ @
some t @
QHW
X.calm true `=
QHX
st.length 1 `-
E.gg 4 @
QHY
bP K CL b H Z δ U ts vs @9
ds.length sizeLine `≤
v vs `::
cQ cj fv _ @ @2
some v @
.tup xs @
aq Qav @
eF rfl @
QHZ
QH0
QH1
QH2
T.sh .bl z @ @ \\z
trivial \\_
upd H a o @3
.int i @
E.c 38 @
QH3
EP X pins U Q @4
ci _ _ @2
E.gg 5 @
bW st @
QH4
QH5
QH6
b5 X CL b e1 δ .int i @ δ1 @7
aX X scope Nc C s H fp @7
au Qb ai rfl @3
aS d 2 @2
eL rfl @
QH7
QH8
QH9
.Call .Name x pp @2 e es `:: [0 pos @4
.Name x pp @2
b5 X CL b e2 δ1 .int j @ δ2 @7
v_ E.ll 2 @ >1 @
fL _ rfl <2 @
.nil \\_
ah Qb ao @2
bu .nil Wl @2
.lst xs @
.ref p @
absurd hp Wp @2 \\hp
ds.map T.sh @
es.map .int @
q \\q \\_
.sh Qax @
.lst ds @
l.map f @
E.c 39 @
eD _ b @2
QIa
QIb
QIc
upd H s.heap.objs.size .lst [0 @ @3
.ListComp elt tg iter ifs 0 <4 [1 scope pos @4
au QL ai rfl @3
X.env.frame some X.env.locals @ `=
X.stack X.env X.outer `:: `=
a sysModules `==
w.src m Int : `=
v_ E.ll 3 @ >1 @
l.map .str @
x l `∈
E.ll 6 @
.int _ @
bS ai @
jv ps @
t ts `::
QId
QIe
QIf
QIg
lk 'if 'and A @3 lk 'do 'then D @3 `++ t `++
bP K CL b H Z δ U t ts `:: v vs `:: @9
.ref s.heap.objs.size @
x.length sizeLine `≤
l.length 1 `-
.fresh 0 0 led @3
v_ E.ll 1 @ >1 @
.Name x px @2
some .sh d @ @
.xd f y ,2 [1 @
Ci ps @ δc `++
ck QaF @
.dK aO @
bz q hn @2
.bl _ @
ik _ _ @2
EI P w @2
QIh
QIi
QIj
QIk
swapsWith e some .Name x pos' @2 @ pos.line X.env @4 pure false @ `=
.Compare e1 .Eq [1 e2 [1 pos @4
ah aH Qb ai eV @3 Qaq @2
au Qb ai dP @3
w.qs.map mE c.bn c.ns @2 @
bL E.dZ E.cz Qb dH @4
he pins s U H _ I h @7
s.heap.objs.size 1 `+
vL E.ll 4 @ >1 @
strKind prog w @2
vM E.ll 1 @ >1 @
some Qar @
l.map V.str @
ks.map .str @
ss.map .int @
.lst tl @
X.pinned p @
l.map Lv @
Str Int `×
ps.zip us @
model P w @2
fu P w @2
.tup ds @
.str _ @
.int n @
some k @
a QpF @
E.c 13 @
E.gg 6 @
eD _ c @2
oi n k @2
QIl
QIm
QIn
QIo
QIp
QIq
bL E.aY E.bT Qb cO @4
.Compare e1 .NotIn [1 e2 [1 pos @4
b5 X CL b e1 δ .str x @ δ1 @7
.Compare e1 .In [1 e2 [1 pos @4
NT X CL b tg iter δ ds δ1 @8
.ext lE e C none @3 @
.BinOp e1 .Add e2 pos @4
c.ks.getD m Str.empty @2
g pins s U H _ I h @7
I.bZ.fresh eA _ @ @
.Tuple elts kk pt @3
CL exc a @ >1 @
o.ws.length 1 `-
entry N arg a @ @2
cD ns ns.length @2
vL E.ll 5 @ >1 @
i9 nb nm ns @3
eval o X.env @2
r6 n _ @2 \\n
.bl aU x @ @
rfl \\_ \\_
EI X.prog X.w @2
ns.map V.int @
aB Qcq rfl @2
arg a @
.ref CL c @ @
CL 'Chart @
.ref it @
c.trans a @
.lst us @
f.trans c @
'on l `::
ck Qbq @
I.tok _ @
intOf x @
.sh c.d @
.ref x @
.dJ o u @2
e _ _ h @3
es x [1 `++
res a @
g i j @2
.inl h @
some 1 @
fp gp `++
aS d 1 @2
eD _ a @2
.bl b @
gb hn @
h q a @2
hz Wc @
m j `+
QIr
QIs
QIt
QIu
QIv
QIw
QIx
QIy
QIz
QIA
QIB
QIC
excClassObj nm q C N bs bm hdct sn sub ab col dd k0 k1 k2 k3 k5 'ValueError.__new__ @18
ah QL ah QD ao @2 @2
.inl E.cc 0 @ @
some c l.length Int : `% 1 `+ @
some c l.length Int : `% @
r k a eD _ b @2 @2 \\b \\a @
au Qb ai eV @3
cJ ai @
k1.trans k2.trans c @ @
absurd b fo @2 \\b \\a
c a b i @3 \\i \\_ \\b \\a
.Subscript e1 e2 pos @3
some BI x.length c @2 @
aH Qb ai rfl @3
hi pins s U H _ I h @7
ah QD Qhb @2
w.ds.map dQ c.bn @ @
aH Qb ai dP @3
trivial \\_ \\_
some .sh d @ @ δc `::
qL bn aS t 0 @2 >jF @2
aq E.ll 7 @ @
ts.map V.str @
U.set i QaU @2
binaryOp .Add @
.builtin id @
c.ws.map WY.d @
TP X pins U Q @4
vL E.ll 3 @ >1 @
vL E.ll 2 @ >1 @
.sh .int r @ @
aB QbL rfl @2
env outer `::
ns.map .str @
c.bs.map oZ @
ws.map .str @
aq E.ll 9 @ @
es.length 1 `+
eR.mpr rfl @
.bl false @
d.trans c @
.ins c fs @2
0 j Int : `+
Qzv 2147483647 `% 6 `/
.ref fI @
.sh .non @
.int k @
.ref Dd @
some v0 @
some t0 @
'on r `::
List Lk @
Xu mb f @2
mn _ _ @2
.inr x @
X.et E @
.ref D @
d.n bs @
w 6 `%
E.gg 7 @
iM _ _ @2
bZ q a @2
jH nb @
eI hp @
f e `++
QID
QIE
QIF
QIG
QIH
QII
QIJ
QIK
QIL
QIM
QIN
QIO
QIP
QIQ
QIR
QIS
QIT
XE X W @2
fnOf x qual gP st @ bW st @ aE st @ .none kV doc pm an eS ct @12
envOfC qual aE st @ s.heap.objs.size f eS @5
iy items.size items.size hi @3 iy items.size 0 lo @3 `-
e9 X.prog X.w X.K X.mg X.base CX k f fd ps sp @11
fZ X.env scope.names [0 @3
RW.line c.bn c.ns @2
i j rfl rfl q <5 \\q \\_ \\_
.Assign .Name x pos' @2 [1 e pos @3 dm `::
bS ak cW QU ai @2 @ @
aO.any decide a >1 k `= @ \\a @
.Subscript Qbo e2 ps @3
.lst tl t [1 `++ @
ah QL Qhb @2
iT n.hi n.hv n.hd n.iA @4
aB au QL ai dP @3 rfl @2
l.map RW.line bn ns @2 @
st.getD QaN [0 @2 d [1 `++
EN Addr Value `× `×
hp.nodup_iff.mp nd @
gx _ e @2 \\e \\u \\b
us.reverse vs `++
c.rows.map Qfq @
v_ E.ll 10 @ >1 @
.ins CL c @ dx gs @3
ak bK QL ai Wp @3 @
j9 p >1 p >2 nb ns @4
eval e X.env @2
a.map .int @
t.symm.trans z @
f.symm.trans z @
iT hi hv hd iA @4
decide p >1 c `= @
aV bw aL @2
c.ss.getD m 0 @2
vM E.ll 6 @ >1 @
some QcC @
aq E.ll 8 @ @
EN α `×
f1 f2 d `++ `++
K w.params @
k1.trans c @
l.map .int @
.Name y py @2
bu QpG Wl @2
AT Int `×
h.trans g @
f.trans d @
.own x @
.lst [0 @
truthy v @
me _ _ _ @3
.ref p >2 @
h.q d hd @2
h.d d hd @2
pz ms st @2
D.oQ ds @
p >1 8 `/
eZ o.ws @
.sh w.d @
some 81 @
a >1 k `=
.own a @
.ref b @
.dK gs @
.int z @
some 2 @
E.c 30 @
E.c 58 @
some 9 @
lh _ _ @2
gc hd @
lJ Wc @
gI Wl @
m n `++
w l `::
QIU
QIV
QIW
QIX
QIY
QIZ
QI0
QI1
QI2
QI3
QI4
QI5
QI6
QI7
QI8
QI9
QJa
QJb
QJc
QJd
QJe
QJf
QJg
QJh
QJi
QJj
QJk
QJl
QJm
QJn
QJo
QJp
QJq
QJr
QJs
QJt
aV av v_ E.ll 3 @ >1 @ av aB au Qb ak aJ E.kL E.gg 7 @ @2 @ eV @3 rfl @2 av v_ E.ll 4 @ >1 @ av v_ E.ll 5 @ >1 @ bw @2 @2 @2 @2 aL @2
some .Name x pos' @2 @
au .int j Nat : 1 `+ Int : @ .int q.bl @ .str q.word @ q.cn [4 =ds QU ak aJ E.jK Qx @2 @ gS @4
ah QU ao @2
pi pins s U H _ I hw H Z U ts vs _ S C \\C \\H1 \\J @8 @7
post_val_or_str fg Txt.slice_le z _ _ @3 hz @2 fin <2 @
[0 List Keyword @ : >isEmpty 0 1 ?
ak v_ Vn.wx An 0 @ @ @ @
ah QD ao @2
.builtin 'object.__setattr__ @
.Subscript e .Slice lo hi none p2 @4 pos @3
swapsWith e none pos.line X.env @4 pure false @ `=
aX X scope Nc C s0 a f0 @7
.sh .lst 'on Str : l `:: >map .str @ @ @
.str eG c.bn .tup .int a @ .int k @ [2 @ @2 @
b X.ex `∈ X.ff.heap.objs.size b `≤ `∨
bL E.aY E.dI Qb f9 @4
bG X CL b e1 δ .sh .tup ds @ @ δ1 @7
a f2 `∈ H a @ Z a @ ?
.Call .Name x p @2 Qan [0 pos @4
ak v_ Vn.wx Ao 1 @ @ @ @
.Compare e1 .NotEq [1 e2 [1 pos @4
Lies X pins U H s H' e C d B s' @11
hideAll s.heap nR X.stack @ @2
some c l.length Int : `% 2 `+ @
b5 X CL b e2 δ1 .str j @ δ2 @7
oH c d r fs w WA @6 \\hw \\w
.sh d @
b5 X CL b e1 δ .str i @ δ1 @7
behindInMarks .NotIn e2 @2 false `=
.tup .str 'put @ .int k @ t [3 @
.tup .str 'say @ .str n @ t [3 @
.Compare e1 op [1 e2 [1 pos @4
Cx Value Shared Prop ^ ^ ^
congrArg _ i @2 \\i \\_ \\_
ah oV 1 @ ah eU 0 @ ao @2 @2
ah aH Qb ai gS @3 Qaq @2
upd H a .lst us v [1 `++ @ @3
.Return some e @ pos @2 dm `::
m2 X.K CL n arg Pre exc @6
ps.getD 0 [0 @2
nR X.stack @
.Compare a op [1 b [1 pos @4
.cons h r @2 \\r \\h \\_ \\_
Fc X CL x k n arg Pre res @8
behindInMarks .In e2 @2 false `=
c 48271 `* 2147483647 `%
some T.sh d @ @ \\d
V BS Hp VK Prop ^ ^ ^ ^
au QL ai eV @3
ah QcY ao @2
ah Qb ah QbL ao @2 @2
x '__debug__ Str : `==
behindInMarks op b @2 false `=
fx _ fx _ mW hb e @2 @2 @2
Result Shared Prop ^ ^
jJ pw mb f.bl f.c.w @4 true `=
keywordEach [0 X.env @2
some BI l.length c @2 @
st.getD QaN [0 @2 x [1 `++
h H Z U ts vs _ S k @8
x >1 >isSome \\x
Str Option NameKind @ ^
Flow Shared Prop ^ ^
xB n _ _ _ @4 \\n
xC n _ _ _ @4 \\n
.Attribute e f pos @3
c.ws.take j @
ak dB E.fY Qao @2 @
lY.trans qc Wp hn @2 @
ah Qb ah ai ao @2 @2
vO X CL b e δ P δ1 @7
c x.cps.toList `∈
q kM p @ @ \\p
h.Ns mainGlobals mg @2
upd H p .dK [0 @ @3
tl.length sizeLine `≤
.Name y px @2
0 w.tg `≤ w.tg nm `< `∧
jk.n bs ms @2
st.getD QaN [0 @2
av bQ av bQ bw @2 @2
Nat Heap Prop ^ ^
keepIn K Qar @2 true `=
some .sh t.dJ @ @
Binds X.K fd ps [0 @4
gX X scope y Nc ix @5
.sh .lst c.wB @ @
.Tuple es j pos @3
i9 nb nm ns o p @5
.type 'object @
x '__name__ `≠
d.mem_iff.mp c @
l.map L3.D.str @
a.map L3.D.int @
X.env X.outer `::
es.length 1 `-
toString i @
X.A.units 1 `+ cLine `<
Nat Ap Prop ^ ^
Nat Bz Prop ^ ^
c.ns.map .str @
c.is.map .tup @
c.os.map .tup @
Nat RW L3.D ^ ^
Ga bs ms c pw mb @5
.inl E.cc 1 @ @
c.rows.take j @
q a b c d e f @6
d.keeps _ _ z @3
v_ E.ll 4 @ >1 @
vM E.ll 2 @ >1 @
aS d 3 @2
x >1 ~! \\x
aF K CL Z ds vs @5
.Name x pos' @2
.List es pos @2
X.mg 'len @ none `=
us.length 20 `+
r.line bn ns @2
.type 'set @
A.units 1 `+ cLine `<
Zb K x st f fd @5
qJ nb nm m k w @5
SP X pins D @3
eD _ hw @2
y.length 0 `==
wA.getD k 0 @2
ss.getD i 0 @2
dX Qac X.A @2
.bl iK x @ @
u5 r ta tb @3
bE bX cT a @3
bE bX cT c @3
l.getD i z @2
.tup x y [2 @
IK bn ns r @3
x kQ y @ `∈
f1 g d `++ `++
CL 'Tree @
.lst ys @
e.trans s @
e.trans c @
.ok .next @
g.trans f @
kM QhM @
aq QbT @
g b o e a @4
.dT aO en @2
0 es.length `<
q.n bs ms @2
lD x m `:: @
1 j Int : `+
g4.mp hm @
xO _ _ _ @3
vs Hu `++
.type T @
.ref sl @
.tup ys @
eD _ he @2
a 24 `/
.cod q @
.ref t @
.int x @
E.c 19 @
E.c 31 @
.inl y @
.inr y @
E.gg 8 @
us ws `++
g1 g2 `++
w1 _ _ @2
l x [1 `++
.sh r @
YR sc @
Ax bs @
Ax ms @
E.c 1 @
e _ _ @2
q qs `::
h k >1 @
r k >2 @
QJu
QJv
QJw
QJx
QJy
QJz
QJA
QJB
QJC
QJD
QJE
QJF
QJG
QJH
QJI
QJJ
av v_ E.ll 4 @ >1 @ av v_ E.ll 5 @ >1 @ bw @2 @2
.ListComp elt .Name y px @2 iter ifs 0 <4 [1 scope pc @4
.ListComp elt tg iter ifs 0 <4 [1 scope pc @4
.cons r.mono e k a hj _ b @2 @2 \\b \\a @2 i k a fx _ b @2 @2 \\b \\a @ @2 \\k \\i \\_ \\r
.cons h k a hj _ b @2 @2 \\b \\a @ r k a fx _ b @2 @2 \\b \\a @ @2 \\k \\r \\h \\_ \\_
.Call .Attribute Qbo 'append pa @3 e [1 [0 pb @4
.builtin 'type.__call__ .ref C @ us `:: kw <2 @2
.ExceptHandler some .Name x np @2 @ none b₀ suite `:: pos @4 rest `::
true D.bC _ @ D.bC _ @ true true true `&& `&& `&& `&& `&&
h k a hj _ b @2 @2 \\b \\a @
r k a fx _ b @2 @2 \\b \\a @
starEach e1 e2 [2 X.env @2 false eval e1 X.env @2 ,2 starEach e2 [1 X.env @2 `:: `=
k6 ns i ns.getD i Str.empty @2 @3 true `= 0 1 ?
jR X CL scope Nc xs.length tg parts ifs elt δc ds p q @13
eC.mp b @ >elim r.there a @ i a @ @2 \\b \\a \\i \\_ \\r
c.ks.getD m Str.empty @2 'one `≠ c.ss.getD m 0 @2 1 ~- `= `∧
fnOf x x gP st @ bW st @ Qas .none kV doc pm an eS ct @12
upd upd H1 e Qc3 @3 e .ext lE e C some dx @ @3 @ @3
compEnvC scope Qfp s3.heap.objs.size X.env @4
a f2 `∈ H a @ Z a @ ? \\a
eC.mp b @ >elim h a @ r a @ @2 \\b \\a \\r \\h \\_ \\_
.Compare e1 .Is [1 .Constant .none d p2 @3 [1 pos @4
envOfC qual scope s.heap.objs.size f cd @5
i6 es @ 0 m `≤ m es.length `< es.length 1000 `≤ `∧ `∧ `∧
bL E.aY E.gw Qb j8 @4
Ig X W CL b scope Nc ifs elt δc ds p ok g @13
Bb X CL b Qan δ arg a @ >map T.sh @ δ1 @7
aX X scope Nc s.heap.objs.size s H fp @7
G0 X.K CL n arg Pre res @6
.cons _ rfl <2 .nil @2
ak aP 2 =n rfl E.bN Qb Qx @5 @
ak aP 3 =n rfl E.bN Qb Qx @5 @
bG X CL b e2 δ1 .sh .tup rT @ @ δ2 @7
.Call .Name 'len pp @2 e [1 [0 pos @4
T.sh .str z @ @ \\z
hG ij fA e @ I.ok.nV x c D g @4 @2 @
vs.map some @ List.replicate n none @2 `++
QH QP CL x k n arg Pre ok res exc @10
.FormattedValue e 1 ~- none pos @4
ak iX Qb hz cH bS QU @ @4 @
ay keep a hj _ c @2 @2 @ \\c \\a
Bb X CL b es δ ds.map T.sh @ δ1 @7
t 'bool `== n 'int `== `&&
kX E.g.nd E.g.calm Q2 Qag @4
ok a @ false `= eW b W Qc9 exc a @ >2 @4 ^
bG X CL b e δ .sh .bl p @ @ δ1 @7
bG X CL b e1 δ .sh QbC @ δ1 @7
.builtin 'object.__class__ @
uX p.tail @ >isSome \\p
sC p.tail @ >isSome \\p
ak qb E.bN Qb hz Qx @4 @
scope.names.lookup x @ some .local @ `=
V Bn Bn Hp VK Prop ^ ^ ^ ^ ^
PySem.call f vs @2 \\vs \\f
upd H a .dK putK gs k v @3 @ @3
.Assign .Name x pos' @2 [1 e pos @3
PassesOwn Qy X.A X.env X.xe @4
RW.line kR s @ >bn kR s @ >ns @2
.ins CL c @ dx lB f v gs @3 @3
x 'do 'then [2 AT : `∈
starEach es X.env @2
iG B l e C d some f @ s.heap @7
strKind_is X.prog X.w k t @4
.ins 'Tree qR ks es ss @3 @2
absurd eI hp @ Wl @2 \\hp
q b o hb e @4 \\e \\hb \\o \\b
x 'if 'and [2 AT : `∈
b5 X CL b e δ .str x @ δ1 @7
b5 X CL b e δ .str k @ δ1 @7
trivial \\_ \\_ \\_ \\_ \\_
lookup_relabel_local h2 @
vE E.ll 6 @ >1 rfl tX _ @ @3
.ins C dx fs @3
bG X CL b e δ .sh d @ δ1 @7
bP X.K CL b H Z δ U ts vs @9
kk c eD _ o @2 @2 \\o \\c
w.qs.length w.ds.length `+
absurd eI z @ Wl @2 \\z
T.sh .int z @ @ \\z
.sh .lst ps.map lD @ @ @
.Constant Qa5 j pos @3
f .int i t @2 .int j u @2 @2
.type 'BaseException @
m 26 131621703842267136 `* `<
w 'in 'out [2 AT : `∈
I.base.free b o e n a @5
.Constant Qax j pos @3
HP f .sh .val v @ @ ,2 QC `:: `++
a.cps.toList.length 1 `+
c.ns.getD m Str.empty @2
qL bn aS Qbi 0 @2 >jF @2
nh E.aY E.jU QaF rY @4
tl.reverse ts `++
some BI x.length c @2 1 `+ @
es.getD d.jF.toNat 0 @2 j `=
Option T @
RR P w K mg base CL h n @8
absurd hp Wl @2 \\hp
v .bl true @ `= \\_ \\v
.tup us @
.bl decide QbS @ @
hm b _ q z \\z @4
h pins s U H _ I hw @7
Bb X CL b es δ tl δ1 @7
mN X CL b lo δ1 l δ2 @7
mN X CL b hi δ2 h δ3 @7
b5 X CL b e2 δ1 d δ2 @7
rj X CL b e δ p t δ1 @8
decide p @ decide q @ `&&
Ce E.FW Qx QD j @4
False \\_ \\_ \\_
w.ds.map jj.n bs @ @
.Subscript o i pos @3
i pins s U H _ I h @7
iy items.size 0 lo @3
Lay P w l H h0 H' B h @8
gX QP scope y Nc ix @5
.str _ _ Wl @3 \\n
absurd z Wl @2 \\z
E6 c m @2 ju c Qid m @3 `++
ak aJ E.ic Qah @2 @
absurd z Wp @2 \\z
ak dB E.fY QE @2 @
c.bZ.fresh eA _ @ @
a.bZ.fresh eA _ @ @
BS Hp VK Prop ^ ^ ^
World Heap Prop ^ ^
lA jW _ @ tI _ _ @2 @2
ForInStep.yield r @
X.mg 'enumerate @ none `=
sI k.natAbs Int : @
.sh .lst QfM @ @
d.params.defaults [0 `=
ue X CL b e δ t δ1 @7
False \\_ \\_
.bl EW ks es ss @3 @
tupleKind QcI @
V Hp VK Prop ^ ^ ^
codeIn K eS qual @3 true `=
.Name 'range pr @2
jj.n bs @
decide _ @ oj _ _ @2 `&&
l8 x @ qS x @ >lk `&&
a.free c d q n e @5
oz X.prog X.w H' h' @4
fK K CL H Z δ U fp @7
us.length tl.length `=
k NameKind.free `==
l.foldl Qde o @2
.str dQ c.bn _ @2 @
ak bK QU ai Wp @3 @
ah Qel Qfx @2
.Name 'range p @2
ys.length sizeLine `≤
.tup k.map kV @ @
g1 g g3 `++ `++
Obj.mapFields g @
w.as.map Qip @
T.sh _ @ \\z
.builtin 'len @
h1.trans z @
d.trans s' @
List.range' 0 n @2
k6 ns ns.length @2
CL 'MoodError @
ak cW QL ai @2 @
ak cW QD ai @2 @
BN Heap Prop ^ ^
res a @ >clean true `=
q \\q \\_ \\_
some .lst Yr @ @
tl.length 1000000 `≤
Nat.zero_add _ @
its.size sizeLine `≤
w.as.map jk.ws @
w.ds.map jj.ws @
Nat.succ_pos _ @
AT BA BA `× `×
.Xj ps more `++ @
execs st X.env @2
.jq aO @
upd H p Qdr @3
upd H a Qbv @3
Loc X.env.scope y @2
f1 a g `:: j `++ `++
iG B l e C d fl h @7
Int Int Int ^ ^
PySem.W.OpenLaw
L3.D Option BC @ ^
some .lst l @ @
Gl X 'enumerate @2
x yQ r 36 `% @ `++
.inr .inl z @ @
.sh .str pw @ @
.sh .int mb @ @
QN X.env.scope x @2
.type 'list @
.tup ds rT `++ @
l.foldl mD es @2
.str Uk c m @2 @
vM E.ll 4 @ >1 @
ah Qb Qaq @2
vL E.ll 1 @ >1 @
v_ E.ll 5 @ >1 @
aB Qeh rfl @2
f.zh.trans s @
f.c.ok bs ms @2 true `=
some n Int : @
.sh .int t @ @
instObj C dx @2
.type 'str @
X.mg x @ some QS @ `=
cP X.K CL c @ f @3
b6 K CL Z aO gs @5
w.at bs ms m @3
v.at bs ms k @3
l.map Xq @
fs.lookup f @
Array GenState @
some Qfw @
.tup QbR @
ts.map .str @
some Qac @
.int CP c @ @
0 \\_
fJ P w H h a o @6
A.handled none `=
BP c.heap H @2
putK aO k v @3
K8 δ is ps @3
HP f t ,2 QC `:: `++
yC N Qdm @2
CH L3.D `×
ah Qak ao @2
h.objs.size a `≤
A T Prop ^ ^
some Qab @
D T Prop ^ ^
some .none @
f1 t e3 `++ `++
s.map .int @
m9 E.c 3 @ @
I.kT x c e @3
H a @ some Qlu @ `=
H a @ some Qce @ `=
notStar e @ true `=
bE bX cT d @3
bE bX cT j @3
bE bX cT f @3
GX X.K CL c @ @2
r.length 1 `+
qL ns w.tg @2
gE _ e1 e2 @3
hG Qqg @
hG fA e @ @
d.trans a @
f1 g b `++ `++
I.ok.hd m @
gD QpQ @
pF Qdt @
ws.map Zu @
upd H x o @3
l.most some n @ `=
.dT gs en @2
.ref p @ vs `::
Ak f t fs @3
.lst l @ ts `::
.ref D @ vs `::
yJ x x st ps @4
x CG `∈
mV p c nb @3
ZT bs n k @3
Int Bool ^
Hp Prop ^
b Qhk @
v1 v2 es `:: `::
List QfW @
X.hand e @
l.map kM @
l.take j @
trivial
bS Qak @
.int i t @2
.str x t @2
ne b o e @3
R0 d1 d2 @2
m es.length `<
iJ [0 h0 @2
aW bn ns @2
jT h r a @3
0 ns.length `<
.type n @
.lst G4 @
.ref D' @
α Prop ^
RW.wy n @
RW Bool ^
c.D4 ms @
l.map W @
fc this @
k x.length `≤
Vals xs us @2
Vals vs us @2
jo aO k @2
wk H a y o @4
P [0 [0 [0 @3
kY sc I @2
bz e hn @2
rT [0 `≠
r 36 `/
m 26 `/
m 26 `%
Xr m us @2
jN m us @2
mD es p @2
eD _ hp @2
m 10 `/
eD _ hb @2
n Int : mb `=
w.src n `<
IJ fs d @2
hp p eB @2
i l.length `<
O8 mb y @2
e x `= H e @ some Qf6 @ `= `∨
upd Z p QlV @3
upd H p QlV @3
some Qne @
aS QiW 1 @2
aS QiW 0 @2
.sh QeK @
aX X scope Nc s3.heap.objs.size s3 upd H s.heap.objs.size .lst [0 @ @3 fp @7
.cons E.ll 0 @ >1 .inl E.cc 0 @ @ .nil @3
jD aI c_ bs nm tr is os ws a c ,8 E.c 64 @ QE ah Qb ah au QL ai gS @3 ao @2 @2 trivial rfl @6 .sh .bl Ii bs.length a c @3 @ @ =t2 rfl @3 @ \\_
lH c.bs.map oZ @ c.ns.map .str @ .ins 'Tree qR c.ks c.es c.ss @3 @2 c.is.map .tup @ c.os.map .tup @ c.ws.map WY.d @ @6
b NameKind.free `== env.scope.kind .function `== `&& env.kindOf n @ some _ @ `== `&& true `= n NameKind.cell ,2 n b ,2 ?
aH Qb ai eV @3
FH ks es ss @3 false `= 'BadTree oh nm @ false `= 'BadName 'BadBox ? ?
c_ ks es ss nm.map L3.D.str @ ,4 E.c 60 @ Qx ah bL E.aY E.gw Qb j8 @4 ah QcY ao @2 @2 h.pre fg h.l4 Wp @2 <2 h.kl h.sl e.trans h.nl @ <4 rfl @6
dO fh aI c_ ss.getD i 0 @2 es.map _ @ ,2 E.c 58 @ QE ah QD ah Qcs ao @2 @2 trivial rfl @6 congrArg T.sh _ @ \\z n @2 @2 @ @
ah .lst sE x @ >map dY.d @ @ =d ak fU c_ x E.c 52 @ >give QE Qbt I j <2 cl @6 fz @2 @ ao @3
iz fC false =q bH ak aP 2 =n rfl E.bN Qb Qx @5 @ ai @2 >1 absurd eI z @ Wc @2 \\z @3 @
b 'in 'out ?
aI c_ x E.c 37 @ Qah ah au QL ai eV @3 ao @2 hS bR d @ @ rfl @6 .sh .bl aU x @ @ @ =t2 rfl @3
av c_ l n k r ,4 E.c 31 @ >give QE ah au Qb ai gS @3 Qd1 @2 trivial h2 <2 rfl @6 bw @2
aS d 0 @2 >toS 'put `= bn.getD aS d 1 @2 >jF >toNat Str.empty @2 aS d 1 @2 >toS ?
a >1 k `= a >1 v ,2 a ? \\a
a >1 k `= a >1 d ,2 a ? \\a
r .ok .ret .bool true @ @ @ `= OldK c.heap s'.heap @2 s'.os c.os `= AllBare s'.gens @ `∧ `∧ `∧ \\s' \\r
newFunctionEnv scope X.env.globals Qfp [0 X.env.qual none .none some X.env @ @8
swapsWith Qkm Qg9 pos.line X.env @4 pure true @ `= swapsWith Qkm Qg9 pos.line X.env @4 pure false @ `= `∨
swapsWith Qkl Qg9 pos.line X.env @4 pure true @ `= swapsWith Qkl Qg9 pos.line X.env @4 pure false @ `= `∨
h2 rfl H1 Z1 U ts vs _ a.pop k v H2 Z2 c.trans d @ Qaf f @6 \\f \\k2 \\d \\Z2 \\H2 \\v @9
jR QP CL scope Nc xs.length tg parts ifs elt δc ds p q XE Y W @2 \\Y gd @15
RW.line bn ns @2
isLt x.cps.toList.getD 0 0 @2 @ x.cps.toList.all isLt c @ iR c @ `|| \\c @ `&&
CH.D4 c.bs c.ns x [1 `++ c.ks w [1 `++ c.es e [1 `++ c.ss pz ms st @2 [1 `++ c.is [0 [1 `++ c.os [0 [1 `++ c.ws <8 ms @2
ah au Qb ai gS @3 Qd1 @2
aH x m `:: >map .str @ =ds Qak ai dP @4
compareOp op @
c_ l a r ,3 E.c 30 @ >give Qx ah Qd6 Qd1 @2 trivial h1 <2 rfl @6
h2 rfl H1 Z1 U ts vs _ c k H2 Z2 a.trans d @ Qaf f @5 \\f \\k2 \\d \\Z2 \\H2 @9
.lst us v [1 `++ @
isLt c @ iR c @ `|| \\c
FR f hb I h e pins s2 U H2 x y v u Q g d c q @13 \\q \\c \\d \\g \\H2 \\y \\x \\s2 \\u \\v @5
x.cps.toList.getD 0 0 @2
aH Qb ai gS @3
attributeBase Qbo 'append X.env eval Qbo X.env @2 @4 eval Qbo X.env @2 `=
ij fA e @ I.ok.above @2
.sh .tup .int src @ .str sg @ .tup al.map nr @ @ .tup dd @ .int tg @ .str md @ [6 @ @
c_ bs E.c 63 @ QaO ah Qho ao @2 h.b1 h.b2 <2 rfl @6
c_ bs n k r ,4 E.c 31 @ >give QE ah Qd6 Qfx @2 trivial h1 <2 rfl @6
RR .ref D @ s3.heap.objs.size .error x @ Rg @4 \\Rg \\x
Option V @
List dY @
fnOf name qual params body scope dV kV doc pm an eS ct @12
XE mY CX P w K mg base N x Qas f eS i outer s H E @16 W @2
aO.map a >1 k `= a >1 y ,2 a ? \\a @
.ListComp elt .Name y px @2 iter ifs 0 <4 [1 scope pos @4
ah Qhf ah Qhs ah ak v_ Vn.wx Ao 2 @ @ @ @ ao @2 @2 @2
.tail _ .tail _ .head _ @ @2 @2
n 'int 'str 'list 'tuple 'bool 'dict [6 `∈
yt X CL scope Nc xs.length tg parts ifs elt δc ds p g @13
h H Z U ts vs _ S c.no n @ >elim \\c \\k1 \\d \\Z1 \\H1 \\v @8
y f `= some v @ none ? \\y
c_ nm E.c 61 @ Qah QhW h.n1 hn <2 rfl @6
HT.iy xs.length xs.length hi @3 HT.iy xs.length 0 lo @3 `-
.Call .Attribute o 'partition apos @3 e [1 [0 pos @4
i.deeper envOfC x Qas s.heap.objs.size f eS @5 @
dz x m `:: >map .str @ =ds Qhf cu _ @ bS ai @ cH @5
b 'in Str : 'out ?
.Call .Attribute Qfv 'append pa @3 e [1 [0 pb @4
Bool.noConfusion y.symm.trans z >1 @ @ \\y
H a @ >isSome true `= Z a @ W' a @ ?
.Call .Attribute Qbo 'extend pa @3 e [1 [0 pb @4
ns.getD c ns.length Int : `% >toNat Str.empty @2
.lst List.range n @ >map fq qK c m @2 @ \\m @ @
Bool.noConfusion u.symm.trans y @ @ \\u
e9 X.prog X.w X.K X.mg X.base uE k f fd ps QkM @11
jJ pw mb qz x @ lK x @ >w @4 wF lK x @ >w O8 mb x @2 l @3 `&&
X.env.kindOf y >1 @ some .cell @ `= X.env.kindOf y >1 @ some .free @ `= `∨
a.contains y >1 @ scope.names.lookup y >1 @ some .free @ `== `&&
hb.imp hb >1 HM hb >2 @ <2 \\hb id @2
.Call .Attribute o 'split apos @3 e [1 [0 pos @4
K.lookup b @ some .type 'tuple @ od .seq its n @2 sl <4 @ `=
hb.imp hb >1 Bk hb >2 @ <2 \\hb id @2
aB aH vL E.ll 6 @ >1 @ QaI pC l6 B @2 @3 Io m @ @2
au au eU 0 @ ak aJ E.ic iY @2 @ yI @3 ai dP @3
.Call .Attribute e0 'append pa @3 e [1 [0 pb @4
ah au .str n @ .int k @ [2 =ds Qb ai dP @4 Qd1 @2
attributeBase o 'split X.env Qdf @4 eval o X.env @2 `=
findIn K QS '__setattr__ @3 some some Qhh @ @ `=
scope.names.lookup y @ some .free @ `== \\y
X.et Cu X CL b Z δ1 ts vs CL c >1 @ c >2 @9 @
.inl _ _ rfl hF _ Wc @2 hI _ Wc @2 <2 qq _ _ _ @3 <5 @
.int j i `< j i ? @
swapsWith Qkp none pos.line X.env @4 pure false @ `=
.Call .Name 'enumerate pr @2 e [1 [0 pc @4
some o.elim .none rawInt b @ \\b @2 @
w 'leaf 'all [2 AT : `∈ l.length 1 `= `∧
.lst fQ es cs j @3 >map .int @ >map T.sh @ @
Value Addr Result Shared Prop ^ ^ ^ ^
trivial \\_ \\_ \\_ \\_ \\_ \\_ \\_ \\_ \\_ \\_ \\_ \\_ \\_ \\_ \\_ \\_
K.lookup f @ some oc od .func QkA @ Ed <4 @ `=
au aH Qho QbL MW i >1 i >2 @2 @3 ai rfl @3
.lst DZ Az s @ >is @ DZ Az s @ >os @ Uc Az s @ >ws @ [3 @
.cons E.ll 3 @ >1 .inl E.cc 2 @ @ .nil @3
ah vE E.ll 6 @ >1 rfl J.trans iA @ @3 ao @2
K.lookup f @ some oc od .func Qfl @ Ed <4 @ `=
p >1 8 `% 3 `< 1 0 ?
S.N.take S.m @
aT di E.gJ Qed cu _ @ QE b7 @5 @
aT di E.gJ Qed ez _ @ QE b7 @5 @
aH x m `:: >map .str @ =ds Qhf ai dP @4
.lst By ps @ >as >map jk.d @ >map T.sh @ @
Cu X CL b Z δ1 ts vs CL cx >1 @ cx >2 @9
aj aj _ rfl <2 @ @ \\_
scope.names.lookup x @ some .globalImplicit @ `=
k1.trans k2.trans k3.trans c @ @ @
.Compare e1 .In [1 .Tuple es j p2 @3 [1 pos @4
some .lst ds.filter p @ >map g @ @ @
Block X CL scope Nc ifs elt δc ds p g @10
au eU 0 @ ak aJ E.jK iY @2 @ gS @3
.call .ref B @ .ref a @ [1 [0 <2 @2
ns.getD aS d 1 @2 >jF >toNat Str.empty @2
l.Pairwise a.src c.src `≤ \\c \\a @
is.map L3.D.tup QcE @ \\l @
os.map L3.D.tup QcE @ \\l @
au QL ak aJ E.zu QaO @2 @ rfl @3
au QL ak aJ E.Jm Qba @2 @ rfl @3
aT dz Qb cu _ @ cH bS QU @ @4 @
F.w _ hp w eD _ hw @2 @4 \\hw \\w
y >2 b hb @2 >trans e @ \\e \\hb \\o \\b
.cons r.mono e @ i @2 \\i \\_ \\r
p >2 b hb @2 >trans e @ \\e \\hb \\o \\b
lk 'if 'and A @3 lk 'do 'then D @3 `++
c.ws.Pairwise a.src c.src `≤ \\c \\a @
c_ x E.c 41 @ Qx Qbt f rfl @6
starEach e2 [1 X.env @2 false eval e2 X.env @2 ,2 [1 `=
bP K CL b H Z δ U .sh d @ ts `:: QaS @9
QB QP CL b Qin iter δ ds δ1 @8
.str _ _ qp h.ok _ @2 @3 \\n
w.ds.all jj.ok bs @ @ pk ms w.tg @2 `&&
T.sh jk.n bs ms q @3 @ \\q
kX E.g.nd E.g.calm Qag Qau @4
r.nf i Nat : 1 `+ Int : @ \\r \\i
G0 K CL ps.length arg Pre res @6
List.replicate xs.length none @2
Turn X.prog X.w X.K tg J fp it tn @8
.Assign .Name x pos' @2 [1 Qkm pos @3 dm `::
some .lst tt.set j Qfw @2 @ @
gs.any decide a >1 k `= @ \\a @
.Assign .Name x pos' @2 [1 Qkl pos @3 dm `::
al.map some @ List.replicate n none @2 `++
upd upd H e QyP @3 dx Qcb @3
GZ QP CL b Qan δ arg a @ δ1 @7
nC es @ Ij ks es @2 EW ks es ss @3 `&& `&&
n 1000 `≤ 0 ns.length `< ns.length 1000 `≤ `∧ `∧
fG bY s @ xT s @ bY s @ >length @3
fQ bY s @ xT s @ bY s @ >length @3
.str Ul d.xi.toS d.at2.jF ,2 @ @
.str jN c j sp `* `+ qI c sp j @3 @2 @
ak aP eu _ @ E.bN QU Qx @4 @
aT dz Qb cu _ @ Qft cH @4 @
ak iX Qb hz Qft cH @4 @
bu .cons E.ll 1 @ >1 Qd2 .nil @3 Wl @2
au QD ak aJ E.ug Qx @2 @ dP @3
PySem.F.args_tuple_add_2 _ _ @2
bP K CL b H Z δ U QlO QfF @9
cK X CL b dm δ1.set i QaJ @2 D @6
bG X CL b e δ .lst Qby @ δ1 @7
.Compare e1 op a [2 e2 e3 [2 pos @4
Tj QP W scope Nc C s0 c f0 @8
.lst l.map .int @ >map T.sh @ @
aj aj k _ rfl @2 @ @ \\_
spliced backTo pos Qli @2 @
letOwnedTupleGo tg Qdp u @3
QB X CL b Qin iter δ ds δ1 @8
.cons _ rfl <2 QkN @2
m us.length `+ 20 `+ 26 131621703842267136 `* `<
.io b8 c.es m @2 >length 'out @2
FH ks es ss @3 oh nm @ Aq bs @ `&& `&&
absurd hw fc z @ @2 \\z
T.sh jj.n bs q @2 @ \\q
instObj C s.heap.objs.size @2
NT QP CL b tg iter δ ds δ1 @8
.io b8 c.es m @2 >length 'in @2
w 'leaf 'all [2 AT : `∈
av QfR av QfR Qkk @2 @2
ah au QaW ai eV @3 Qef @2
.sh jG bs nm tr is os ws @6 @
x '__classdict__ Str : `==
.BoolOp .And b rest `:: pos @3
a b rest `:: `::
C b o hb e @4 \\e \\hb \\o \\b
.Compare a op f [2 b c [2 pos @4
jX X.K H p ys @4 lS X.K H p ys @4 `∨
.Compare e1 .LtE [1 e2 [1 pos @4
b5 X CL b e1 δ .lst ds @ δ1 @7
h z eD _ hz @2 @2 \\hz \\z
.lst tl Xo `++ @
absurd hb fo @2 \\hb \\b
S.f a @ >2 >2 >2 >1 \\a
S.f a @ >2 >2 >2 >2 \\a
bn.getD a.toNat Str.empty @2
bn.getD k.toNat Str.empty @2
List.length_filter_le _ _ @2
cs.getD j Int : >toNat 0 @2 2 `/
v_ E.ll 6 @ >1 @
ah QaW ah QL Qef @2 @2
absurd fc hp @ Wl @2 \\hp
I.base.keep b o e n hb l @6
.BoolOp .Or b rest `:: pos @3
Ht P w K mg base A outer s H @9
.Compare e1 .Lt [1 e2 [1 pos @4
.Compare e1 .Gt [1 e2 [1 pos @4
.BoolOp .And e2 es `:: pos @3
.BoolOp .And e e2 es `:: `:: pos @3
aX X scope Nc C s0 H0 f0 @7
L b hb @2 >1 \\hb \\b
.int cD ns ns.length @2 Nat : @
.bl Txt.startswith z y @2 @
Pre a @ ok a @ false `= `∧ \\a
S.f a @ >2 >2 >1 \\a
.str _ _ qp Wl _ @2 @3 \\n
ah au Qb ai yI @3 Qef @2
apos.endLine j3.line `== true `=
.Pass 0 0 0 0 <4 @
.BoolOp .Or e2 es `:: pos @3
.BoolOp .Or e e2 es `:: `:: pos @3
b5 X CL b e2 δ1 QcL δ2 @7
aX X scope Nc C s0 b f0 @7
b5 X CL b e δ .int k @ δ1 @7
scope.names.lookup x @ some .free @ `=
b5 X CL b e δ .int i @ δ1 @7
.lst us l `++ @
b5 X CL b e δ .str z @ δ1 @7
handleBy QaB X.env h @3
.Subscript Qb9 i pos @3
.Subscript Qb9 e pos @3
nsIn K mainGlobals x @3 some Qcy @ `=
Pre a @ ok a @ true `= `∧ \\a
S.f a @ >2 >1 \\a
List.mem_reverse.mpr a @
Txt.slice x QcM none @3
a.src c.src `≤ \\c \\a
absurd fc z @ Wl @2 \\z
aB au QaW ai dP @3 rfl @2
some x.core @ \\x
Value Value Sem Value @ ^ ^
h pos pins s U H _ I c @8
g pos pins s U H _ I h @8
upd H p .tup xs ys `++ @ @3
.ext N0 w a ds vs us @5 @
absurd q fo @2 \\q
.BinOp e1 .Mult e2 pos @4
.Name 'isinstance pp @2
.lst Qby @
f.trans s3.trans s' @ @
ys.map some @
some .jq vU aO k d @3 @ @
b5 X CL b e1 δ N9 k @ δ1 @7
B pos pins s U H _ I h @8
I.base.free b o z n nx @5
S.f a @ >1 \\a
.tup .str 'call @ .str n @ [2 @
c.ws.take 0 @
lZ E.uh Qcv i1 Qx @4
lZ E.uh Qdd i2 Qx @4
isTrue e X.env QfL @3
.Constant .none j pos @3
.inr o e _ _ h @3 <2 @
Fm X CL x k n arg Pre res @8
u3 X CL x k n arg Pre exc @8
S a @ >2 >1 \\a
ok d @ true `= t g d @ `= `∧ \\t \\d
o4 X CL b es δ1 q tl δ2 @8
.wy b8 c.es m @2 >length @
.str mE c.bn c.ns d @3 @
.str As c.bn c.ns w @3 @
AT BA BA Int `× `× `×
.str mE c.bn c.ns _ @3 @
oZ y4 s pQ s @ d.jF @3 @
isTrue e X.env whole @3
.Return some e @ pos @2
.ins C dx lB f y fs @3 @3
HT.iy xs.length 0 lo @3
starEach Qan X.env @2
j pins s1 U H1 _ m e @7
Meets K CL b Z ts vs D E @8
hp.nodup_iff.mpr nd @
eA s.heap.objs.size @
.Constant Qa5 k p @3
S a @ >1 \\a
.type 'ValueError @
yd ds p ok g ds.length l @6
pB bn.length ns.length d @3
t4 bn.length ns.length w @3
bL E.dZ E.iP Qb nI @4
.bl Ab i bs.length @2 @
bL E.aY E.lq Qb uP @4
bL E.aY E.jV Qb rX @4
n \\n \\_ \\_ \\_ \\_
storeName X.env x u @3
h pins s U H Q I hw @7
intBits_le_64 h1 h2 @2
lastMarks op f [2 b c [2 @2 false `=
gx _ q @2 \\q \\u \\b
hv pins s U H _ I h @7
gx _ q @2 \\q \\k \\b
gx _ q @2 \\q \\_ \\_
GZ X CL b es δ1 ds δ2 @7
.cons g.mono k2 @ f @2
ForInStep.yield ok @
.bl t n `== Qk0 `|| @
.str Txt.join z l @2 @
.Subscript e0 e2 ps @3
lH bs nm t is os ws @6
.int _ _ @2 \\n
f l.getD Qb6 z @2 @
40 iS s @ >length `-
Nat.succ_ne_zero j @
cQ bF QfR cj @2 aL @2
.lst ws.map WY.d @ @
e \\e \\_ \\_ \\_
d pins s U H _ I h @7
b pins s U H Q I h @7
x.above y c oe h @ @3
call Qep v us `:: @2
ks.map kV @
behindInMarks op e2 @2 false `=
.bl decide i j `= @ @
strKind_is _ _ _ _ @4
Vals Qem its.toList @2
iW QP scope xs Nc ix @5
g5 es @ es.length 900 `≤ `∧
Y.re P w K mg base @5
c.is.map L3.D.tup @
c.os.map L3.D.tup @
ak cW Qb Qak @2 @
l.getD i Str.empty @2
ak dB E.fY Qah @2 @
.int es.getD i 0 @2 @
es.take j @
e \\e \\_ \\_
α Shared Prop ^ ^
compareOp .NotIn @
ns.map WData.int @
.bl decide i j `= @ ~! @
t res a @ `= \\t \\a
X.mg 'isinstance @ none `=
.ins CL c @ dx [0 @3
.pin y .ins c [0 @2 @2
Txt.slice z lo hi @3
Vals.strsFrom _ _ @2
IS sc inner h1 h2 @4
t5 X CL b e δ cx δ1 @7
.ok .ret .none @ @
.lst tl.set j t @2 @
z.length y.length `<
Zc K C x qual st f fd @7
HN sc inner h1 h2 @4
es.getD m.toNat 0 @2
l.getD Qb6 [0 @2 d [1 `++
T5 n _ @2 \\n
mz c.ks c.es c.ss @3
RW.io n w @2
w 'box `= l.length 2 `= `∧
w 'one `= l.length 2 `= `∧
w.ps.length 1 `-
rfl \\v
congrArg Qa2 hn @2
.lst st.map lT @ @
.lst st.map tT @ @
ks.getD i _ @2 yU `∈
congrArg Qa2 hm @2
congrArg Qa2 hb @2
ah QL ah aD ao @2 @2
congrArg QkS i @2
.tup p >1 >map kV @ @
eval QaA X.env @2
NZ X pins U tg R @5
n9 X binaryOp op @ r @3
n9 X compareOp f @ i @3
.builtin 'min @
h1.symm.trans e @
l.getD k.toNat z @2
L2.St Hp Prop ^ ^
eX K CL H Z aO gs fp @7
rawInt L @
items.size ns.length `=
pm.mem_iff.mp d @
rest.length sizeLine `≤
.lst l.map lT @ @
y.symm.trans z >2 @
oh c.ns @ Aq c.bs @ `&&
kh c c.es.length @2
.str dQ c.bn d @2 @
bQ \\_
ks.map L3.D.str @
rQ QfH ai rfl @3
k7 E.ll 6 @ >1 rfl @2
au eU 0 @ ai rfl @3
t6 Qa9 Qa9 @2
ah Qd6 Qef @2
ah Qzd Qfx @2
ah QaW Qfx @2
k7 E.ll 1 @ >1 rfl @2
k7 E.ll 2 @ >1 rfl @2
ks.getD i _ @2 'leaf `=
congrArg Qa2 d @2
.sh .lst c.kW @ @
op CmpOp.NotIn `==
Int Int Prop ^ ^
Int Int Bool ^ ^
binaryOp .Mult @
Q0 r i ta tb tc @5
Ni s.heap x dx C mA @5
A.under Qkq @
.type 'tuple @
.Dict [0 [0 pos @3
c.deeper Qfm @
rh X CL tg is parts @5
L3.D Bx Prop ^ ^
some .lst tt @ @
kk c WE @2 \\A \\c
some .int z t @2 @
strKind z @ strKind y @ `<
.Name 'self c @2
.Name 'self j @2
l.map L3.D.tup @
w 'one `= aU st @ true `= `∧
pk bs n @2 pk bs n2 @2 `&&
Xv x w c @3
x.length 900000 `≤
aH QL Qak gC Wc Wc @2 @3
gq 4 =j rfl @2
Un fs ex H H1 h h1 @6
s.heap.objs.size a `≤
pyNext Qdp @
Value Sem Value @ ^
compareOp .Eq @
compareOp .In @
ns.length sizeLine `≤
aQ K CL H Z t v fp @7
cL K CL H Z t v fp @7
eX K CL H Z t v fp @7
k H1 Z1 a k1 c @5
g.push QbU @
Gl X 'isinstance @2
.If e a c pos @4 dm `::
l.push Qcg @
p8 p9 bX bX hm @4
p7 p9 bX bX hm @4
i.push Qcg @
i.natAbs.log2 1920 `<
p8 jQ bX bX hm @4
p7 jQ bX bX hm @4
j.push Qcg @
.lst acc y [1 `++ @
.lst G4 yv [1 `++ @
L3.D T Prop ^ ^
g1 c g `:: g3 `++ `++
aO.map QpV @
gs.map QpU @
c.push QcK @
A.frames some Qew @ `=
X.pinned pins @
ns.length 1 `+ scanBound `<
lL FD d @ >tail @
Vc FD d @ >tail @
dY.n c.bn c.ns @2
.inl e6 rfl @ @
pk bn _ @2 pk bn _ @2 `&&
Xs c.bn c.ns w @3
.sh .val tv @ @
.bl Ij ks es @2 @
cs.getD m 0 @2 2 `/
CL 'BadTree @
CL 'BadName @
ah Qb Qhg @2
au QD ai rfl @3
Xq Ad s d.jF @2 @
u >2 >symm >trans y @
.int qz x @ Nat : @
.sh .int tg @ @
.sh .str md @ @
.sh .str tx @ @
c.ks.map .str @
c.es.map .int @
c.ss.map .int @
.tail _ Qqs @2
I.ok.G8 b o e @3
AP X pins U Q @4
exec st X.env @2
bootBuiltins x @ some u @ `=
St Hp Prop ^ ^
fu X.prog X.w @2
some k Int : @
Bn Hp Prop ^ ^
.lst xs zs `++ @
bJ K CL H Z t v g @7
a.pop.push f @
.type 'int @
bs.map D.int @
ns.map D.int @
PyData.strOk x @ true `=
s.trans c.zh @
a g m [0 `++ `++ `::
l.length sizeLine `≤
aO.length 1000000 `≤
ns.map V.str @
eval e0 X.env @2
List α @ Prop ^
h.objs.size 1 `+
K.lookup C @ some Qd0 @ `=
Bw t @ >isSome true `=
CL 'BadBox @
vM E.ll 3 @ >1 @
vL E.ll 6 @ >1 @
vM E.ll 5 @ >1 @
aB Qd6 rfl @2
au QU ai gS @3
aB Qp6 rfl @2
.sh .str L @ @
v .non `= Q Qdy H2 @2 `∧ \\H2 \\v
.str Str.ofString QiH @ @
mem lh _ _ @2 >trans QeR @ p @2
.BoolOp .And QsB pos @3
XI .bl QdD @ \\j \\i @
.BoolOp .Or QsB pos @3
b5 X CL b e2 δ1 Qne δ2 @7
call QeI .ref e @ rest `:: @2
e QmU @ \\z
.sh .lst QnO @ @
.int QdD s.toks @2
f1 d QmP `:: o `++ `++
Jd e7 x @ QeW c @3
yJ S.x S.x S.st Qrg @4
RK QsQ ai rfl @3
JO ok a @ QdC @2
E6 c m @2 ju c QtM m @3 `++
f.trans QmV @
NW U ix QtF @3
upd H a Qth @3
upd H l Qjo @3
upd H D Qf7 @3
l.map Qvo @ t `++
x7 S.st S.N Qrg @3
.ref x @ QjD `::
.tup QuN @
some QtD @
.ins c QdC @2
some QsI @
some QvL @
.str Qwt @
adds Qu1 @
m5 X CL b e δ p δ1 @7
apos.endLine pos.line `== true `=
iW X scope xs Nc ix @5
AC X e [0 @3
b5 X CL b e δ .lst ds @ δ1 @7
AL X pos es @3
b5 X CL b o δ .str z @ δ1 @7
arg a @ >length n `=
List κ V `× @
A BC ^
Gl X x @2
b5 X CL b e2 δ1 .int k @ δ2 @7
ds.length rT.length `+ sizeLine `≤
b5 X CL b e δ1 .str y @ δ2 @7
FuncData
Qz K x qual st f fd @6
QyD
QyC
GZ X CL b Qan δ arg a @ δ1 @7
oz P w H h @4
pa.endLine pb.line `== true `=
i δ1.length `<
.ext lE e C some dx @ @3 @
keepIn X.K Qar @2 true `=
b5 X CL b e δ d δ1 @7
Loc X.env.scope x @2
AN X iter @2
Around
X.N.Nodup
b5 X CL b e2 δ1 d2 δ2 @7
List κ Value `× @
b5 X CL b e1 δ d1 δ1 @7
Vn X i x @3
Ln X i x @3
PE X a ta @3
n9 X compareOp op @ r @3
X.A.units 64 `+ cLine `<
Unit Shared Prop ^ ^
d9 N ps Qas @3
r.Ok bn ns @2
X.mg 'range @ none `=
X.xe False \\_ \\_ `=
X.mg x @ some Qar @ `=
Qyw
A BC Prop T `× `× ^
L2.Inv X pins U H s @5
au Qb ai gS @3
RelV y u @2
QyH
Binds X.K fd ps ds @4
bO K CL Z d v @5
bJ K CL H Z t v fp @7
z.length sizeLine `≤
QyJ
QyK
QyU
Qza
Qzf
α L3.D ^
String
List WY @
L3.D Bool ^
α Bool ^
Int Int `×
w 48271 `* c `+
Option Expr @
Array DictEntry @
PE X e te @3
Qyy
QyZ
Qy0
sV ds p q G @4
A Ex ^
It Hp Prop ^ ^
Gl X 'range @2
QyT
List DictEntry @
QyM
QyV
PE X b tb @3
D Option BC @ ^
Qzk
Qzl
Qzm
Qzn
Qzo
Qzq
Qzz
QzA
QzB
QzD
QzG
QzM
QzN
QzO
QzP
QzQ
QzR
QzS
QzT
QzU
QzV
QzW
QzI
QzJ
Qzr
QzX
QzY
QzZ
Qz0
Qz1
Qz2
Qz3
Qz4
Qz5
Qz6
Qz7
Qz8
Qz9
QAa
QAb
QAc
QAd
QAe
QAf
QAg
QAh
QAi
QAj
QAk
QAl
QAm
QAn
QAo
Passes CX X E @3
aU x @ true `=
m c.es.length `<
Qy1
Qze
sA ds k @2 some d @ `=
A T ^
Qqm
L3.D T ^
PA X Qan t @3
aA H H' @2
PE X i ty @3
aA Z Z' @2
dX k X.A @2
AB X pos e @3
s.length 74 `≤
D.bC ds @ true `=
List Qql @
QyB
K.In s.heap @
QyO
D Bool ^
Qy6
KV aO vs @2
QyA
Qzp
Vals Hu ds @2
T Prop ^
k l.length `<
aU n @ true `=
Qzy
Qyt
Qyv
Qzt
L3.D Prop ^
AT Bool ^
RelV v u @2
List DY @
Option Bool @
PT X a tA @3
QzK
Qy5
AB X pb e @3
Str Bool ^
Bh H v0 p w @4
Qzu
A Bool ^
X.mg x @ none `=
Gl X 'len @2
QyS
Qzw
QyI
KT H aO xs @3
Qzh
QzC
Qzs
0 l.length `<
BC Int `×
Option CA @
AM X x @2
Operator
QzF
Qy7
QyX
Qy9
QyQ
PE X o td @3
H p @ none `=
QyR
Qyx
Qy3
A B1 ^
G 0 [0 @2
Qyz
Qyu
Str Bn ^
xE nb d @2
Qy4
RelV x v @2
QzE
Qy2
Qzg
Qzx
Qql
Qzi
QyY
QyW
QyE
QyL
QyN
Qzc
α β ^
QyF
aA Z H @2
QzL
Qzj
QyG
Qy8
QzH
GE X x l @3
Qzb
QAp
QAq
QAr
QAs
QAt
QAJ
QAu
QAv
QAw
QAx
QAy
QAz
QAA
QAB
QAC
QAG
QAH
QAK
QAV
QAX
QAZ
QBh
QBi
QBm
QAN
QAP
QA1
QA2
QBq
QBA
QA7
QBr
QBs
QBu
QA8
QA9
QBN
QBv
QBw
QBe
QBa
QAQ
QAL
QAE
QBd
QBC
QBD
QBE
QBF
QBG
QBJ
QBK
QBL
QBM
QB8
QBO
QBP
QA0
QAO
QAY
QBS
QBg
QBU
QBV
QBW
QBX
QBY
QBZ
QBI
QB0
QB1
QB2
QB3
QBj
QB4
QB5
QB7
QB9
QCa
QCb
QCc
QCd
QCf
QBn
QBR
QBc
QA4
QAR
QA6
QlR
QAU
QBo
QBT
QBB
QAW
QA3
QAD
QAM
QBt
QBH
QAI
QBp
QAT
QA5
QB6
QBz
QBk
QBl
QBQ
QCe
QBf
QBb
QBx
QAF
QBy
QAS
QCg
QCh
QCi
QCj
QCk
QCl
QCm
QCn
QCo
QCp
QCq
QCr
QCs
QCt
QCu
QCv
QCw
QCx
QCy
QCz
QCA
QCE
QCF
QCG
QCH
QCK
QCO
QCP
QCU
QCB
QCV
QCC
QCW
QCD
QCX
QCI
QCJ
QDb
QCL
QCM
QDc
QCN
QDd
QCQ
QCR
QCS
QCT
QCY
QCZ
QC0
QC1
QC2
QC3
QC4
QC5
QDE
QC6
QC7
QC8
QC9
QDF
QDa
QDG
QDH
QDI
QDe
QDf
QDg
QDh
QDM
QDi
QDN
QDO
QDP
QDj
QDk
QDl
QDm
QDn
QDo
QDS
QDp
QDU
QDq
QDr
QDs
QDt
QDV
QDu
QDv
QDw
QDx
QDy
QDz
QDA
QDB
QD5
QDC
QDD
QD7
QDJ
QDK
QDL
QDQ
QDR
QDT
QDW
QDX
QDY
QDZ
QD0
QD1
QD2
QD3
QD4
QD6
QD8
QD9
QEa
QEb
QEc
QEd
QEe
QEf
QEg
QEh
QEi
QEj
QEk
QEl
QEm
QEn
QEo
QEp
QEq
QEr
QEs
QEt
QEu
QEv
QEw
QEx
QEy
QEz
QEA
QEB
QEC
QED
QEE
QEF
QEG
QEH
QEI
QEJ
QEK
QEL
QEM
QEN
QEO
QEP
QEQ
QER
QES
QET
QEU
QEV
QEW
QEX
QEY
QEZ
QE0
QE1
QE2
QE3
QE4
QE5
QE6
QE7
QE8
QE9
QFa
QFb
QFc
QFd
QFe
QFf
QFg
QFh
QFi
QFj
QFk
QFl
QFm
QFn
QFo
QFp
QFq
QFr
QFs
QFt
QFu
QFv
QFw
QFx
QFy
QFz
QFA
QFB
QFC
QFD
QFE
QFF
QFG
QFH
QFI
QFJ
QFK
QFL
QFM
QFN
QFO
QFP
QFQ
QFR
QFS
QFT
QFU
QFV
QFW
QFX
QFY
QFZ
QF0
QF1
QF2
QF3
QF4
QF5
QF6
QF7
QF8
QF9
QGa
QGb
QGc
QGd
QGe
QGf
QGg
QGh
QGi
QGj
QGk
QGl
QGm
QGn
QGo
QGp
QGq
QGr
QGs
QGt
QGu
QGv
QGw
QGx
QGy
QGz
QGA
QGB
QGC
QGD
QGE
QGF
QGG
QGH
QGI
QGJ
QGK
QGL
QGM
QGN
QGO
QGP
QGQ
QGR
QGS
QGT
QGU
QGV
QGW
QGX
QGY
QGZ
QG0
QG1
QG2
QG3
QG4
QG5
QG6
QG7
QG8
QG9
QHa
QHb
QHc
QHd
QHe
QHf
QHg
QHh
QHi
QHj
QHk
QHl
QHm
QHn
QHo
QHp
QHq
QHr
QHs
QHt
QHu
QHv
QHw
QHx
QHy
QHz
QHA
QHB
QHC
QHD
QHE
QHF
QHG
QHH
QHI
QHJ
QHK
QHL
QHM
QHN
QHO
QHP
QHQ
QHR".splitOn "\n").toArray
def qqI (c:Char):Nat:=if 'a'<=c then c.toNat-97 else if 'A'<=c then c.toNat-39 else c.toNat+4
local macro_rules | `($x:ident)=>let u:=Lean.Macro.throwUnsupported;match x.getId with
 | .str .anonymous s=>let f:=fun n=>match qqT[n]? with
   | some t=>if t.isEmpty then u else pure ((t.splitOn " ").foldl qqS []).head!
   | _=>u
  match s.toList with
  | ['Q',a]=>f (qqI a)
  | ['Q',a,c]=>f (62+62*qqI a+qqI c)
  | _=>u
 | _=>u
local macro_rules | `(#[$a,*])=>if a.getElems.isEmpty then Lean.Macro.throwUnsupported else `(⟨$a,*⟩)
noncomputable section
namespace L2
open PySem PySem.Spec PyProof.Rows
abbrev eu:=@List.length_map
abbrev cq:=@if_neg
abbrev ew:=@List.mem_cons
abbrev e5:=@List.getD_eq_getElem?_getD
abbrev eB:=@List.mem_cons_self
abbrev eD:=@List.mem_cons_of_mem
abbrev eL:=@Nat.le_of_ble_eq_true
abbrev dU:=@if_pos
abbrev eI:=@of_decide_eq_true
abbrev eC:=@List.mem_append
abbrev eP:=@List.length_append
abbrev eR:=@List.mem_singleton
abbrev eE:=@List.map_append
abbrev ey:=@List.map_map
abbrev fc:=@of_decide_eq_false
abbrev fb:=@List.append_assoc
abbrev eA:=@Nat.le_refl
abbrev fx:=@List.mem_append_right
abbrev gh:=@List.getElem?_eq_getElem
abbrev eM:=@wpAny_bind
abbrev eJ:=@List.mem_map
abbrev e6:=@decide_eq_true
abbrev e4:=@List.map_cons
abbrev gc:=@List.mem_of_getElem?
abbrev gx:=@Heap.get?_push_of_some
abbrev fo:=@List.not_mem_nil
abbrev ft:=@List.append_nil
abbrev fD:=@Bool.and_eq_true
abbrev fT:=@List.getElem?_map
abbrev fw:=@decide_eq_false
abbrev gm:=@Bool.false_ne_true
abbrev fO:=@Option.some.inj
abbrev fg:=@Nat.le_trans
abbrev hj:=@List.mem_append_left
abbrev gz:=@List.length_range
abbrev gv:=@List.length_cons
abbrev fA:=@Heap.lt_size
abbrev hH:=@List.length_singleton
abbrev hE:=@List.map_congr_left
abbrev fv:=@Nat.zero_le
abbrev hq:=@decide_eq_true_eq
abbrev hR:=@List.getElem?_eq_some_iff
abbrev gr:=@PySem.W.mg_of
abbrev fR:=@sizeLine_eq
abbrev hB:=@List.all_eq_true
abbrev hI:=@Int.emod_lt_of_pos
abbrev g4:=@List.mem_range
abbrev hY:=@List.filter_cons_of_neg
abbrev hF:=@Int.emod_nonneg
abbrev gL:=@wpAny_pure
abbrev hM:=@List.length_take
abbrev hX:=@Heap.get?_push_size
abbrev hW:=@List.getElem?_range
abbrev hU:=@Nat.le_succ_of_le
abbrev hG:=@Nat.ne_of_lt
abbrev ij:=@Nat.lt_of_lt_of_le
abbrev ig:=@List.filter_append
abbrev h9:=@List.flatMap_cons
abbrev h7:=@List.lookup_cons
abbrev hZ:=@List.take_length
abbrev j1:=@Option.map_eq_some_iff
abbrev iU:=@List.length_pos_iff
abbrev ik:=@List.cons_ne_nil
abbrev iw:=@List.nodup_append
abbrev kn:=@List.filter_cons_of_pos
abbrev hS:=@Nat.le_of_lt
abbrev ka:=@List.Perm.append_left
abbrev hJ:=@wpAny_mono
abbrev hx:=@or_false
abbrev ky:=@Option.isSome_iff_exists
abbrev iu:=@List.cons_append
abbrev i5:=@List.foldl_append
abbrev i4:=@Int.toNat_natCast
abbrev lz:=@List.getElem?_append_right
abbrev km:=@List.perm_append_comm
abbrev ir:=@List.mem_filter
abbrev iq:=@List.nodup_cons
abbrev jW:=@List.Sublist.refl
abbrev js:=@List.take_add_one
abbrev kx:=@List.length_replicate
abbrev ip:=@Bool.and_false
abbrev kj:=@StrLaws.join_split
abbrev kf:=@PySem.W.mg_none_of
abbrev i0:=@Bool.true_and
abbrev kz:=@List.filterMap_cons
abbrev kq:=@Bool.not_eq_true'
abbrev kc:=@List.length_set
abbrev kb:=@List.foldl_cons
abbrev oP:=@List.getElem?_append_left
abbrev oN:=@List.mem_or_eq_of_mem_set
abbrev lA:=@List.Sublist.append
abbrev lp:=@List.map_eq_nil_iff
abbrev kv:=@List.ext_getElem?
abbrev i8:=@List.cons.inj
abbrev q1:=@PyProof.Rows.callWith_type1
abbrev ot:=@List.filter_eq_nil_iff
abbrev lj:=@wpAny_truthy_bool
abbrev lh:=@List.take_sublist
abbrev mv:=@beq_eq_false_iff_ne
abbrev ti:=@List.eq_nil_of_length_eq_zero
abbrev mu:=@List.length_drop
abbrev i3:=@beq_iff_eq
abbrev mn:=@List.drop_sublist
abbrev lb:=@List.range_succ
abbrev la:=@List.sum_append
abbrev og:=@PySem.W.hideAll_get
abbrev oe:=@PySem.mem_of_lookup
abbrev oa:=@List.flatMap_append
abbrev q0:=@PySem.F.plainAttrs_str
abbrev mi:=@Nat.lt_succ_self
abbrev mf:=@Str.append_assoc
abbrev n7:=@PySem.W.of_hideAll
abbrev hV:=@Ne.symm
abbrev oD:=@wpAny_Call_Name_kw
abbrev oC:=@Nat.lt_of_le_of_lt
abbrev rb:=@List.take_append_drop
abbrev oB:=@Bool.not_eq_false'
abbrev tI:=@List.sublist_append_right
abbrev mB:=@List.find?_cons
abbrev my:=@Bool.or_eq_true
abbrev lx:=@List.any_cons
abbrev tw:=@Int.eq_ofNat_of_zero_le
abbrev mx:=@List.nodup_nil
abbrev oA:=@Nat.le_add_right
abbrev tm:=@List.take_of_length_le
abbrev q8:=@List.mem_filterMap
abbrev q7:=@Nat.add_sub_cancel
abbrev oy:=@wpAny_passesOwn
abbrev ou:=@Bool.eq_iff_iff
abbrev xn:=@Array.getElem?_eq_some_iff
abbrev xl:=@List.exists_cons_of_ne_nil
abbrev q5:=@List.reverse_cons
abbrev q4:=@List.count_append
abbrev q3:=@List.flatten_cons
abbrev tj:=@List.mem_of_mem_take
abbrev xk:=@List.drop_eq_getElem_cons
abbrev lr:=@Nat.le_succ
abbrev q2:=@wpAny_field
abbrev oI:=@codeAny_mono
abbrev ID:=@PySem.F.args_tuple_add_2
abbrev xt:=@wpAny_comprehension_free
abbrev mI:=@F.called_set
abbrev rf:=@Nat.succ_le_succ
abbrev tJ:=@List.perm_iff_count
abbrev Pt:=@PyProof.Rows.slot_tuple_getitem
abbrev Iy:=@PySem.F.entry_tuple_add
abbrev xp:=@PySem.F.plainAttrs_list
abbrev wz:=@wpAny_getItem_str_slice
abbrev wu:=@PySem.StrLaws.found_one
abbrev wq:=@decide_eq_false_iff_not
abbrev qe:=@wpAny_holding
abbrev n3:=@List.all_cons
abbrev pE:=@PySem.W.kia_one
abbrev wg:=@List.getElem?_set_self
abbrev HU:=@PySem.F.slot_tuple_add
abbrev we:=@List.append_eq_nil_iff
abbrev wb:=@List.size_toArray
abbrev sv:=@Option.isSome_map
abbrev so:=@wpAny_loadPart_at
abbrev v8:=@Heap.get?_update_self
abbrev v3:=@List.getElem?_eq_none
abbrev vT:=@StrLaws.glued_eq_join
abbrev nZ:=@List.map_set
abbrev vI:=@StrLaws.strSub_toList
abbrev y5:=@List.dropLast_concat_getLast
abbrev pv:=@Bool.false_and
abbrev vy:=@PySem.W.hideAll_none
abbrev vx:=@Heap.get?_none_of_le
abbrev vw:=@List.getElem?_set_ne
abbrev me:=@typeIs_str
abbrev sk:=@List.getElem_mem
abbrev si:=@List.flatMap_nil
abbrev vu:=@Bool.or_eq_false_iff
abbrev qw:=@Nat.lt_irrefl
abbrev qr:=@wpAny_standAt
abbrev zr:=@PySem.F.excBase_ValueError
abbrev qo:=@List.sum_cons
abbrev zq:=@Array.length_toList
abbrev w8:=@List.length_reverse
abbrev zp:=@PySem.F.slot_dict_getitem
abbrev tf:=@List.filter_map
abbrev sT:=@List.cons.injEq
abbrev sx:=@Nat.min_eq_left
abbrev zi:=@Classical.byContradiction
abbrev qi:=@Nat.ne_of_gt
abbrev w7:=@PySem.W.callWith_K
abbrev w3:=@tupleKind_room_in1
abbrev ze:=@List.sublist_append_left
abbrev zd:=@PySem.F.slot_list_append
abbrev y8:=@PySem.F.type_list_append
abbrev w1:=@F.args_str_split_2
abbrev y6:=@List.find?_range_eq_some
abbrev n4:=@call_meets
abbrev z1:=@Nat.add_sub_cancel_left
abbrev zv:=@F.plain_set_update_loop
abbrev zt:=@Nat.toDigits_of_lt_base
abbrev xf:=@List.getElem?_set
abbrev xc:=@F.entry_str_split
abbrev xb:=@List.all_eq_false
abbrev xa:=@StrLaws.subAt_one
abbrev vr:=@List.pairwise_map
abbrev Key:=Sum Int Str
noncomputable def A0:Key->Value->Bool
 | .inl k,v=>Value.isInt k v
 | .inr x,v=>Value.isStrOf x v
def TC(w:World):Key->Int
 | .inl k=>hashInt k
 | .inr x=>hashStr w x
theorem d8:∀{k:Key} {v:Value},A0 k v=true->(∃i t,k=Sum.inl i/\v=Value.int i t)\/(∃x t,k=Sum.inr x/\v=Value.str x t)
 | .inl i,v,h=>by
  obtain⟨t,e⟩:=Value.isInt_shape h;exact .inl #[i,t,rfl,e]
 | .inr x,v,h=>by
  obtain⟨t,e⟩:=Value.isStrOf_shape h;exact .inr #[x,t,rfl,e]
def M0(i:Int)(t:Tok):A0 (.inl i) QoS=true:=by simp[A0,Value.isInt]
def M3(x:Str)(t:Tok):A0 QeS QoT=true:=by simp[A0,Value.isStrOf]
theorem acz(a b:Int):decide ((Sum.inl a:Key)=Sum.inl b)=(a==b):=by
 by_cases e:a=b
 .subst e;simp
 simp_all
def acA(a b:Str):decide ((Sum.inr a:Key)=Sum.inr b)=decide (a=b):=by simp
def acB(a:Int)(b:Str):decide ((Sum.inl a:Key)=Sum.inr b)=false:=fw (λq=>nomatch q)
def acC(a:Str)(b:Int):decide ((Sum.inr a:Key)=Sum.inl b)=false:=fw (λq=>nomatch q)
def fu(prog:Q1)(w:World):PySem.KeyKind prog w Key where
 is:=A0
 hash:=TC w
 inj:=λv a b d hb=>by
  obtain⟨i,t,rfl,rfl⟩|⟨x,t,rfl,rfl⟩:=d8 d
  .obtain⟨j,u,rfl,e⟩|⟨y,u,rfl,e⟩:=d8 hb
   .injection e with e1 _;rw[e1]
   .exact nomatch e
  .obtain⟨j,u,rfl,e⟩|⟨y,u,rfl,e⟩:=d8 hb
   .exact nomatch e
   .injection e with e1 _;rw[e1]
 byValue:=λk v h=>by
  obtain⟨i,t,rfl,rfl⟩|⟨x,t,rfl,rfl⟩:=d8 h<;>rfl
 pyHash:=λhv h=>by
  obtain⟨i,t,rfl,rfl⟩|⟨x,t,rfl,rfl⟩:=d8 hv
  .exact wpAny_pyHash_int h
  .exact wpAny_pyHash_str h
 eqBool:=λc hv h=>by
  obtain⟨i,t,rfl,rfl⟩|⟨x,t,rfl,rfl⟩:=d8 c
  .obtain⟨j,u,rfl,rfl⟩|⟨y,u,rfl,rfl⟩:=d8 hv
   .rw[acz]at h;exact wpAny_eqBool_int h
   .rw[acB]at h;exact SeqAt.EqAt.int_str i t y u _ _ _ _ h
  .obtain⟨j,u,rfl,rfl⟩|⟨y,u,rfl,rfl⟩:=d8 hv
   .rw[acC]at h;exact SeqAt.EqAt.str_int x t j u _ _ _ _ h
   .rw[acA]at h;exact wpAny_eqBool_str h
 «strs»:=λk x t v h=>by
  obtain⟨i,u,rfl,e⟩|⟨y,u,rfl,e⟩:=d8 h
  .exact nomatch e
  .injection e with e1 _;subst e1;cases v<;>rfl
def D5(prog:Q1)(w:World)(i:Int)(t:Tok):(fu prog w).is (.inl i) QoS=true:=M0 i t
def D6(prog:Q1)(w:World)(x:Str)(t:Tok):(fu prog w).is QeS QoT=true:=M3 x t
inductive V where
 | non|bl (b:Bool)|int (i:Int)|str (x:Str)|G7 (b:Array UInt8)|flt (b:UInt64)|ref (a:Addr)|ty (n:QaP)
 deriving DecidableEq
def RelV:V->Value->Prop
 | .non,u=>u=Value.none
 | .bl b,u=>u=Value.bool b
 | .int i,u=>∃t,u=Value.int i t
 | .str x, u => ∃ t, u = Value.str x t
 | .G7 b,u=>∃t,u=Value.bytes b t
 | .flt b,u=>∃t,u=Value.float b t
 | .ref a,u=>u=Value.ref a
 | .ty n,u=>u=Value.type n
abbrev _root_.BS:=List V
abbrev _root_.B0:=List Value
abbrev Vals:BS->B0->Prop:=Paired RelV
variable{xs:BS}{us:B0}
theorem Vals.length(r:Qpb):xs.length=us.length:=Paired.length r
theorem Vals.get:∀{xs:BS} {us:B0} {i:Nat} {x:V},Vals xs us->xs[i]? = some x->∃u,us[i]? = some u/\RelV x u
 | _,_,_,_,.nil,e=>by simp at e
 | _,_,0,_,.cons r _,e=>by simp_all
 | _,_,i+1,x,.cons _ t,e=>by
  obtain⟨u,h1,h2⟩:=Vals.get t (‹_›);exact#[u,‹_›,h2]
theorem Vals.set{x:V}{u:Value}(r:RelV x u):∀{xs:BS} {us:B0} (i:Nat),Vals xs us->Vals (xs.set i x) (us.set i u)
 | _,_,_,.nil=>.nil
 | _,_,0,.cons _ t=>.cons r t
 | _,_,i+1,.cons q t=>.cons q (Vals.set r i t)
theorem Vals.append:∀{xs ys:BS} {us ws:B0},Vals xs us->Vals ys ws->Vals (xs++ys) QjR
 | _,_,_,_,.nil,s=>s
 | _,_,_,_,.cons r t,s=>.cons r (Vals.append t s)
theorem Vals.take:∀{xs:BS} {us:B0} (n:Nat),Vals xs us->Vals (xs.take n) (us.take n)
 | _,_,0,_=>.nil
 | _,_,_+1,.nil=>.nil
 | _,_,n+1,.cons r t=>.cons r (Vals.take n t)
theorem Vals.drop:∀{xs:BS} {us:B0} (n:Nat),Vals xs us->Vals (xs.drop n) (us.drop n)
 | _,_,0,r=>r
 | _,_,_+1,.nil=>.nil
 | _,_,n+1,.cons _ t=>Vals.drop n t
abbrev _root_.Dx:=Option Value
def v7:Option V->Dx->Prop
 | some v,some u=>RelV v u
 | none,none=>True
 | _,_=>False
def KV{κ:Type}:List (κ×V)->List (κ×Value)->Prop:=Paired λ(p:κ×V) (q:κ×Value)=>p.1=q.1/\RelV p.2 q.2
noncomputable def kV:Key->V
 | .inl i=>.int i
 | .inr x=>.str x
abbrev _root_.EN:=List Key
abbrev _root_.B2:=List (EN×V)
abbrev _root_.CA:=List (Str×V)
abbrev _root_.Cl:=List (Key×V)
abbrev _root_.D2:=Array Value
inductive HO where
 | lst (xs:BS)
 | tup (xs:BS)
 | dK (aO:Cl)|dT (aO:B2) (ep:Nat)
 | set (S:QoI) (n:Nat)
 | ins (C dx:Addr) (fs:CA)
 | own (x:Addr)
 | xd (fs:CA)
 | met (f x:Addr)
 | m4 (lo hi:Int)
 | dJ (o:Obj) (u:HO)
 | Xj (ps:D2)
 | tabs (q:Str)
 | cod (q:Str)
 | ext (φ:Heap->Prop)
abbrev Hp:=Addr->Option HO
noncomputable def upd(H:Hp)(a:Addr)(o:HO):Hp:=λb=>if b=a then some o else H b
variable{H:Hp}{a:Addr}{o:HO}
theorem aM:upd H a o a=some o:=by unfold upd;simp_all
variable{b:Addr}
def ay(h:b≠a):upd H a o b=H b:=by unfold upd;rw[cq h]
def agi{u:HO}(h:H a=some o)(h':H b=some u)(d:o≠u):a≠b:=by
 intro e;subst e;rw[h]at h';exact d (fO h')
theorem bz(h:H a=some o)(h':H b=none):a≠b:=by
 intro e;simp_all
section
variable(P:Q1)(w:World)
def fJ(H:Hp)(h:Heap)(a:Addr):HO->Prop
 | .lst xs=>xs.length<=sizeLine/\∃(its:B0) (n:Nat),Vals xs its/\h.get? a=some {cls:=.type "list",data:=.seq its.toArray n}
 | .tup xs=>xs.length<=sizeLine/\∃its:B0,Vals xs its/\IsTup h a its.toArray
 | .dK aO=>aO.length<=sizeLine/\QbO=false/\∃vs,KV aO vs/\h.DictOf QcI a vs
 | .dT aO en=>aO.length<=sizeLine/\QbO=false/\∃xs:List QfC,
   Paired (λ(p:EN×V) (q:QfC)=>p.1=q.1/\H q.2.1=some QvB/\RelV p.2 q.2.2) aO xs ∧
   ∃o es ep,h.get? a=some o/\o.ExactDict/\o.data=.dict es ep/\es.toList=xs.map (entryOfKey Qmw)/\(xs.map (·.1)).Nodup/\ep=en
 | .set S n=>h.SetOf (intKind P w) a S n
 | .ins C dx fs=>H dx=some Qgk/\fs.length<=1000/\dx≠a/\h.get? a=some QnH ∧
   ∃mA,h.Ns1 dx mA/\(∀f,v7 QnP (mA f))/\PySem.Within mA (fs.map (·.1))
 | .own _=>∃o,h.get? a=some o
 | .xd fs=>∃mA,h.Ns1 a mA/\∀f,v7 QnP (mA f)
 | .m4 lo hi=>∃t u v,h.get? a=some {cls:=.type "range",data:=.fields (List.toArray [.int lo t,.int hi u,.int 1 v])}
 | .dJ o u=>h.get? a=some o/\fJ H h a u
 | .Xj ps=>h.get? a=some {cls:=.none,data:=.fields ps}
 | .tabs q=>∃ps:D2,h.get? a=some {cls:=.none,data:=.fields ps}/\TriplesOk ps.toList/\∀pos b,codeAmong pos ps.toList=some b->∃c,b=.ref c/\H c=some QjJ
 | .cod q=>∃o vs t,h.get? a=some o/\o.data=.fields vs/\vs[1]? = some (.str q t)
 | .met f x=>h.get? a=some (PySem.W.methodObj Qar Qdy)
 | .ext φ=>φ h/\(∃o,h.get? a=some o)/\∀h1 h2:Heap,φ h1->(∀o,h1.get? a=some o->h2.get? a=some o)->φ h2
def oz(H:Hp)(h:Heap):Prop:=∀a o,H a=some o->fJ P w H h a o
end
variable{P:Q1}{w:World}{H':Hp}{h h':Heap}
theorem fJ.lt(x:QnX):a<h.objs.size:=by
 cases o with
 | lst xs=>obtain⟨_,_,_,_,e⟩:=x;exact fA e
 | tup xs=>obtain⟨_,_,_,p⟩:=x;exact p.lt
 | dK aO=>obtain⟨_,_,_,_,o,_,_,e,_⟩:=x;exact fA e
 | dT aO ep=>obtain⟨_,_,_,_,o,_,_,e,_⟩:=x;exact fA e
 | set S n=>obtain⟨o,_,_,_,e,_⟩:=x;exact fA e
 | ins C dx fs=>obtain⟨_,_,_,e,_⟩:=x;exact fA e
 | own y=>obtain⟨_,e⟩:=x;exact fA e
 | xd fs=>obtain⟨_,⟨_,_,_,e,_⟩,_⟩:=x;exact fA e
 | m4 lo hi=>obtain⟨_,_,_,e⟩:=x;exact fA e
 | dJ b u=>obtain⟨e,_⟩:=x;exact fA e
 | Xj ps=>exact fA (x)
 | tabs q=>obtain⟨_,e,_⟩:=x;exact fA e
 | cod q=>obtain⟨_,_,_,e,_⟩:=x;exact fA e
 | met f y=>exact fA (x)
 | ext φ=>obtain⟨_,⟨_,e⟩,_⟩:=x;exact fA e
theorem Paired.FF{α β:Type}{F G:α->β->Prop}:∀{l₁:QR} {l₂:List β},Paired F l₁ l₂->(∀a b,F a b->G a b)->Paired G l₁ l₂
 | _,_,.nil,_=>.nil
 | _,_,.cons r t,f=>.cons (f _ _ r) (Paired.FF t f)
theorem fJ.rL(x:QnX)(k:∀b u,(b=a\/H b=some Qgk)->h.get? b=some u->h'.get? b=some u)
  (l:∀b,H b=some Qgk->H' b=some Qgk) (j:∀b xs,H b=some QaV->H' b=some QaV) (iA:∀b q,H b=some QjJ->H' b=some QjJ:=by intro _ _ q;exact q):fJ P w H' h' a o:=by
 induction o with
 | lst xs=>obtain⟨z,its,n,r,e⟩:=x;exact#[z,its,n,r,k _ _ Qay e]
 | tup xs=>obtain⟨z,its,r,g,e,c⟩:=x;exact#[z,its,r,g,k _ _ Qay e,c]
 | dK aO=>obtain⟨z,y,vs,r,g,es,ep,e,c⟩:=x;exact#[z,y,vs,r,g,es,ep,k _ _ Qay e,c]
 | dT aO ep=>
  obtain⟨z,y,xs,r,g,es,ep,e,c⟩:=x;exact#[z,y,xs,Paired.FF r λp q z=>#[z.1,j _ _ z.2.1,z.2.2],g,es,ep,k _ _ Qay e,c]
 | set S n=>obtain⟨g,es,ep,t,e,c⟩:=x;exact#[g,es,ep,t,k _ _ Qay e,c]
 | ins C dx fs=>
  obtain⟨d,z,ne,e,mA,⟨od,es,ep,e2,c⟩,r⟩:=x;exact#[l _ d,z,ne,k _ _ Qay e,mA,#[od,es,ep,k _ _ (.inr d) e2,c],r]
 | own y=>obtain⟨g,e⟩:=x;exact#[g,k _ _ Qay e]
 | xd fs=>obtain⟨mA,⟨od,es,ep,e,c⟩,r⟩:=x;exact#[mA,#[od,es,ep,k _ _ Qay e,c],r]
 | m4 lo hi=>obtain⟨t,u,v,e⟩:=x;exact#[t,u,v,k _ _ Qay e]
 | dJ g u i=>obtain⟨e,q⟩:=x;exact#[k _ _ Qay e,i q]
 | Xj ps=>
  have e:=x;exact k a _ Qay e
 | met f y=>
  have e:=x;exact k a _ Qay e
 | tabs q=>obtain⟨ps,e,tr,cs⟩:=x;exact#[ps,k _ _ Qay e,tr,λpos m z=>let ⟨c,e1,e2⟩:=cs pos m z;#[c,e1,iA _ _ e2]]
 | cod q=>obtain⟨g,vs,t,e,r⟩:=x;exact#[g,vs,t,k _ _ Qay e,r]
 | ext φ=>obtain⟨p,⟨o,e⟩,st⟩:=x;exact#[st _ _ p λo q=>k _ _ Qay q,#[o,k _ _ Qay e],st]
theorem oz.lt(x:Qbc)(e:H a=some o):a<h.objs.size:=(x a o e).lt
theorem oz.fresh(x:Qbc)(e:Qn6):H a=none:=by
 cases q:H a with
 | none=>rfl
 | some u=>exact absurd (ij (x.lt q) e) (qw _)
theorem oz.kept(x:Qbc)(k:∀b u,h.get? b=some u->h'.get? b=some u):oz P w H h':=λa o e=>
 (x a o e).rL (λb u _ q=>k b u q) QbA λ_ _ q=>q
theorem oz.laid(x:Qbc)(k:∀b u,h.get? b=some u->h'.get? b=some u)(hp:Qn6)(new:fJ P w Qa4 h' a o):oz P w Qa4 h':=λb u e=>by
 have hn:=x.fresh hp;by_cases hb:b=a
 .subst hb;rw[aM]at e;grind
 .rw[ay hb]at e;exact(x b u e).rL (λc v _ q=>k c v q) (λc q=>ay Qcf▸q) (λc xs q=>ay Qcf▸q) λc z q=>ay Qcf▸q
def Rd(H:Hp)(a:Addr)(u:HO):Prop:=H a=some u\/∃o,H a=some Qdz
theorem Rd.ok{u:HO}(r:Rd H a u)(x:Qbc):fJ P w H h a u:=by
 obtain r|⟨o,r⟩:=r
 .exact x a u r
 .obtain⟨_,q⟩:=x a _ r;exact q
def ui:Option HO->Prop
 | some (.lst _)=>True
 | some (.dK _)=>True
 | some (.dT _ _)=>True
 | some (.set _ _)=>True
 | some (.ins _ _ _)=>True
 | some (.ext _)=>True
 | some (.tabs _)=>True
 | _=>False
variable{x e:Addr}{o':HO}
theorem oz.write(ok:Qbc)(d:ui (H x))(he:Qpy)(k:∀b u,b≠e->h.get? b=some u->h'.get? b=some u)(f:∃u,h'.get? e=some u)
  (new:fJ P w (upd H x o') h' x o'):oz P w (upd H x o') h':=λb u q=>by
 have j:∀c y,H c=some (.own y)->c≠x:=λc y r z=>by subst z;rw[r]at d;exact d
 have i:∀c xs,H c=some QaV->c≠x:=λc xs r z=>by subst z;rw[r]at d;exact d
 have g:∀c q,H c=some QjJ->c≠x:=λc q r z=>by subst z;rw[r]at d;exact d
 by_cases hb:b=x
 .subst hb;rw[aM]at q;grind
 .rw[ay hb]at q;by_cases a:b=e
  .have q':H b=some Qf6:=by
    obtain z|z:=he
    .exact absurd (a.trans z) hb
    .rw[a];exact z
   rw[q]at q';cases q';obtain⟨v,hv⟩:=f;exact#[v,a▸hv ]
  .refine(ok b u q).rL (λc v l r=>k c v ?_ r) (λc r=>ay (j c b r)▸r) (λc xs r=>ay (i c xs r)▸r) λc z r=>ay (g c z r)▸r;grind
abbrev _root_.BY:=List Addr
structure Un(fs ex:BY)(H H':Hp)(h h':Heap):Prop where
 keep:∀b o,h.get? b=some o->H b=none->b∉fs->b∉ex->h'.get? b=some o
 slot:∀b o,h.get? b=some o->H b=none->b∈fs->b∉ex->∃sl,h'.get? b=some {o with slots:=sl}
 free:∀b o,h.get? b=some o->H b=none->b∉ex->H' b=none
 there:∀b o,h.get? b=some o->b∉ex->∃o',h'.get? b=some o'
 n6:∀b xs,H b=some QaV->H' b=some QaV
 dF:∀b o u,H b=some Qdz->H' b=some Qdz
 n8:∀b ps,H b=some (.Xj ps)->∃more,H' b=some Qnc
section
variable{fs ex:BY}{H1 H2:Hp}{h1 h2:Heap}
theorem Un.any(u:Qwx){a:Obj}(q:h.get? b=some a)(n:H b=none)(c:b∉ex):∃sl,h1.get? b=some {a with slots:=sl}:=by
 by_cases hb:b∈fs
 .exact u.slot b a q n hb c
 .exact#[ _,u.keep b a q n hb c]
theorem Un.trans(a:Qwx)(b:Un fs ex H1 H2 h1 h2):Un fs ex H H2 h h2 where
 keep:=λc d q n f e=>b.keep c d (a.keep c d q n f e) QmD f e
 slot:=λc d q n f e=>by
  obtain⟨sl,e1⟩:=a.slot c d q n f e;obtain⟨g,e2⟩:=b.slot c _ e1 QmD f e;exact#[g,e2]
 free:=λc d q n e=>by
  obtain⟨o',e1⟩:=a.there c d q e;exact b.free c o' e1 QmD e
 there:=λc d q e=>by
  obtain⟨o',e1⟩:=a.there c d q e;exact b.there c o' e1 e
 n6:=λc xs q=>b.n6 c xs (a.n6 c xs q)
 dF:=λc d xs q=>b.dF c d xs (a.dF c d xs q)
 n8:=λc ps q=>by
  obtain⟨j,e1⟩:=a.n8 c ps q;obtain⟨i,e2⟩:=b.n8 c _ e1;exact#[j++i,by simp_all ]
theorem Un.kept(k:∀b u,h.get? b=some u->h'.get? b=some u):Un fs ex H H h h':=
 #[λb a q _ _ _=>k b a q,λb a q _ _ _=>#[ _,k b a q],λ_ _ _ n _=>n,λb a q _=>#[a,k b a q],λ_ _ q=>q,λ_ _ _ q=>q,λ_ ps q=>#[#[],‹_› ]]
theorem Un.refl:Un fs ex H H h h:=Un.kept λ_ _ q=>q
theorem Un.laid(k:∀b u,h.get? b=some u->h'.get? b=some u)(hp:Qn6)(hn:H a=none):Un fs ex H Qa4 h h' where
 keep:=λb u q _ _ _=>k b u q
 slot:=λb u q _ _ _=>#[ _,k b u q]
 free:=λb u q n _=>ay (hG (ij (fA q) hp))▸n
 there:=λb u q _=>#[u,k b u q]
 n6:=λb xs q=>ay Qcf▸q
 dF:=λb u xs q=>ay Qcf▸q
 n8:=λb ps q=>#[#[],by rw[ay Qcf,q];simp]
theorem Un.write(d:ui (H x))(he:Qpy)(k:∀b u,b≠e->h.get? b=some u->h'.get? b=some u)(c:∃u,h'.get? e=some u):Un fs ex H Qox h h':=by
 have f:∀b,H b=none->b≠x:=λb n z=>by subst z;rw[n]at d;exact d
 have hb:∀b,H b=none->b≠e:=λb n z=>by simp_all
 have hm:∀b u,H b=some u->¬ ui (some u)->b≠x:=λb u q nm z=>by simp_all
 refine#[λb u q n _ _=>k b u (hb b n) q,λb u q n _ _=>#[ _,k b u (hb b n) q],λb u q n _=>ay (f b n)▸n,λb u q _=>?_,
  λb xs q=>ay QlX▸q,λb u xs q=>ay QlX▸q,λb ps q=>#[#[],by rw[ay QlX,q];simp]]
 by_cases a:b=e
 .subst a;exact c
 .exact#[u,k b u a q]
end
noncomputable def G5(h:Heap)(H:Hp):BY:=(List.range h.objs.size).filter λa=>(H a).isSome
def BP(h:Heap)(H:Hp):Heap:=hideAll h (G5 h H)
def M4(h:Heap)(H:Hp):(BP h H).objs.size=h.objs.size:=hideAll_size _ _
theorem QM{o:Obj}(e:h.get? b=some o)(n:H b=none):(BP h H).get? b=some o:=
 og _ e λhm=>by
  have q:=(ir.1 hm).2;simp_all
theorem XA{o:Obj}(e:(BP h H).get? b=some o):h.get? b=some o/\H b=none:=by
 have a:=n7 _ e;refine#[a,?_];cases q:H b with
 | none=>rfl
 | some x=>
  have hm:b∈G5 h H:=ir.2 #[g4.2 (fA a),by simp[q]];have z:(BP h H).get? b=none:=vy _ hm;simp_all
abbrev _root_.At:=List (Addr×Obj)
noncomputable def XC(g h:Heap)(L:Addr):At:=(List.range h.objs.size).filterMap λa=>if a=L\/(g.get? a).isSome=true then none else(h.get? a).map λo=>(a,o)
def rest(g h:Heap)(L d:Addr):At:=(XC g h L).filter λp=>decide (p.1≠d)
abbrev _root_.BN:=Str->Dx
structure Mod(K:Frag)(mg:BN)(base:Heap):Prop where
 pf:K.In base
 glob:base.Ns mainGlobals mg
 blt:∃mb,base.Ns builtinsNs mb/\∀x:Str,x≠"__name__"->mb x=bootBuiltins x
 nolimit:base.NoLimit
abbrev _root_.AT:=List Str
abbrev _root_.BB:=Value->Shared->Prop
abbrev _root_.Cn:=List Env
structure Cx where
 prog:Program
 w:World
 K:Frag
 mg:Str->Dx
 base:Heap
 A:Around
 N:AT
 ff:Shared
 j2:Hp
 env:Env
 outer:Cn
 stack:Cn
 ex:BY
 fn:Str->Bool
 calm:Bool
 pn:At
 xe:Value->Shared->Prop
noncomputable def nR(l:Cn):BY:=l.filterMap (·.frame)
abbrev Cx.fs(X:Cx):BY:=nR X.outer
def QN(sc:Scope)(x:Str):Prop:=sc.names.lookup x=some .local\/sc.names.lookup x=some .cell\/sc.names.lookup x=some .free
def Loc(sc:Scope)(x:Str):Prop:=sc.names.lookup x=some .local\/sc.names.lookup x=some .cell
def Look(env:Env)(h:Heap)(m:BN)(x:Str)(u:Value):Prop:=
 (env.kindOf x=some .local/\m x=some u)\/((env.kindOf x=some .cell\/env.kindOf x=some .free)/\∃c,env.cells.lookup x=some c/\h.IsCell c (some u))
structure Cx.Ok(X:Cx):Prop where
 mod:Mod X.K X.mg X.base
 kind:X.env.scope.kind=.function
 glob:X.env.globals=mainGlobals
 blt:X.env.builtins=builtinsNs
 above:X.ff.heap.objs.size<=X.env.locals
 inj:∀x y c,X.env.cells.lookup x=some c->X.env.cells.lookup y=some c->x=y
 has:∀x,(X.env.kindOf x=some .cell\/X.env.kindOf x=some .free)->∃c,X.env.cells.lookup x=some c
 nV:∀x c,X.fn x=true->X.env.cells.lookup x=some c->X.ff.heap.objs.size<=c
 hd:X.calm=true->X.A.handled=none
 frames:X.A.frames=some X.stack
 o9:X.stack=X.outer\/(X.stack=X.env::X.outer/\X.env.frame=some X.env.locals)
 vk:∀b∈X.ex,b≠X.env.locals/\∀x c,X.env.cells.lookup x=some c->c≠b
 bs:∀b o,X.base.get? b=some o->X.ff.heap.get? b=some o/\X.j2 b=none
 QO:X.base.objs.size<=X.ff.heap.objs.size
 G8:∀b o,X.base.get? b=some o->b∉X.ex
 M5:∀b∈X.ex,b∉X.fs
 sF:X.ff.heap.FunFrames X.base X.outer
 Xk:∀b∈X.fs,X.j2 b=none
structure Inv(X:Cx)(pins:At)(U:Qgy)(H:Hp)(s:Qr):Prop where
 ok:X.Ok
 os:s.os=X.ff.os
 bare:AllBare s.gens
 base:Un X.fs X.ex X.j2 H X.ff.heap s.heap
 loc:∃m,s.heap.Ns X.env.locals m/\∀(i:Nat) (x:Str) (v:V),X.N[i]? = some x->U[i]? = some QaU->QN X.env.scope x->∃u,RelV v u/\Look X.env s.heap m x u
 cell:∀x c,X.env.cells.lookup x=some c->∃v,s.heap.IsCell c v
 free:H X.env.locals=none
 kT:∀x c,X.env.cells.lookup x=some c->H c=none
 pin:∀p∈X.pn++pins,s.heap.get? p.1=some p.2/\H p.1=none/\p.1≠X.env.locals/\p.1∉X.fs/\∀v,p.2.data ≠ .cell v
 bZ:oz X.prog X.w H s.heap
 len:U.length=X.N.length
variable{X:Cx}{pins:At}{U:Qgy}{s:Qr}
theorem Cx.Ok.TB(ok:X.Ok){o:Obj}(e:X.base.get? b=some o):b∉X.fs:=λhb=>by
 have:=(ok.sF.mem hb).1;grind
theorem Inv.bs(I:QF):∀b o,X.base.get? b=some o->s.heap.get? b=some o/\H b=none:=λb o e=>
 #[I.base.keep b o (I.ok.bs b o e).1 (I.ok.bs b o e).2 (I.ok.TB e) Qxq,I.base.free b o (I.ok.bs b o e).1 (I.ok.bs b o e).2 Qxq]
theorem Inv.bk(I:QF):∀b o,X.base.get? b=some o->s.heap.get? b=some o:=λb o e=>(I.bs b o e).1
theorem Inv.mod(I:QF):Mod X.K X.mg X.base:=I.ok.mod
theorem Inv.nS(I:QF):X.K.In s.heap:=I.ok.mod.pf.keeps I.bk
theorem Inv.lt(I:QF):X.env.locals<s.heap.objs.size:=let ⟨_,hn,_⟩:=I.loc;hn.lt
theorem Inv.sz(I:QF):X.ff.heap.objs.size<=s.heap.objs.size:=fg I.ok.above (hS I.lt)
theorem Inv.Tx(I:QF)(h:Qwy):a∉X.fs:=λhb=>by
 obtain⟨_,o,b,_⟩:=I.ok.sF.mem hb;exact absurd (ij (fA b) (fg I.sz h)) (qw _)
theorem Inv.nT(I:QF):∀x c,X.env.cells.lookup x=some c->c≠X.env.locals:=λx c e z=>by
 obtain⟨v,o,b,hd⟩:=I.cell x c e;obtain⟨m,⟨o',es,ep,d,a,_⟩,_⟩:=I.loc;grind
theorem Inv.sF(I:QF):s.heap.FunFrames X.base X.outer:=by
 have all:∀(l:Cn),(∀b∈nR l,b∈X.fs)->X.ff.heap.FunFrames X.base l->s.heap.FunFrames X.base l:=by
  intro l
  induction l with
  | nil=>intro _ _;trivial
  | cons env r d=>
   intro c h;obtain⟨i,⟨L,o,hf,hn,g,hd⟩,f⟩:=h;have a:=c L (by unfold nR;rw[kz,hf];exact eB);obtain⟨sl,e⟩:=I.base.slot L o g (I.ok.Xk L a) a λz=>I.ok.M5 L z a;exact#[i,#[L,_,hf,hn,e,hd],d (λb hb=>c b (by unfold nR;rw[kz,hf];exact eD _ hb)) f]
 exact all _ (λ_ hb=>hb) I.ok.sF
theorem Inv.stack(I:QF):s.heap.FunFrames X.base X.stack:=by
 obtain e|⟨e,hf⟩:=I.ok.o9
 .rw[e];exact I.sF
 .rw[e];obtain⟨m,hn,_⟩:=I.loc;refine .cons (by rw[I.ok.kind];decide) hf hn ?_ I.sF;exact vx (fg I.ok.QO I.ok.above)
theorem Inv.xX(I:QF):∀b∈nR X.stack,b∈X.env.locals::X.fs:=λb hb=>by
 obtain e|⟨e,hf⟩:=I.ok.o9
 .rw[e]at hb;exact eD _ hb
 .rw[e]at hb;unfold nR at hb;rw[kz,hf]at hb;exact hb
theorem Inv.sG(I:QF):∀b∈nR X.stack,H b=none:=λb hb=>by
 obtain e|hb:=ew.1 (I.xX b hb)
 .rw[e];exact I.free
 .obtain⟨_,o,a,_⟩:=I.ok.sF.mem hb;exact I.base.free b o a (I.ok.Xk b hb) λz=>I.ok.M5 b z hb
variable{t':Nat}
theorem Inv.step{g':QnQ}{d':Drawn}{ch:BY}(I:QF)
  (t:∀b∈ch,Qhn/\b≠X.env.locals/\(∀x c,X.env.cells.lookup x=some c->c≠b)/\∀p∈X.pn++pins,p.1≠b)
  (keep:∀b o,b≠X.env.locals->b∉X.fs->b∉ch->s.heap.get? b=some o->H b=none->h'.get? b=some o)
  (slot:∀b o,b≠X.env.locals->b∈X.fs->b∉ch->s.heap.get? b=some o->H b=none->∃sl,h'.get? b=some {o with slots:=sl}) (free:∀b o,b∉ch->s.heap.get? b=some o->H b=none->H' b=none)
  (there:∀b o,b∉ch->s.heap.get? b=some o->∃o',h'.get? b=some o')
  (n6:∀b xs,H b=some QaV->H' b=some QaV) (dF:∀b o u,H b=some Qdz->H' b=some Qdz) (n8:∀b ps,H b=some (.Xj ps)->∃more,H' b=some Qnc)
  (ns:∀m,s.heap.Ns X.env.locals m->h'.Ns X.env.locals m) (bZ:QmE) (E:AllBare g') :
  Inv X pins U H' {s with heap:=h',gens:=g',drawn:=d',toks:=t'}:=by
 have j:∀b o,X.ff.heap.get? b=some o->b≠X.env.locals:=λb o e=>hG Qqg;have g:∀b o,X.ff.heap.get? b=some o->b∉X.ex->b∉ch:=λb o e a hb=>by
  rcases(t b hb).1 with z|z
  .exact a z
  .exact absurd (ij (fA e) z) (qw _)
 have cellK:∀x c,X.env.cells.lookup x=some c->∀v,s.heap.IsCell c v->h'.IsCell c v:=λx c e v ⟨o,h,hd⟩=>by
  have f:c∉ch:=λz=>(t c z).2.2.1 x c e rfl;by_cases A:c∈X.fs
  .obtain⟨sl,q⟩:=slot c o (I.nT x c e) A f h Qoe;exact#[_,q,hd]
  .exact#[o,keep c o (I.nT x c e) A f h Qoe,hd]
 refine#[I.ok,I.os,E,#[λb o e n hb a=>?_,λb o e n hb a=>?_,λb o e n a=>?_,λb o e a=>?_,λb xs e=>n6 b xs (I.base.n6 b xs e),λb o xs e=>dF b o xs (I.base.dF b o xs e),λb ps e=>?_],?_,λx c e=>?_,?_,λx c e=>?_,λp hp=>?_,bZ,I.len]
 .exact keep b o (j b o e) hb Qjv (I.base.keep b o e n hb a) QlH
 .obtain⟨sl,e1⟩:=I.base.slot b o e n hb a;obtain⟨y,e2⟩:=slot b _ (j b o e) hb Qjv e1 QlH;exact#[y,e2]
 .obtain⟨o',e1⟩:=I.base.there b o e a;exact free b o' Qjv e1 QlH
 .obtain⟨o',e1⟩:=I.base.there b o e a;exact there b o' Qjv e1
 .obtain⟨C,e1⟩:=I.base.n8 b ps e;obtain⟨B,e2⟩:=n8 b _ e1;exact#[C++B,by rw[e2,Array.append_assoc]]
 .obtain⟨m,hn,D⟩:=I.loc;refine#[m,ns m hn,λi x v e1 e2 e3=>?_];obtain⟨u,r,l⟩:=D i x v e1 e2 e3;refine#[u,r,?_];obtain l|⟨k,c,e,z⟩:=l
  .exact .inl l
  .exact .inr #[k,c,e,cellK x c e _ z]
 .obtain⟨v,z⟩:=I.cell x c e;exact#[v,cellK x c e v z]
 .obtain⟨m,⟨o,_,_,h,_⟩,_⟩:=I.loc;exact free _ o (λz=>(t _ z).2.1 rfl) h I.free
 .obtain⟨v,o,h,hd⟩:=I.cell x c e;exact free c o (λz=>(t c z).2.2.1 x c e rfl) h Qoe
 .obtain⟨e,n,ne,nf,d⟩:=I.pin p hp;have f:p.1∉ch:=λz=>(t p.1 z).2.2.2 p hp rfl;exact#[keep p.1 p.2 ne nf f e n,free p.1 p.2 f e n,ne,nf,d]
theorem Inv.un(I:QF)(u:Un X.fs [] H H' s.heap h')(bZ:QmE):Inv X pins U H' {s with heap:=h',toks:=t'}:=by
 obtain⟨m,⟨o,es,ep,d,r⟩,_⟩:=id I.loc;obtain⟨sl,h⟩:=u.any d I.free W2;exact I.step (ch:=[]) (λ_ z=>nomatch z) (λb o _ hb _ e n=>u.keep b o e n hb W2) (λb o _ hb _ e n=>u.slot b o e n hb W2) (λb o _ e n=>u.free b o e n W2) (λb o _ e=>u.there b o e W2) u.n6 u.dF u.n8 (λi hm=>by
  obtain⟨o',a,c,f,g⟩:=hm;rw[d]at f;cases f;exact#[_,a,c,h,g]) bZ I.bare
theorem Inv.call{g':QnQ}{d':Drawn}{ch:BY}(I:QF)(u:Un QhN ch H H' s.heap h')(bZ:QmE)(l:AllBare g')
  (i:∀b∈ch,Qhn/\b≠X.env.locals/\(∀x c,X.env.cells.lookup x=some c->c≠b)/\∀p∈X.pn++pins,p.1≠b) :
  Inv X pins U H' {s with heap:=h',gens:=g',drawn:=d',toks:=t'}:=by
 obtain⟨m,⟨o,es,ep,h,r⟩,_⟩:=id I.loc;obtain⟨sl,d⟩:=u.any h I.free λz=>(i _ z).2.1 rfl;exact I.step i (λb o d hb a e n=>u.keep b o e n (λz=>(ew.1 (I.xX b z)).elim d hb) a) (λb o _ _ a e n=>u.any e n a) (λb o a e n=>u.free b o e n a) (λb o a e=>u.there b o e a) u.n6 u.dF u.n8 (λq hm=>by
  obtain⟨o',f,g,j,k⟩:=hm;rw[h]at j;cases j;exact#[_,f,g,d,k]) bZ l
theorem Inv.turned{it:Addr}(I:QF)(k:∀b o,b≠it->s.heap.get? b=some o->h'.get? b=some o)(hn:H it=none)(f:it≠X.env.locals)
  (h1:it∈X.ex\/X.ff.heap.objs.size<=it) (h2:∀x c,X.env.cells.lookup x=some c->c≠it) (h:∀p∈X.pn++pins,p.1≠it):Inv X pins U H {s with heap:=h',toks:=t'}:=by
 have d:∀b u,H b=some u->b≠it:=λb u e z=>by grind
 refine I.step (ch:=[it]) (λb hb=>?_) (λb o _ _ a e _=>k b o (λz=>a (by simp[z])) e) (λb o _ _ a e _=>#[ _,k b o (λz=>a (by simp[z])) e]) Qum
  (λb o a e=>#[o,k b o (λz=>a (by simp[z])) e]) Qu2 QuI (λb ps e=>#[#[],‹_› ]) (λm hm=>?_) (λb u e=>?_) I.bare
 .have e:=by simpa using hb
  subst e;exact#[h1,f,h2,h]
 .obtain⟨o,es,ep,g,r⟩:=hm;exact#[o,es,ep,k _ o (hV f) g,r]
 .refine(I.bZ b u e).rL (λc v a q=>k c v ?_ q) QbA λ_ _ q=>q;obtain z|z:=a
  .rw[z];exact d b u e
  .exact d c _ z
theorem Inv.tok(I:QF)(t:Nat):Inv X pins U H {s with toks:=t}:=I.un Un.refl I.bZ
theorem Inv.kept(I:QF)(k:∀b u,s.heap.get? b=some u->h'.get? b=some u):Inv X pins U H {s with heap:=h',toks:=t'}:=I.un (Un.kept k) (I.bZ.kept k)
theorem Inv.laid(I:QF)(k:∀b u,s.heap.get? b=some u->h'.get? b=some u)(hp:Qwy)(new:fJ X.prog X.w Qa4 h' a o) :
  Inv X pins U Qa4 {s with heap:=h',toks:=t'}:=I.un (Un.laid k hp (I.bZ.fresh hp)) (I.bZ.laid k hp new)
theorem Inv.write(I:QF)(c:ui (H x))(he:Qpy)(k:∀b u,b≠e->s.heap.get? b=some u->h'.get? b=some u)(a:∃u,h'.get? e=some u)
  (new:fJ X.prog X.w Qox h' x o):Inv X pins U Qox {s with heap:=h',toks:=t'}:=I.un (Un.write c he k a) (I.bZ.write c he k a new)
theorem Inv.wX{a:At}(I:QF)(h:∀p∈a,s.heap.get? p.1=some p.2/\H p.1=none/\p.1≠X.env.locals/\p.1∉X.fs/\∀v,p.2.data ≠ .cell v):Inv X a U H s:=
 #[I.ok,I.os,I.bare,I.base,I.loc,I.cell,I.free,I.kT,λp hp=>(eC.1 hp).elim (λz=>I.pin p (hj _ z)) (h p),I.bZ,I.len]
variable{i:Nat}
def D7{N:AT}(c:N.Nodup){j:Nat}{x:Str}(a:N[i]? = some x)(b:N[j]? = some x):i=j:=by
 obtain⟨h1,e1⟩:=hR.1 a;obtain⟨h2,e2⟩:=hR.1 b;exact(List.getElem_inj c).1 (e1.trans e2.symm)
variable{M:Model}{A:Qat}{E:BB}{v:V}{u:Value}{Q:Qgz}
abbrev _root_.AB(X:Cx)(p:Pos)(e:Expr):Prop:=((backTo p (starEach [e] X.env)).all QiX&&(backToKw p Qh3).all Qh7&&decide ([e].length+([]:List Keyword).length+Qhe<30))=true
abbrev _root_.CC:=List Expr
abbrev _root_.AC(X:Cx)(e:Expr)(es:CC):Prop:=starEach Qan X.env=(false,eval e X.env)::starEach es X.env
abbrev _root_.AD(x:Str):Prop:=QhY=false
abbrev _root_.AE(x:Str):Prop:=Qsz=false
abbrev _root_.AL(X:Cx)(p:Pos)(es:CC):Prop:=(backTo p Qli).any (·.1)=false
abbrev _root_.AM(X:Cx)(y:Str):Prop:=X.fn y=true\/X.env.scope.names.lookup y=some .local
abbrev _root_.AN(X:Cx)(e:Expr):Prop:=∀x,foldedSetIterable e X.env x=pure x
abbrev _root_.AR(X:Cx)(e d:Expr):Prop:=starEach [e,d] X.env=[(false,eval e X.env),(false,eval d X.env)]
abbrev _root_.AS(X:Cx)(e:Expr)(f:Str):Prop:=attributeBase e f X.env QfL=eval e X.env
def M6{x:Str}(I:QF)(Z:Qbd)(hi:X.N[i]? = some x)(l:QdO)(r:Qe3)
  (h:∀s',Inv X pins Qen H s'->(∃a,Heap.SameBut a s.heap s'.heap/\(a=X.env.locals\/X.env.cells.lookup x=some a))->Q () s') (hf:QdP:=by first|exact .inl rfl|exact .inr rfl|assumption):wpAny M A Qun Q E s:=by
 obtain⟨m,hn,Y⟩:=id I.loc;have W:(X.env.scope.kind == .class || (X.env.scope.kind == .module&&X.env.locals != X.env.globals))=false:=by rw[I.ok.kind];rfl
 have B:i<U.length:=by rw[I.len];exact(hR.1 hi).1
 have nT:=I.nT;have tracked:∀{a:Addr} {h':Heap},(∃o,s.heap.get? a=some o/\H a=none)->Heap.SameBut a s.heap h'->oz X.prog X.w H h':=λ{a h'} ha f b ob e=>by
  obtain⟨_,_,K⟩:=ha;refine(I.bZ b ob e).rL (λc L g q=>(f.2 c ?_).trans q) QbA λ_ _ q=>q;rintro rfl;obtain rfl|g:=g
  .rw[K]at e;cases e
  .rw[K]at g;cases g
 obtain t|t:=l
 .refine wpAny_storeName_local t hn (λh' T f=>?_) W;obtain⟨oL,_,_,S,_⟩:=id hn;refine h _ #[I.ok,I.os,I.bare,#[λb o e n hb l=>?_,λb o e n hb l=>?_,I.base.free,λb o e l=>?_,I.base.n6,I.base.dF,I.base.n8],#[_,T,λj y v' e1 e2 e3=>?_],λy c e=>?_,I.free,I.kT,λp hp=>?_,tracked #[oL,S,I.free] f,by simpa using I.len] #[_,f,.inl rfl]
  .exact(f.2 b Qop).trans QsT
  .obtain⟨sl,e1⟩:=I.base.slot b o e n hb l;exact#[sl,(f.2 b Qop).trans e1]
  .obtain⟨o',e1⟩:=I.base.there b o e l;exact#[o',(f.2 b Qop).trans e1]
  .by_cases C:j=i
   .subst C;rw[hi]at e1;cases e1;rw[wg B]at e2;cases e2;exact#[u,r,.inl #[t,W2]]
   .rw[vw (hV C)]at e2;obtain⟨P,R,q⟩:=Y j y v' e1 e2 e3;refine#[P,R,?_];obtain⟨k,e⟩|⟨k,c,e,z⟩:=q
    .refine .inl #[k,?_];have:y≠x:=λe=>C (D7 Z e1 (e▸hi));simp[this,e]
    .exact .inr #[k,c,e,z.sameBut f (nT y c e)]
  .obtain⟨L,z⟩:=I.cell y c e;exact#[L,z.sameBut f (nT y c e)]
  .obtain⟨e,n,ne,nf,d⟩:=I.pin p hp;exact#[(f.2 p.1 ne).trans e,n,ne,nf,d]
 .have D:X.fn x=true:=by
   obtain z|z:=hf
   .exact z
   .rw[z]at t;cases t
  obtain⟨c,g⟩:=I.ok.has x (.inl t);obtain⟨L,z⟩:=I.cell x c g;refine wpAny_storeName_cell I.ok.kind t g z (λh' J f=>?_);obtain⟨oc,F,V⟩:=id z;refine h {s with heap:=h'} #[I.ok,I.os,I.bare,#[λb o e n hb l=>?_,λb o e n hb l=>?_,I.base.free,λb o e l=>?_,I.base.n6,I.base.dF,I.base.n8],#[m,hn.sameBut f (Ne.symm (nT x c g)),λj y v' e1 e2 e3=>?_],λy O e=>?_,I.free,I.kT,λp hp=>?_,tracked #[oc,F,I.kT x c g] f,by simpa using I.len] #[c,f,.inr g]
  .exact(f.2 b QkT).trans QsT
  .obtain⟨sl,e1⟩:=I.base.slot b o e n hb l;exact#[sl,(f.2 b QkT).trans e1]
  .obtain⟨o',e1⟩:=I.base.there b o e l;exact#[o',(f.2 b QkT).trans e1]
  .by_cases C:j=i
   .subst C;rw[hi]at e1;cases e1;rw[wg B]at e2;cases e2;exact#[u,r,.inr #[.inl t,c,g,J]]
   .rw[vw (hV C)]at e2;obtain⟨P,R,q⟩:=Y j y v' e1 e2 e3;refine#[P,R,?_];obtain q|⟨k,O,e,z'⟩:=q
    .exact .inl q
    .refine .inr #[k,O,e,z'.sameBut f ?_];rintro rfl;exact C (D7 Z e1 (I.ok.inj _ _ _ e g▸hi))
  .by_cases G:O=c
   .subst G;exact#[_,J]
   .obtain⟨w2,z2⟩:=I.cell y O e;exact#[w2,z2.sameBut f G]
  .obtain⟨e,n,ne,nf,d⟩:=I.pin p hp;refine#[(f.2 p.1 ?_).trans e,n,ne,nf,d];intro q;rw[q,F]at e;have q':oc=p.2:=fO e;exact d L (by rw[<- q'];exact V)
def xY{x:Str}(I:QF)(b:Qbd)(hi:X.N[i]? = some x)(a:QdO)(r:Qe3)
  (h:∀s',Inv X pins Qen H s'->Q () s') (hf:QdP:=by first|exact .inl rfl|exact .inr rfl|assumption):wpAny M A Qun Q E s:=
 M6 I b hi a r (λs' c _=>h s' c) hf
theorem Inv.Me{s':Qr}{ch:BY}(I:QF)(a:s'.os=s.os)(u:Un QhN ch H H' s.heap s'.heap)(bZ:oz X.prog X.w H' s'.heap)(d:AllBare s'.gens)
  (f:∀b∈ch,Qhn/\b≠X.env.locals/\(∀x c,X.env.cells.lookup x=some c->c≠b)/\∀p∈X.pn++pins,p.1≠b):Inv X pins U H' s':=by
 obtain⟨h',g',d',t',o'⟩:=s';have e:=a;subst e;exact I.call u bZ d f
abbrev _root_.Bi:=Option Addr
abbrev XK:=Value->Bi->Hp->Prop
abbrev St:=List (Option V)
abbrev VK:=V->Hp->Prop
abbrev TE:=St->Hp->VK->Prop
abbrev _root_.ES:=Bool->Hp->Prop
abbrev TT:=St->Hp->ES->Prop
abbrev _root_.EO:=BS->Hp->Prop
abbrev TA:=St->Hp->EO->Prop
structure Ends where
 nx:St->Hp->Prop
 rt:VK
 bk:St->Hp->Prop:=λ_ _=>False
 ct:St->Hp->Prop:=λ_ _=>False
abbrev TS:=Ends->St->Hp->Prop
def EP(X:Cx)(pins:At)(U:St)(Q:VK)(u:Value)(s':Qr):Prop:=∃v H',Inv X pins U H' s'/\RelV v u/\Q v H'
def TP(X:Cx)(pins:At)(U:St)(Q:ES)(b:Bool)(s':Qr):Prop:=∃H',Inv X pins U H' s'/\Q b H'
def AP(X:Cx)(pins:At)(U:St)(Q:EO)(us:B0)(s':Qr):Prop:=∃vs H',Inv X pins U H' s'/\Vals vs us/\Q vs H'
def SP(X:Cx)(pins:At)(D:Ends)(f:Flow)(s':Qr):Prop:=
 match f with
 | .next=>∃U' H',Inv X pins U' H' s'/\D.nx U' H'
 | .brk=>∃U' H',Inv X pins U' H' s'/\D.bk U' H'
 | .cont=>∃U' H',Inv X pins U' H' s'/\D.ct U' H'
 | .ret u=>∃v U' H',Inv X pins U' H' s'/\RelV v u/\D.rt v H'
def PE(X:Cx)(e:Expr)(t:TE):Prop:=
 ∀(pins:At) (s:Qr) (U:St) (H:Hp) (Q:VK),Inv X pins U H s->t U H Q->wpAny Qy X.A QfL Qa8 X.xe s
def PT(X:Cx)(e:Expr)(t:TT):Prop:=
 ∀(pins:At) (s:Qr) (U:St) (H:Hp) (Q:ES),Inv X pins U H s->t U H Q->wpAny Qy X.A QtP Qer X.xe s
def PW(X:Cx)(e:Expr)(t:TT):Prop:=
 ∀(whole:Sem Value) (pins:At) (s:Qr) (U:St) (H:Hp) (Q:ES),Inv X pins U H s->t U H Q->wpAny Qy X.A Qt3 Qer X.xe s
def PA(X:Cx)(es:CC)(t:TA):Prop:=
 ∀(pos:Pos) (pins:At) (s:Qr) (U:St) (H:Hp) (Q:EO),Inv X pins U H s->t U H Q->wpAny Qy X.A Qsj Qxr X.xe s
def PS(X:Cx)(st:Stmt)(t:TS):Prop:=
 ∀(pins:At) (s:Qr) (U:St) (H:Hp) (D:Ends),Inv X pins U H s->t D U H->wpAny Qy X.A Qxs Qi8 X.xe s
abbrev _root_.CI:=List Stmt
def Kz(X:Cx)(st:CI)(t:TS):Prop:=
 ∀(pins:At) (s:Qr) (U:St) (H:Hp) (D:Ends),Inv X pins U H s->t D U H->wpAny Qy X.A Qnd Qi8 X.xe s
noncomputable def cS{α:Type}{t:Sem α}{Q b:Qu3}(h:wpAny M A t Q E s)(c:∀a s,Q a s->b a s):wpAny M A t b E s:=hJ h c λ_ _ x=>x
section
def Tu(i:Nat):TE:=λU H Q=>∃v,U[i]? = some QaU/\Q v H
def tC(v:V):TE:=λ_ H Q=>Q v H
def iT{x:Str}{pos:Pos}(g:X.N[i]? = some x)(hv:Qnt)(hd:AD x:=by decide)(iA:AE x:=by decide):PE X QaA (Tu i):=by
 intro pins s U H Q I h;obtain⟨v,e,h⟩:=h;obtain⟨m,hn,f⟩:=I.loc;obtain⟨u,r,l⟩:=f i x v g e hv;have fin:EP X pins U Q u s:=#[v,H,I,r,h];obtain⟨a,hm⟩|⟨a,c,d,b⟩:=l
 .exact wpAny_Name (wpAny_loadName_local I.ok.kind a hn hm fin) hd
 .obtain a|a:=a
  .exact wpAny_Name (wpAny_loadName_cell I.ok.kind a d b fin) hd
  .exact wpAny_Name (wpAny_loadName_free I.ok.kind a d b fin iA) hd
noncomputable def acH{i j pos}:PE X QlC (tC Qa5):=λ_ _ _ H _ I h=>wpAny_Constant_int #[.int i,H,I.tok _,#[_,rfl],h]
def agn{b j pos}:PE X (.Constant (.bool b) j pos) (tC QdJ):=λ_ _ _ H _ I h=>Constant_bool #[.bl b,H,I,rfl,h]
def acI{j pos}:PE X QtQ (tC .non):=λ_ _ _ H _ I h=>Constant_none #[.non,H,I,rfl,h]
noncomputable def acJ{x j pos}:PE X QlI (tC Qax):=λ_ _ _ H _ I h=>Calls.Constant_str #[.str x,H,I.tok _,#[_,rfl],h]
def Gl(X:Cx)(x:Str):Prop:=X.env.kindOf x=some .globalImplicit
def iB{U:St}{x:Str}{pos:Pos}{Q:BB}(I:QF)(a:Qad)(hm:X.mg x=some u)(h:Q u s)
  (hd:AD x:=by decide):wpAny Qy X.A QvC Q E s:=
 Calls.Name_function_global I.ok.kind a (Calls.loadGlobal_global (I.ok.glob▸I.mod.glob.keeps I.bk) hm h) hd
def oE{U:St}{x:Str}{pos:Pos}{Q:BB}(I:QF)(a:Qad)(hm:Qj4)(hv:Qxt)(h:Q u s)
  (hn:QiB:=by decide) (hd:AD x:=by decide):wpAny Qy X.A QvC Q E s:=by
 obtain⟨mb,h1,h2⟩:=I.mod.blt;exact Calls.Name_function_global I.ok.kind a (Calls.loadGlobal_builtin (I.ok.glob▸I.mod.glob.keeps I.bk) hm (I.ok.blt▸h1.keeps I.bk) ((h2 x hn).trans hv) h) hd
def BQ{x:Str}{pos:Pos}(a:Qad)(hm:X.mg x=some u)(r:Qe3)(hd:AD x:=by decide):PE X QaA (tC v):=
 λ_ _ _ H _ I h=>iB I a hm #[v,H,I,r,h] hd
def XD{x:Str}{pos:Pos}(a:Qad)(hm:Qj4)(hv:Qxt)(r:Qe3)(hn:QiB:=by decide)(hd:AD x:=by decide):PE X QaA (tC v):=
 λ_ _ _ H _ I h=>oE I a hm hv #[v,H,I,r,h] hn hd
variable{a b:Expr}{ta tb:TE}{pos:Pos}
def PC(X:Cx)(op:CmpOp)(a b:Expr)(t:TE):Prop:=
 ∀(pins:At) (s:Qr) (U:St) (H:Hp) (Q:VK),Inv X pins U H s->t U H Q →
  wpAny Qy X.A (eval a X.env) (λv d=>wpAny Qy X.A (eval b X.env) (λu c=>wpAny Qy X.A (compareOp op v u) Qa8 X.xe c) X.xe d) X.xe s
theorem D8(b:Expr){op:CmpOp}(h:op ≠ .In)(h2:op ≠ .NotIn):behindInMarks op b=false:=by
 have e1:(op==CmpOp.In)=false:=by grind
 have e2:Qv8=false:=by grind
 cases b<;>simp[behindInMarks,e1,e2]
def Ts(ta:TE):TE:=λU H Q=>ta U H λx H1=>Q (.bl (decide (x=.non))) H1
theorem RelV.QS{x:V}{v:Value}(r:Qj5):(v==Value.none)=decide (x=.non):=by
 cases x with
 | non=>cases r;rfl
 | bl _=>cases r;rfl
 | int _=>obtain⟨t,rfl⟩:=r;rfl
 | str _=>obtain⟨t,rfl⟩:=r;rfl
 | G7 _=>obtain⟨t,rfl⟩:=r;rfl
 | flt _=>obtain⟨t,rfl⟩:=r;rfl
 | ref _=>cases r;rfl
 | ty _=>cases r;rfl
def G9{j pos'}(d:Qbk):PC X .Is a (.Constant .none j pos') (Ts ta):=by
 intro pins s U H Q I h;refine cS QuJ λv s1 zz=>?_;obtain⟨x,H1,e,b,c⟩:=zz;exact Constant_none (is_none_gen #[.bl _,H1,e,by rw[b.QS];rfl,c])
def tB(t:TE):TT:=λU H Q=>t U H λx H1=>∃c,x=.bl c/\Q c H1
def QT{op:CmpOp}{t:TE}(h:PC X op a b t)(h1:QhZ:=by first|exact D8 _ Wp Wp|rfl):PE X QhO t:=λpins s U H Q I hw=>wpAny_Compare1 Quo h1
def BR{op:CmpOp}{t:TE}(h:PC X op a b t)(h1:QhZ:=by first|exact D8 _ Wp Wp|rfl):PT X QhO (tB t):=by
 intro pins s U H Q I hw;refine wpAny_isTrue_Compare1 (cS QlY λv s1 h1=>cS h1 λu s2 h2=>cS h2 λc s3 zz=>?_) h1;obtain⟨x,H1,g,e,f⟩:=zz;obtain⟨d,rfl,q⟩:=f;cases e;exact lj #[H1,g,q]
def acK{e:Expr}{t:TE}(h:PE X e t)(he:∀whole,isTrue e X.env whole=(do let v ← whole;standAt e.pos;holding [v] Qf8):=by intro _;rfl):PT X e (tB t):=by
 intro pins s U H Q I hw;refine isTrue_plain (cS QlY λv s1 zz=>?_) (he _);obtain⟨x,H1,c,a,b⟩:=zz;obtain⟨d,rfl,q⟩:=b;cases a;exact lj #[H1,c,q]
variable{tA tB':TT}{rest:CC}
noncomputable def To(t u:TT):TT:=λU H Q=>t U H λc H1=>if c=true then u U H1 Q else Q false H1
noncomputable def OM(t u:TT):TT:=λU H Q=>t U H λc H1=>if c=true then Q true H1 else u U H1 Q
def Tn(t:TT):TT:=λU H Q=>t U H λc H1=>Q (!c) H1
theorem XF(b:QgA):PW X (.BoolOp .And [a] pos) tA:=by
 intro d pins s U H Q I h;refine isTrue_and (cS QuK λc s1 e=>?_);cases c with
 | true=>exact isTrue_and_nil e
 | false=>exact e
theorem acL(b:QgA):PW X (.BoolOp .Or [a] pos) tA:=by
 intro d pins s U H Q I h;refine isTrue_or (cS QuK λc s1 e=>?_);cases c with
 | false=>exact isTrue_or_nil e
 | true=>exact e
theorem acM(g:QgA)(hb:PW X QsA tB'):PW X Qx0 (To tA tB'):=by
 intro f pins s U H Q I h;refine isTrue_and (cS Qc6 λc s1 zz=>?_);obtain⟨H1,e,d⟩:=zz;cases c with
 | true=>exact hb f pins s1 U H1 Q e d
 | false=>exact#[H1,e,d]
theorem ago(g:QgA)(hb:PW X QsU tB'):PW X Qx2 (OM tA tB'):=by
 intro f pins s U H Q I h;refine isTrue_or (cS Qc6 λc s1 zz=>?_);obtain⟨H1,e,d⟩:=zz;cases c with
 | true=>exact#[H1,e,d]
 | false=>exact hb f pins s1 U H1 Q e d
def acN(b:QgA):PT X (.UnaryOp .Not a pos) (Tn tA):=λpins s U H Q I h=>isTrue_not (b pins s U H _ I h)
noncomputable def agp(ta tb:TE):TE:=λU H Q=>ta U H λx H1=>∃c,x=.bl c/\if c=true then tb U H1 Q else Q QeD H1
noncomputable def Ti(ta tb:TE):TE:=λU H Q=>ta U H λx H1=>∃c,x=.bl c/\if c=true then Q QaG H1 else tb U H1 Q
def acO{op}{t:TE}(h:PE X a t):PE X (.BoolOp op [a] pos) t:=λpins s U H Q I hw=>BoolOp_one Quo
theorem acP(g:Qbk)(hb:PE X QsA tb):PE X Qx0 (agp ta tb):=by
 intro pins s U H Q I h;refine BoolOp_and (cS Qc6 λv s1 zz=>?_);obtain⟨x,H1,e,f,d⟩:=zz;obtain⟨c,rfl,d⟩:=d;cases f;refine lj ?_;cases c with
 | true=>exact hb pins s1 U H1 Q e d
 | false=>exact#[.bl _,H1,e,rfl,d]
theorem agq(g:Qbk)(hb:PE X QsU tb):PE X Qx2 (Ti ta tb):=by
 intro pins s U H Q I h;refine BoolOp_or (cS Qc6 λv s1 zz=>?_);obtain⟨x,H1,e,f,d⟩:=zz;obtain⟨c,rfl,d⟩:=d;cases f;refine lj ?_;cases c with
 | false=>exact hb pins s1 U H1 Q e d
 | true=>exact#[.bl true,H1,e,rfl,d]
noncomputable def ON(t:TT)(ta tb:TE):TE:=λU H Q=>t U H λc H1=>if c=true then ta U H1 Q else tb U H1 Q
theorem QV{c:Expr}(g:PT X c tA)(i:Qbk)(hb:QcS):PE X (.IfExp c a b pos) (ON tA ta tb):=by
 intro pins s U H Q I h;refine wpAny_IfExp (cS Qc6 λd s1 zz=>?_);obtain⟨H1,f,e⟩:=zz;cases d with
 | true=>exact i pins s1 U H1 Q f e
 | false=>exact hb pins s1 U H1 Q f e
end
def jX(K:Frag)(H:Hp)(a:Addr)(xs:BS):Prop:=
 Rd H a Qbv ∨
  ∃(o:Obj) (its:D2) (n:Nat),K.lookup a=some o/\o.cls=.type "list" /\ o.dict=none/\o.data=.seq its n/\its.size<=sizeLine/\Vals xs its.toList
def lS(K:Frag)(H:Hp)(a:Addr)(xs:BS):Prop:=
 Rd H a QaV ∨
  ∃(o:Obj) (its:D2) (n:Nat),K.lookup a=some o/\o.cls=.type "tuple" /\ o.data=.seq its n/\its.size<=sizeLine/\Vals xs its.toList
noncomputable def Th:Value->Option V
 | .none=>some .non
 | .bool b=>some QdJ
 | .int i _=>some Qa5
 | .str x _ => some Qax
 | .bytes b _=>some (.G7 b)
 | .float b _=>some (.flt b)
 | .ref a=>some Qab
 | .type n=>some (.ty n)
 | _=>none
theorem RelV.abs{x:V}(r:RelV x u):Th u=some x:=by
 cases x with
 | non=>cases r;rfl
 | bl _=>cases r;rfl
 | int _=>obtain⟨t,rfl⟩:=r;rfl
 | str _=>obtain⟨t,rfl⟩:=r;rfl
 | G7 _=>obtain⟨t,rfl⟩:=r;rfl
 | flt _=>obtain⟨t,rfl⟩:=r;rfl
 | ref _=>cases r;rfl
 | ty _=>cases r;rfl
theorem RelV.inj{x y:V}(r:RelV x u)(q:Qbl):x=y:=fO (r.abs.symm.trans q.abs)
theorem Vals.inj{ys:BS}(h:Qpb)(q:Vals ys us):xs=ys:=by
 induction h generalizing ys with
 | nil=>cases q;rfl
 | cons r _ i=>cases q with
  | cons a t'=>rw[r.inj a,i t']
variable{U:St}{ys:BS}{K:Frag}
theorem jX.of(h:H a=some Qbv):jX K H a xs:=.inl QdE
theorem lS.of(h:H a=some QaV):lS K H a xs:=.inl QdE
theorem Inv.list(I:QF)(h:jX X.K H a xs):∃its:B0,Vals xs its/\PlainL s.heap a its.toArray/\xs.length<=sizeLine:=by
 obtain h|⟨o,its,n,b,c,hd,d,hz,r⟩:=h
 .obtain⟨z,its,n,r,e⟩:=h.ok I.bZ;exact#[its,r,#[_,n,e,rfl,rfl,rfl],z]
 .refine#[ _,r,#[o,n,I.nS a o b,c,hd,‹_› ],?_];have e:=r.length;grind
theorem Inv.tuple(I:QF)(h:lS X.K H a xs):∃its:B0,Vals xs its/\IsTup s.heap a its.toArray/\xs.length<=sizeLine:=by
 obtain h|⟨o,its,n,b,c,d,hz,r⟩:=h
 .obtain⟨z,its,r,p⟩:=h.ok I.bZ;exact#[its,r,p,z]
 .refine#[ _,r,#[o,I.nS a o b,c,n,‹_› ],?_];have e:=r.length;grind
theorem Inv.sH(I:QF)(h:jX X.K H a xs)(h':jX X.K H a ys):xs=ys:=by
 obtain⟨its,r,⟨o,n,e,_,_,d⟩,_⟩:=I.list h;obtain⟨c,f,⟨o',g,b,_,_,d'⟩,_⟩:=I.list h';rw[e]at b;cases b;rw[d]at d';injection d' with d1 _;have:its=c:=by simp_all
 subst this;exact r.inj f
theorem Inv.M7(I:QF)(h:lS X.K H a xs)(h':lS X.K H a ys):xs=ys:=by
 obtain⟨its,r,⟨o,e,_,n,d⟩,_⟩:=I.tuple h;obtain⟨c,f,⟨o',b,_,g,d'⟩,_⟩:=I.tuple h';rw[e]at b;cases b;rw[d]at d';injection d' with d1 _;have:its=c:=by simp_all
 subst this;exact r.inj f
noncomputable abbrev Cx.et(X:Cx)(E:BB):Cx:={X with xe:=E}
abbrev Cx.Xl(X:Cx):Cx:=X.et λ_ _=>False
theorem Cx.Ok.et(ok:X.Ok)(E:BB):(X.et E).Ok:=
 #[ok.mod,ok.kind,ok.glob,ok.blt,ok.above,ok.inj,ok.has,ok.nV,ok.hd,ok.frames,ok.o9,ok.vk,ok.bs,ok.QO,ok.G8,ok.M5,ok.sF,ok.Xk]
theorem Cx.Ok.dN(ok:(X.et E).Ok):X.Ok:=
 #[ok.mod,ok.kind,ok.glob,ok.blt,ok.above,ok.inj,ok.has,ok.nV,ok.hd,ok.frames,ok.o9,ok.vk,ok.bs,ok.QO,ok.G8,ok.M5,ok.sF,ok.Xk]
theorem Inv.et(I:QF)(E:BB):Inv QeT pins U H s:=#[I.ok.et E,I.os,I.bare,I.base,I.loc,I.cell,I.free,I.kT,I.pin,I.bZ,I.len]
theorem Inv.dN(I:Inv QeT pins U H s):Inv X pins U H s:=#[I.ok.dN,I.os,I.bare,I.base,I.loc,I.cell,I.free,I.kT,I.pin,I.bZ,I.len]
theorem SP.dN{D:Ends}{f:Flow}{s':Qr}(h:SP QeT pins D f s'):SP X pins D f s':=by
 cases f with
 | next=>obtain⟨U',H',I,q⟩:=h;exact#[U',H',I.dN,q]
 | brk=>obtain⟨U',H',I,q⟩:=h;exact#[U',H',I.dN,q]
 | cont=>obtain⟨U',H',I,q⟩:=h;exact#[U',H',I.dN,q]
 | ret u=>obtain⟨v,U',H',I,r,q⟩:=h;exact#[v,U',H',I.dN,r,q]
theorem Kz.Xl{st:CI}{t:TS}(h:Kz X.Xl st t):Kz X st t:=λpins s U H D I hw=>
 hJ (h pins s U H D (I.et _) hw) (λ_ _ q=>q.dN) λ_ _ z=>False.elim z
section
variable{st:Stmt}{rest:CI}{t u:TS}{e:Expr}{te:TE}{pos:Pos}
def agr:TS:=λD U H=>D.nx U H
def Tb(t u:TS):TS:=λD U H=>t {D with nx:=u D} U H
def KC:Kz X [] agr:=λ_ _ U H _ I h=>wpAny_execs_nil #[U,H,I,h]
theorem xZ(h1:PS X st t)(h2:Kz X rest u):Kz X (st::rest) (Tb t u):=by
 intro pins s U H D I h;refine wpAny_execs_cons (cS (h1 pins s U H _ I h) λf s1 q=>?_);cases f with
 | next=>
  obtain⟨U',H',a,q⟩:=q;exact h2 pins s1 U' H' D a q
 | ret v=>exact q
 | brk=>exact q
 | cont=>exact q
theorem Inv.quiet(I:QF):interactive X.env=false:=by simp[interactive,I.ok.kind]
def ags(te:TE):TS:=λD U H=>te U H λ_ H1=>D.nx U H1
def p6(he:Qcj)(b:Qhj:=by rfl):PS X (.Expr e pos) (ags te):=λpins s U H D I h=>wpAny_Expr_any (cS Qct λv s1 ⟨x,H1,c,d,a⟩=>#[U,H1,c,a]) I.quiet b
def Ta(te:TE):TS:=λD U H=>te U H D.rt
def Hf(he:Qcj):PS X Qt4 (Ta te):=λpins s U H D I h=>wpAny_Return_some (cS Qct λv s1 ⟨x,H1,c,a,b⟩=>#[x,U,H1,c,a,b])
noncomputable def S6(c:TT)(t u:TS):TS:=λD U H=>c U H λb H1=>if b=true then t D U H1 else u D U H1
theorem agt{c:Expr}{a b:CI}{tc:TT}(g:PT X c tc)(i:Kz X a t)(hb:Kz X b u):PS X (.If c a b pos) (S6 tc t u):=by
 intro pins s U H D I h;refine wpAny_If (cS Qc6 λd s1 zz=>?_);obtain⟨H1,f,e⟩:=zz;cases d with
 | true=>exact i pins s1 U H1 D f e
 | false=>exact hb pins s1 U H1 D f e
end
abbrev TG:=V->St->Hp->(St->Hp->Prop)->Prop
abbrev o1:=BS->St->Hp->(St->Hp->Prop)->Prop
def PG(X:Cx)(target:Expr)(t:TG):Prop:=
 ∀(pins:At) (s:Qr) (U:St) (H:Hp) (v:V) (u:Value) (Q:Qxu),Inv X pins U H s->RelV v u->t v U H Q →
  wpAny Qy X.A (assign target X.env u) (λ_ s'=>∃U' H',Inv X pins U' H' s'/\Q U' H') X.xe s
def x4(X:Cx)(ts:CC)(t:o1):Prop:=
 ∀(pins:At) (s:Qr) (U:St) (H:Hp) (vs:BS) (us:B0) (Q:Qxu),Inv X pins U H s->Vals vs us->t vs U H Q →
  wpAny Qy X.A (assignInOrder ((assignEach ts X.env).map (·.2)) us) (λ_ s'=>∃U' H',Inv X pins U' H' s'/\Q U' H') X.xe s
abbrev FC:=V->V->V->Hp->(Hp->Prop)->Prop
def KA(X:Cx)(t:FC):Prop:=
 ∀(pins:At) (s:Qr) (U:St) (H:Hp) (o i v:V) (ov a u:Value) (Q:QoJ),Inv X pins U H s->RelV o ov->RelV i a->RelV v u->t o i v H Q →
  wpAny Qy X.A (setItem ov a u) (λ_ s'=>∃H',Inv X pins U H' s'/\Q H') X.xe s
abbrev xI:=V->V->Hp->VK->Prop
def NY(X:Cx)(op:Qj6)(t:xI):Prop:=
 ∀(pins:At) (s:Qr) (U:St) (H:Hp) (x y:V) (v u:Value) (Q:VK),Inv X pins U H s->RelV x v->RelV y u->t x y H Q →
  wpAny Qy X.A (inplaceOp op v u) Qa8 X.xe s
variable{pos:Pos}
def KD(i:Nat):TG:=λv U H Q=>Q Qen H
def wY{x:Str}(b:Qbd)(hi:X.N[i]? = some x)(a:QdO)(hf:QdP:=by first|exact .inl rfl|exact .inr rfl|assumption):PG X QaA (KD i):=λpins s U H v u Q I r h=>wpAny_assign_Name (xY I b hi a r (λs' c=>#[_,H,c,h]) hf)
def Kt:o1:=λvs U H Q=>vs=[]/\Q U H
def QW(t:TG)(u:o1):o1:=λvs U H Q=>∃v r,vs=v::r/\t v U H λU' H'=>u r U' H' Q
def XG:x4 X [] Kt:=by
 intro pins s U H vs us Q I r h;obtain⟨e,h⟩:=h;exact assignInOrder_nil #[U,H,I,h]
variable{es:CC}
def D9{e:Expr}{t:TG}{u:o1}(h1:PG X e t)(h2:x4 X es u)
  (d:(assignEach Qan X.env).map (·.2)=assign e X.env::(assignEach es X.env).map (·.2):=by rfl):x4 X Qan (QW t u):=by
 intro pins s U H vs us Q I r h;obtain⟨v,g,e1,h⟩:=h;subst e1;cases r with
 | cons r b=>
  rw[d];refine assignInOrder_cons (cS (h1 pins s U H _ _ _ I r h) λ_ s1 zz=>?_);obtain⟨a,H1,f,c⟩:=zz;exact h2 pins s1 a H1 _ _ Q f b c
noncomputable def Kk(K:Frag)(n:Nat)(t:o1):TG:=λv U H Q=>∃a xs,v=.ref a/\lS K H a xs/\xs.length=n/\t xs U H Q
variable{k:Nat}
def acS{t:o1}{n:Nat}(l:QaL)(h:x4 X es t)
  (hn:(assignEach es X.env).length=n:=by rfl) (d:(assignEach es X.env).findIdx? (·.1)=none:=by rfl):PG X (.Tuple es k pos) (Kk X.K n t):=by
 intro pins s U H v u Q I r hw;obtain⟨a,xs,e1,i,j,hw⟩:=hw;subst e1;cases r;obtain⟨its,c,g,hz⟩:=I.tuple i;refine assign_Tuple_tuple (I.ok.hd l) g (by simp[hn,<- j,c.length]) d λh' f=>?_;have m:=I.kept (t':=s.toks) λb o e=>f b o Qoq e;exact h pins _ U H xs _ Q m (‹_›) hw
noncomputable def S3(to a:TE)(t:FC):TG:=λv U H Q=>to U H λo H1=>a U H1 λi H2=>t o i v H2 λb=>Q U b
def acT{o i:Expr}{to a:TE}{t:FC}(j:PE X o to)(hi:PE X i a)(g:KA X t)
  (p:∀v,assign Ql8 X.env v=(do
   let ov ← holding [v] Qdf
   let iv ← holding [v,ov] (eval i X.env)
   standAt pos
   holding [v,ov,iv] (setItem ov iv v)
   release [v,ov,iv] []):=by intro _;rfl):PG X Ql8 (S3 to a t):=by
 intro pins s U H v u Q I r h;refine eM (qe (cS (j pins s U H _ I h) λov s1 zz=>?_));obtain⟨x,H1,m,c,f⟩:=zz;refine eM (qe (cS (hi pins s1 U H1 _ m f) λiv s2 zz=>?_));obtain⟨y,H2,l,b,e⟩:=zz;refine eM (qr (eM (qe (cS (g pins s2 U H2 x y v ov iv u _ l c b r e) λ_ s3 zz=>?_))));obtain⟨n,k,d⟩:=zz;exact wpAny_release #[U,n,k,d]
def Kj(te:TE)(g:TG):TS:=λD U H=>te U H λx H1=>g x U H1 D.nx
variable{tg:Expr}{te:TE}
def acU{e:Expr}{g:TG}(he:Qcj)(d:PG X tg g)(c:swapsWithSole [tg] e pos.line X.env=pure false:=by rfl)(hw:swappedStores [tg] e X.env=pure none:=by rfl)
  (h1:(assignEach [tg] X.env).map (·.2)=[assign tg X.env]:=by rfl):PS X (.Assign [tg] e pos) (Kj te g):=by
 intro pins s U H D I h;refine wpAny_Assign_stores (cS Qct λv s1 zz=>?_) c hw;obtain⟨x,H1,f,a,b⟩:=zz;rw[h1];exact cS (d pins s1 U H1 x v _ f a b) λ_ s2 q=>q
def Hg{x:Str}{e:Expr}{pos':Pos}(f:Qbd)(hi:X.N[i]? = some x)(c:QdO)(he:Qcj)(d:Qcn:=by rfl)(hf:QdP:=by first|exact .inl rfl|exact .inr rfl|assumption) :
  PS X Qld (Kj te (KD i)):=by
 intro pins s U H D I h;refine wpAny_Assign_Name (cS Qct λv s1 zz=>?_) d;obtain⟨y,H1,j,a,b⟩:=zz;exact xY j f hi c a (λs2 g=>#[_,H1,g,b]) hf
noncomputable def T1(i:Nat)(te:TE)(a:xI):TS:=λD U H=>∃x,U[i]? = some (some x)/\te U H λy H1=>a x y H1 λz H2=>D.nx (U.set i (some z)) H2
theorem acV{x:Str}{e:Expr}{op:Qj6}{j:xI}{pos':Pos}(F:Qbd)(hi:X.N[i]? = some x)(g:QdO)(he:Qcj)(B:NY X op j)(hf:QdP:=by first|exact .inl rfl|exact .inr rfl|assumption) :
  PS X (.AugAssign QiZ op e pos) (T1 i te j):=by
 intro pins s U H D I h;obtain⟨v,e1,h⟩:=h;obtain⟨m,hn,C⟩:=I.loc;have f:QN X.env.scope x:=by obtain k|k:=g;exact .inl k;exact .inr (.inl k)
 obtain⟨u,r,l⟩:=C i x v hi e1 f;refine wpAny_AugAssign_Name ?_;have go:wpAny Qy X.A QfL (λw d=>wpAny Qy X.A (inplaceOp op u w) (λr b=>wpAny Qy X.A (storeName X.env x r) (λ_=>SP X pins D .next) X.xe b) X.xe d) X.xe s:=by
  refine cS Qct λw s1 zz=>?_;obtain⟨y,H1,K,p,t⟩:=zz;refine cS (B pins s1 U H1 v y u w _ K r p t) λz s2 zz=>?_;obtain⟨L,H2,J,o,q⟩:=zz;exact xY J F hi g o (λs3 G=>#[_,H2,G,q]) hf
 obtain⟨a,hm⟩|⟨a,c,E,n⟩:=l
 .exact wpAny_loadName_local I.ok.kind a hn hm go
 .obtain a|a:=a
  .exact wpAny_loadName_cell I.ok.kind a E n go
  .obtain k|k:=g
   .have:X.env.scope.names.lookup x=some _:=a;simp_all
   .have:X.env.scope.names.lookup x=some _:=a;simp_all
def Pl(f:Qnk):xI:=λx y H Q=>∃i j,x=.int i/\y=.int j/\Q (.int (f i j)) H
def acW:NY X .Add (Pl λi j=>i+j):=by
 intro pins s U H x y v u Q I b a h;obtain⟨i,j,e1,e2,q⟩:=h;subst e1;subst e2;obtain⟨t,rfl⟩:=b;obtain⟨t',rfl⟩:=a;exact iadd_int #[.int _,H,I.tok _,#[_,rfl],q]
noncomputable def acX(c:TT)(tb:TS):TS:=λD U H=>∃W:Nat->St->Hp->Prop,(∃m,W m U H)/\∀m U H,W m U H →
 c U H λb H1=>if b=true then ∃N:St->Hp->Prop,(∀U' H',N U' H'->∃a,a<m/\W a U' H')/\tb {D with nx:=N,ct:=N,bk:=D.nx} U H1 else D.nx U H1
variable{c:Expr}
theorem QX{body:CI}{tc:TT}{tb:TS}(hp:Qle)(t:PT X c tc)(hb:Kz X body tb):PS X (.While c body [] pos) (acX tc tb):=by
 intro pins s U H D I h;obtain⟨W,⟨m0,r⟩,turn⟩:=h;refine wpAny_While (codeAny_whileLoop (λn s'=>∃U' H',Inv X pins U' H' s'/\W n U' H') ?_ m0 #[U,H,I,r]);rintro n s1 ⟨d,H1,u,q⟩;refine oy hp (cS (t pins s1 d H1 _ u (turn n d H1 q)) λb s2 zz=>?_);obtain⟨H2,p,i⟩:=zz;cases b with
 | true=>
  obtain⟨N,o,i⟩:=i;refine oy hp (cS (hb pins s2 d H2 _ p i) λf s3 g=>?_);cases f with
  | next=>
   obtain⟨a,e,m,k⟩:=g;obtain⟨l,hm,j⟩:=o a e k;exact#[l,hm,a,e,m,j]
  | cont=>
   obtain⟨a,e,m,k⟩:=g;obtain⟨l,hm,j⟩:=o a e k;exact#[l,hm,a,e,m,j]
  | brk=>exact g
  | ret v=>exact g
 | false=>
  exact wpAny_execs_nil #[d,H2,p,i]
structure It where
 go:Nat->Hp->Prop
 l5:Nat->Hp->V->Hp->Prop
 stop:Nat->Hp->Prop
def oF(X:Cx)(pins:At)(H:Hp)(b:Addr):Prop:=
 H b=none/\b≠X.env.locals/\b∉X.fs/\Qhn/\(∀x c,X.env.cells.lookup x=some c->c≠b)/\∀p∈X.pn++pins,p.1≠b
theorem Inv.v9(I:QF)(hb:s.heap.objs.size<=b)(hn:H' b=none):oF X pins H' b:=by
 refine#[hn,qi (ij I.lt hb),I.Tx hb,.inr (fg I.sz hb),λx c e z=>?_,λp hp z=>?_]
 .obtain⟨v,q⟩:=I.cell x c e;exact absurd (ij q.lt (z▸hb)) (qw _)
 .exact absurd (ij (fA (I.pin p hp).1) (z▸hb)) (qw _)
structure Turn(P:Q1)(w:World)(K:Frag)(tg:Expr)(J:It)(fp:BY)(it:Addr)(tn:Qis):Prop where
 mem:it∈fp
 obj:∀i h,tn i h->∀b∈fp,∃o,h.get? b=some o/\∀v,o.data ≠ .cell v
 keep:∀i h h',tn i h->(∀b∈fp,∀o,h.get? b=some o->h'.get? b=some o)->tn i h'
 item:∀(X:Cx),X.prog=P->X.w=w->X.K=K->X.calm=true->∀(i:Nat) (pins:At) (s:Qr) (U:St) (H:Hp) (E:BB),Inv X pins U H s->(∀b∈fp,oF X pins H b)->tn i s.heap->J.go i H →
  wpAny QcH X.A Qwz (λr s1=>∃u,r=some u ∧
   wpAny QcH X.A Qsk (λ_ s2=>∃x H',Inv X pins U H' s2/\RelV x u/\J.l5 i H x H'/\tn Q3 s2.heap/\∀b∈fp,H' b=none) E s1) E s
 done:∀(X:Cx),X.prog=P->X.w=w->X.K=K->X.calm=true->∀(i:Nat) (pins:At) (s:Qr) (U:St) (H:Hp) (E:BB),Inv X pins U H s->(∀b∈fp,oF X pins H b)->tn i s.heap->J.stop i H →
  wpAny QcH X.A Qwz (λr s1=>r=none/\Inv X pins U H s1) E s
 self:∀(A:Qat) (i:Nat) (s:Qr) (Q:BB) (E:BB),tn i s.heap->Q Qdp s->wpAny QcH A (pyIter Qdp) Q E s
abbrev TI:=St->Hp->(It->Hp->Prop)->Prop
def NZ(X:Cx)(pins:At)(U:St)(tg:Expr)(R:QgB)(a:Value)(s2:Qr):Prop:=
 ∃(it:Addr) (fp:BY) (tn:Qis) (J:It) (H':Hp),a=.ref it/\Inv X pins U H' s2/\Turn X.prog X.w X.K tg J fp it tn/\tn 0 s2.heap/\(∀b∈fp,oF X pins H' b)/\R J H'
def PI(X:Cx)(tg iter:Expr)(a:TI):Prop:=
 ∀(pins:At) (s:Qr) (U:St) (H:Hp) (R:QgB),Inv X pins U H s->a U H R →
  wpAny Qy X.A (eval iter X.env) (λv s1=>wpAny Qy X.A (pyIter v) QvD X.xe s1) X.xe s
def A2{it:Addr}{o:Obj}{n:QaP}{vs:D2}(b:s.heap.get? it=some o)(c:o.cls=.type n)(hd:o.data=.fields vs)
  (hn:["enumerate","zip","dict_itemiterator","dict_reverseitemiterator","odict_iterator","itertools.zip_longest","itertools.pairwise"].contains n=false) (a:Q () s):wpAny M A Qsk Q E s:=by
 cases tg<;>first
  | exact gL a
  | (cases u<;>first
    | exact gL a
    | (refine eM (wpAny_load b ?_)
       rw[c,hd];show wpAny M A (if (["enumerate","zip","dict_itemiterator","dict_reverseitemiterator","odict_iterator","itertools.zip_longest","itertools.pairwise"].contains n&&vs[0]? == some _)=true then _ else _) Q E s;rw[cq (by intro h;rw[hn]at h;cases h)];exact gL a))
noncomputable def OA(K:Frag)(a:Addr):It:=
 #[λi H=>∃xs x,jX K H a xs/\xs[i]? = some x,λi H x H'=>H'=H/\∀xs,jX K H a xs->xs[i]? = some x,λi H=>∃xs,jX K H a xs/\xs.length<=i]
noncomputable def Oy(K:Frag)(a:Addr):It:=
 #[λi H=>∃xs x,lS K H a xs/\xs[i]? = some x,λi H x H'=>H'=H/\∀xs,lS K H a xs->xs[i]? = some x,λi H=>∃xs,lS K H a xs/\xs.length<=i]
noncomputable def yn(lo:Int)(n:Nat):It:=#[λi _=>i<n,λi H x H'=>H'=H/\x=.int (lo+i),λi _=>n<=i]
theorem M8(a it:Addr):Turn P w K tg (OA K a) [it] it (λi h=>h.IsListIter it a i) where
 mem:=by simp
 obj:=λi h st b hb=>by
  have e:b=it:=by simpa using hb
  subst e;obtain⟨o,e,c,d⟩:=st;simp_all
 keep:=λi h h' st k=>st.at λo e=>k it W2 o e
 item:=by
  intro X m hw n t i pins s U H E I hf st l;subst m hw n;obtain⟨xs,x,f,j⟩:=l;obtain⟨its,g,p,hz⟩:=I.list f;obtain⟨u,B,z⟩:=g.get j;obtain⟨f0,f1,f2,r,f4,q⟩:=hf it W2;refine wpAny_pyNext_list_item st p.isList (x:=u) (by simpa using B) λh' v y=>?_;have D:=I.turned (t':=s.toks) QrC f0 f1 r f4 q;obtain⟨o,e,c,d⟩:=id v;exact#[u,rfl,A2 (s:={s with heap:=h'}) e c d Wp #[x,H,D,z,#[rfl,λys A=>by rw[I.sH A f];exact j],v,λb hb=>(hf b hb).1]]
 done:=by
  intro X m hw n t i pins s U H E I hf st l;subst m hw n;obtain⟨xs,f,j⟩:=l;obtain⟨its,g,p,hz⟩:=I.list f;obtain⟨f0,f1,f2,r,f4,q⟩:=hf it W2;have F:=g.length;exact wpAny_pyNext_list_end (I.ok.hd t) st p.isList WF λh' C=>#[rfl,I.turned (t':=s.toks) QsC f0 f1 r f4 q]
 self:=λ_ _ _ _ _ st h=>wpAny_pyIter_listiter st h
theorem Hh(a it:Addr):Turn P w K tg (Oy K a) [it] it (λi h=>h.IsTupleIter it a i) where
 mem:=by simp
 obj:=λi h st b hb=>by
  have e:b=it:=by simpa using hb
  subst e;obtain⟨o,e,c,d⟩:=st;simp_all
 keep:=λi h h' st k=>st.at λo e=>k it W2 o e
 item:=by
  intro X m hw n t i pins s U H E I hf st l;subst m hw n;obtain⟨xs,x,f,j⟩:=l;obtain⟨its,g,p,hz⟩:=I.tuple f;obtain⟨u,B,z⟩:=g.get j;obtain⟨f0,f1,f2,r,f4,q⟩:=hf it W2;refine wpAny_pyNext_tuple_item st (p) (x:=u) (by simpa using B) λh' v y=>?_;have D:=I.turned (t':=s.toks) QrC f0 f1 r f4 q;obtain⟨o,e,c,d⟩:=id v;exact#[u,rfl,A2 (s:={s with heap:=h'}) e c d Wp #[x,H,D,z,#[rfl,λys A=>by rw[I.M7 A f];exact j],v,λb hb=>(hf b hb).1]]
 done:=by
  intro X m hw n t i pins s U H E I hf st l;subst m hw n;obtain⟨xs,f,j⟩:=l;obtain⟨its,g,p,hz⟩:=I.tuple f;obtain⟨f0,f1,f2,r,f4,q⟩:=hf it W2;have F:=g.length;exact wpAny_pyNext_tuple_end (I.ok.hd t) st (p) WF λh' C=>#[rfl,I.turned (t':=s.toks) QsC f0 f1 r f4 q]
 self:=λ_ _ _ _ _ st h=>wpAny_pyIter_tupleiter st h
theorem Hi(it:Addr)(lo:Int)(n:Nat):Turn P w K tg (yn lo n) [it] it (λi h=>IsRangeIter h it (lo+(i:Nat)*1) ((n:Int)-(i:Nat)) 1) where
 mem:=by simp
 obj:=λi h st b hb=>by simp_all
 keep:=λi h h' st k=>k it W2 _ st
 item:=by
  intro X g hw j c i pins s U H E I hf st a;subst g hw j;obtain⟨f0,f1,f2,f,f4,d⟩:=hf it W2;have W:=Walks.range (prog:=X.prog) (w:=X.w) (I.ok.hd c) it lo 1 n;refine W.item i s _ _ a st λv h' tk hv l kk=>?_;obtain⟨t,rfl⟩:=hv;have p:Inv X pins U H {s with heap:=h',toks:=tk}:=I.turned (λb o hb e=>kk b o (by simpa using hb) e) f0 f1 f f4 d;refine#[_,rfl,A2 l rfl rfl Wp #[.int (lo+i),H,p,#[t,?_],#[rfl,rfl],l,λb hb=>(hf b hb).1]];rw[Int.mul_one]
 done:=by
  intro X g hw j c i pins s U H E I hf st a;obtain⟨f0,f1,f2,f,f4,d⟩:=hf it W2;exact wpAny_pyNext_range_end (I.ok.hd c) st (by have:n<=i:=a;lia) λh' m=>#[rfl,I.turned (m) f0 f1 f f4 d]
 self:=λ_ _ _ _ _ st h=>wpAny_pyIter_rangeiter st h
def agy(K:Frag)(tl:TE):TI:=λU H R=>tl U H λx H1=>∃a,x=.ref a/\(∃xs,jX K H1 a xs)/\R (OA K a) H1
def TZ(K:Frag)(tl:TE):TI:=λU H R=>tl U H λx H1=>∃a,x=.ref a/\(∃xs,lS K H1 a xs)/\R (Oy K a) H1
def XH{l:Expr}{tl:TE}(i:PE X l tl):PI X tg l (agy X.K tl):=by
 intro pins s U H R I h;refine cS Ql9 λv s1 zz=>?_;obtain⟨x,H1,c,d,f⟩:=zz;obtain⟨a,e,⟨xs,g⟩,q⟩:=f;subst e;cases d;obtain⟨its,j,p,hz⟩:=c.list g;refine wpAny_pyIter_list p.isList ?_;refine#[ _,_,_,_,H1,rfl,c.kept λb o e=>gx _ e,M8 a _,#[_,hX _ rfl,rfl,rfl],λb hb=>?_,q];have e:=by simpa using hb
 subst e;exact c.v9 (eA _) Qmj
def acY{l:Expr}{tl:TE}(i:PE X l tl):PI X tg l (TZ X.K tl):=by
 intro pins s U H R I h;refine cS Ql9 λv s1 zz=>?_;obtain⟨x,H1,c,d,f⟩:=zz;obtain⟨a,e,⟨xs,g⟩,q⟩:=f;subst e;cases d;obtain⟨its,j,p,hz⟩:=c.tuple g;refine wpAny_pyIter_tuple (p) ?_;refine#[ _,_,_,_,H1,rfl,c.kept λb o e=>gx _ e,Hh a _,#[_,hX _ rfl,rfl,rfl],λb hb=>?_,q];have e:=by simpa using hb
 subst e;exact c.v9 (eA _) Qmj
theorem Eb{R:QgB}{lo hi:Int}{t u v:Tok}{tk:Nat}(I:QF)(h1:-(2 ^ 62)<=lo)(h2:lo<2 ^ 62)(d:-(2 ^ 62)<=hi)(c:hi<2 ^ 62)
  (q:R (yn lo (hi-lo).toNat) H):wpAny Qy X.A (pyIter Qb4) QvD E {s with heap:=s.heap.push {cls:=.type "range",data:=.fields (List.toArray [.int lo t,.int hi u,.int 1 v])},toks:=tk}:=by
 refine wpAny_pyIter_range (IsRange.new ..) (small_one h1 h2 d c) ?_;have a:Inv X pins U H {s with heap:=s.heap.push {cls:=.type "range",data:=.fields (List.toArray [.int lo t,.int hi u,.int 1 v])},toks:=tk}:=I.kept λb o e=>gx _ e;refine#[ _,_,_,_,H,rfl,
  a.kept λb o e=>gx _ e,Hi _ lo _,?_,λb hb=>?_,q]
 .have e1:lo+((0:Nat))*1=lo:=by simp
  have e2:(((hi-lo).toNat))-((0:Nat))=Builtin.Range.rangeSize lo hi 1:=by rw[rangeSize_one];grind
  rw[e1,e2];exact hX _ rfl
 .have e:b=(s.heap.push {cls:=.type "range",data:=.fields (List.toArray [.int lo t,.int hi u,.int 1 v])}).objs.size:=by simp_all
  subst e;exact a.v9 (eA _) Qmk
def agz(ta:TA):TI:=λU H R=>ta U H λvs H1=>∃j:Int,vs=[.int j] /\ -(2 ^ 62)<=j/\j<2 ^ 62/\R (yn 0 j.toNat) H1
def agA(ta:TA):TI:=λU H R=>ta U H λvs H1=>∃i j:Int,vs=[.int i,.int j]/\(-(2 ^ 62)<=i/\i<2 ^ 62 /\ -(2 ^ 62)<=j/\j<2 ^ 62)/\R (yn i (j-i).toNat) H1
variable{p:Pos}
theorem M9{a:Expr}{ta:TA}(i:Qe4)(hm:Qe5)(k:PA X [a] ta)(g:starEach [a] X.env=[(false,eval a X.env)]:=by rfl):PI X tg (.Call QmM [a] [] pos) (agz ta):=by
 intro pins s U H R I h;refine Call_ (oE I i hm boot_range (q1 (cS (k pos pins s U H _ I h) λus s1 zz=>?_) g rfl));obtain⟨vs,H1,l,d,b⟩:=zz;obtain⟨j,e,b,f,q⟩:=b;subst e;cases d with
 | cons r c=>
  cases c;obtain⟨t,rfl⟩:=r;exact call_range_1 (Eb l Wc Wc b f WA)
theorem Nb{a b:Expr}{ta:TA}(o:Qe4)(hm:Qe5)(u:PA X [a,b] ta)(w:AR X a b:=by rfl)(n:starEach [b] X.env=[(false,eval b X.env)]:=by rfl) :
  PI X tg (.Call QmM [a,b] [] pos) (agA ta):=by
 intro pins s U H R I h;refine Call_ (oE I o hm boot_range (q1 (cS (u pos pins s U H _ I h) λus s1 zz=>?_) WA (by rw[n];rfl)));obtain⟨vs,H1,v,f,d⟩:=zz;obtain⟨i,j,e,⟨d,m,l,k⟩,q⟩:=d;subst e;cases f with
 | cons r c=>
  cases c with
  | cons g c=>
   cases c;obtain⟨t,rfl⟩:=r;obtain⟨t',rfl⟩:=g;exact call_range_2 (Eb v d m l k q)
noncomputable def TU(b:TI)(g:TG)(tb:TS):TS:=λD U H=>b U H λJ H1=>∃W:Nat->Nat->St->Hp->Prop,(∃m,W 0 m U H1)/\∀i m U H,W i m U H →
 (J.stop i H/\D.nx U H)\/(J.go i H/\∃N:St->Hp->Prop,(∀U' H',N U' H'->∃a,a<m/\W Q3 a U' H')/\∀x H',J.l5 i H x H'->g x U H' λc H2=>tb {D with nx:=N,ct:=N,bk:=D.nx} c H2)
def x6(fp:BY)(h:Heap):At:=fp.filterMap λb=>(h.get? b).map λo=>(b,o)
def mW{fp:BY}{o:Obj}(hb:b∈fp)(e:h.get? b=some o):(b,o)∈x6 fp h:=q8.2 #[b,hb,by rw[e];rfl]
theorem Nf{fp:BY}{p:Addr×Obj}(hp:p∈x6 fp h):p.1∈fp/\h.get? p.1=some p.2:=by
 obtain⟨b,hb,e⟩:=q8.1 hp;cases q:h.get? b with
 | none=>rw[q]at e;cases e
 | some o=>
  rw[q]at e;have a:=fO e;subst a;exact#[hb,q]
theorem Inv.pinned{fp:BY}(I:QF)(hf:∀b∈fp,oF X pins H b)(c:∀b∈fp,∃o,s.heap.get? b=some o/\∀v,o.data ≠ .cell v):Inv X (pins++x6 fp s.heap) U H s:=
 I.wX λp hp=>(eC.1 hp).elim (λz=>I.pin p (fx _ z)) λz=>by
  obtain⟨hb,e⟩:=Nf z;obtain⟨f0,f1,f2,_⟩:=hf p.1 hb;obtain⟨o,a,d⟩:=c p.1 hb;rw[e]at a;cases a;exact#[e,f0,f1,f2,d]
theorem Inv.sJ{a:At}(I:Inv X (pins++a) U H s):Inv X pins U H s:=I.wX λp hp=>I.pin p (fx _ (hj _ hp))
def acZ{iter:Expr}{body:CI}{L:TI}{g:TG}{tb:TS}(hp:Qle)(M:QaL)(hi:PI X tg iter L)(hg:PG X tg g)(hb:Kz X body tb)
  (hs:Qa7:=by intro _;rfl):PS X (.For tg iter body [] pos) (TU L g tb):=by
 intro pins s U H D I h;refine wpAny_For (cS Qee λv s1 h1=>cS h1 λaa s2 h2=>?_) hs;obtain⟨it,fp,tn,J,H2,e,I2,T,C,f2,W,⟨m0,Z⟩,turn⟩:=h2;subst e;have j:∀{H':Hp},(∀b∈fp,H' b=none)->∀b∈fp,oF X pins H' b:=λhn b hb=>#[hn b hb,(f2 b hb).2];refine codeAny_forLoop_any (λn s'=>∃i U' H',Inv X pins U' H' s'/\tn i s'.heap/\(∀b∈fp,H' b=none)/\W i n U' H') ?_ m0 #[0,U,H2,I2,C,λb hb=>(f2 b hb).1,Z];rintro n s3 ⟨i,c,z,O,t,fr3,Y⟩;obtain⟨stop,qn⟩|⟨go,N,hN,step⟩:=turn i n c z Y
 .refine oy hp (cS (T.done X rfl rfl rfl M i pins s3 c z X.xe O (j fr3) t stop) λr s4 zz=>?_);obtain⟨F,I4⟩:=zz;subst F;exact wpAny_execs_nil #[c,z,I4,qn]
 .refine oy hp (cS (T.item X rfl rfl rfl M i pins s3 c z X.xe O (j fr3) t go) λr s4 zz=>?_);obtain⟨u,F,h4⟩:=zz;subst F;refine oy hp (cS h4 λ_ s5 zz=>?_);obtain⟨x,P,I5,r5,R,q,G⟩:=zz;have K:=I5.pinned (j G) (T.obj _ _ q);refine oy hp (cS (hg _ s5 c P x u _ K r5 (step x P R)) λ_ s6 zz=>?_);obtain⟨B,H6,I6,q6⟩:=zz;refine oy hp (cS (hb _ s6 B H6 _ I6 q6) λf E p=>?_);have again:∀{a:St} {l:Hp},Inv X (pins++x6 fp s5.heap) a l E->N a l->∃m,m<n/\∃i U' H',Inv X pins U' H' E/\tn i E.heap/\(∀b∈fp,H' b=none)/\W i m U' H':=λ{a l} k y=>by
   obtain⟨m',hm,V⟩:=hN a l y;refine#[m',hm,i+1,a,l,k.sJ,T.keep _ _ _ q λb hb o e=>(k.pin (b,o) Qh0).1,λb hb=>?_,V];obtain⟨o,e,d⟩:=T.obj _ _ q b hb;exact(k.pin (b,o) Qh0).2.1
  cases f with
  | next=>obtain⟨a,l,k,y⟩:=p;exact again k y
  | cont=>obtain⟨a,l,k,y⟩:=p;exact again k y
  | brk=>obtain⟨a,l,k,p⟩:=p;exact#[a,l,k.sJ,p]
  | ret v=>obtain⟨S,a,l,k,r7,p⟩:=p;exact#[S,a,l,k.sJ,r7,p]
abbrev R2:=V->V->Hp->VK->Prop
def n9(X:Cx)(f:Qtv)(r:R2):Prop:=
 ∀(pins:At) (s:Qr) (U:St) (H:Hp) (x y:V) (v u:Value) (Q:VK),Inv X pins U H s->RelV x v->RelV y u->r x y H Q →
  wpAny Qy X.A (f v u) Qa8 X.xe s
def FV(X:Cx)(f:QwA)(r:Qmx):Prop:=
 ∀(pins:At) (s:Qr) (U:St) (H:Hp) (x:V) (v:Value) (Q:VK),Inv X pins U H s->RelV x v->r x H Q →
  wpAny Qy X.A (f v) Qa8 X.xe s
def nU(X:Cx)(f:Value)(r:Qml):Prop:=
 ∀(pins:At) (s:Qr) (U:St) (H:Hp) (xs:BS) (us:B0) (Q:VK),Inv X pins U H s->Vals xs us->r xs H Q →
  wpAny Qy X.A (call f us) Qa8 X.xe s
def TM(X:Cx)(r:V->Hp->ES->Prop):Prop:=
 ∀(pins:At) (s:Qr) (U:St) (H:Hp) (x:V) (v:Value) (Q:ES),Inv X pins U H s->RelV x v->r x H Q →
  wpAny Qy X.A Qf8 Qer X.xe s
def u5(r:R2)(ta tb:TE):TE:=λU H Q=>ta U H λx H1=>tb U H1 λy H2=>r x y H2 Q
def OH(r:Qmx)(ta:TE):TE:=λU H Q=>ta U H λx H1=>r x H1 Q
def rI(C:Qv9)(g:Int->Int->V):R2:=λx y H Q=>∃i j,x=.int i/\y=.int j/\C i j/\Q QdD H
def XI(g:Int->Int->V):R2:=λx y H Q=>∃i j,x=.int i/\y=.int j/\Q QdD H
def rU(g:Int->V):V->Hp->VK->Prop:=λx H Q=>∃i,x=.int i/\Q (g i) H
variable{a b:Expr}{ta tb:TE}{f:Qtv}
def FR(k:Qbk)(hb:QcS){R:V->V->Hp->Prop}(I:QF)
  (h:ta U H λx H1=>tb U H1 λy H2=>R x y H2) {Q:BB}
  (hf:∀v u s2 x y H2,Inv X pins U H2 s2->RelV x v->RelV y u->R x y H2->wpAny Qy X.A (f v u) Q X.xe s2) :
  wpAny Qy X.A (eval a X.env) (λv d=>wpAny Qy X.A (eval b X.env) (λu c=>wpAny Qy X.A (f v u) Q X.xe c) X.xe d) X.xe s:=by
 refine cS (k pins s U H _ I h) λv s1 zz=>?_;obtain⟨x,H1,m,g,j⟩:=zz;refine cS (hb pins s1 U H1 _ m j) λu s2 zz=>?_;obtain⟨y,H2,l,e,i⟩:=zz;exact hf v u s2 x y H2 l g e i
variable{r:R2}
noncomputable def A3{op:Qj6}(e:QvE)(f:Qbk)(hb:QcS):PE X (.BinOp a op b pos) Qjf:=λpins s U H Q I h=>wpAny_BinOp Qqc
def agC{op:UnaryOp}{r:Qmx}(d:FV X (unaryOp op) r)(e:Qbk):PE X (.UnaryOp op a pos) (OH r ta):=λpins s U H Q I h=>UnaryOp_ (cS (e pins s U H _ I h) λv s1 ⟨x,H1,f,b,c⟩=>d pins s1 U H1 x v Q f b c)
def u7{C:Qv9}{g:Qnk}
  (rule:∀(i j:Int) (t u:Tok) (s:Qr) (Q:BB) (E:BB),C i j->Q Qx7 {s with toks:=s.toks+1}->wpAny Qy X.A QlD Q E s) :
  n9 X f (rI C λi j=>.int QdD):=by
 intro pins s U H x y v u Q I b a h;obtain⟨i,j,rfl,rfl,c,q⟩:=h;obtain⟨t,rfl⟩:=b;obtain⟨t',rfl⟩:=a;exact rule i j t t' s _ _ c #[.int _,H,I.tok _,#[_,rfl],q]
def K3{g:Qnk}
  (rule:∀(i j:Int) (t u:Tok) (s:Qr) (Q:BB) (E:BB),Q Qx7 {s with toks:=s.toks+1}->wpAny Qy X.A QlD Q E s) :
  n9 X f (XI λi j=>.int QdD):=by
 intro pins s U H x y v u Q I b a h;obtain⟨i,j,rfl,rfl,q⟩:=h;obtain⟨t,rfl⟩:=b;obtain⟨t',rfl⟩:=a;exact rule i j t t' s _ _ #[.int _,H,I.tok _,#[_,rfl],q]
def FO{g:Qwa}
  (rule:∀(i j:Int) (t u:Tok) (s:Qr) (Q:BB) (E:BB),Q (.bool QdD) s->wpAny Qy X.A QlD Q E s) :
  n9 X f Qx1:=by
 intro pins s U H x y v u Q I b a h;obtain⟨i,j,rfl,rfl,q⟩:=h;obtain⟨t,rfl⟩:=b;obtain⟨t',rfl⟩:=a;exact rule i j t t' s _ _ #[.bl _,H,I,rfl,q]
def KY(i j:Int):Prop:=0<j/\j<1073741824
def KU(i j:Int):Prop:=0<=j/\j<=1000000/\i.natAbs<2 ^ 64
def XM(i j:Int):Prop:=(-(2 ^ 64)<i/\i<2 ^ 64)\/(-(2 ^ 64)<j/\j<2 ^ 64)
theorem XM.ok{i j:Int}(h:XM i j):IntMulOk i j:=by
 obtain⟨h1,h2⟩|⟨h1,h2⟩:=h
 .exact .of_left Qup
 .exact .of_right Qup
def ac2:n9 X Qeo (XI λi j=>.int (i+j)):=K3 λ_ _ _ _ _ _ _ q=>add_int q
def ac3:n9 X (binaryOp .Sub) (XI λi j=>.int (i-j)):=K3 λ_ _ _ _ _ _ _ q=>sub_int q
def ac4:n9 X Qwb (rI XM λi j=>.int (i*j)):=u7 λ_ _ _ _ _ _ _ a q=>mul_int q a.ok
theorem XO:n9 X (binaryOp .FloorDiv) (rI KY λi j=>.int (i / j)):=u7 λi j _ _ _ _ _ a q=>by
 have h1:=a.1;have h2:=a.2;exact floordiv_int Wc (by rw[Int.fdiv_eq_ediv_of_nonneg i Wc];exact q) (.inl (PyProof.noPylong_small Wc))
theorem ac5:n9 X (binaryOp .Mod) (rI (λ_ j=>0<j) λi j=>.int (i % j)):=u7 λi j _ _ _ _ _ a q=>mod_int' Wc (by rw[Int.fmod_eq_emod_of_nonneg i Wc];exact q)
def ac6:n9 X (binaryOp .Pow) (rI KU λi j=>.int (i ^ j.toNat)):=u7 λ_ _ _ _ _ _ _ a q=>pow_int_small a.1 a.2.1 a.2.2 q
def OF{f:QwA}{g:Int->Int}
  (rule:∀(i:Int) (t:Tok) (s:Qr) (Q:BB) (E:BB),Q (.int (g i) s.toks) {s with toks:=s.toks+1}->wpAny Qy X.A (f QoS) Q E s) :
  FV X f (rU λi=>.int (g i)):=by
 intro pins s U H x v Q I a h;obtain⟨i,rfl,q⟩:=h;obtain⟨t,rfl⟩:=a;exact rule i t s _ _ #[.int _,H,I.tok _,#[_,rfl],q]
def ac7:FV X (unaryOp .USub) (rU λi=>.int (-i)):=OF λ_ _ _ _ _ q=>neg_int q
noncomputable def FK:V->V->Bool
 | .non,.non=>true | .non,.int _=>true | .int _,.non=>true | .non,.bl _=>true | .bl _,.non=>true | .non,.str _=>true | .str _,.non=>true
 | .int _,.int _=>true | .bl _,.bl _=>true | .str _,.str _=>true | .G7 _,.G7 _=>true
 | .int _,.str _=>true | .str _,.int _=>true | .bl _,.str _=>true | .str _,.bl _=>true
 | _,_=>false
def O3:R2:=λx y H Q=>FK x y=true/\Q (.bl (decide (x=y))) H
def O0:R2:=λx y H Q=>FK x y=true/\Q (.bl (!decide (x=y))) H
def KG{i j:Int}:decide (V.int i=V.int j)=(i==j):=by
 rw[ou];simp
def QY{i j:Bool}:decide (V.bl i=V.bl j)=(i==j):=by
 rw[ou];simp
def KH{i j:Str}:decide (V.str i=V.str j)=(i==j):=by
 rw[ou];simp
theorem KJ{i j:Array UInt8}:decide (V.G7 i=V.G7 j)=(i.toList==j.toList):=by
 rw[ou];simp_all
variable{tc:TE}
def cg{Q:VK}{k a:Bool}(I:QF)(q:Q (.bl k) H)(e:k=a):EP X pins U Q (.bool a) s:=by
 subst e;exact#[.bl k,H,I,rfl,q]
theorem QZ:n9 X QwB O3:=by
 intro pins s U H x y v u Q I c a h;obtain⟨b,q⟩:=h;cases x with
 | non=>
  cases c;cases y with
  | non=>cases a;exact PySem.EqNone.eq_none_none QaC
  | bl j=>cases a;exact PySem.EqNone.eq_none_bool QaC
  | int j=>obtain⟨t',rfl⟩:=a;exact PySem.EqNone.eq_none_int QaC
  | str j=>obtain⟨t',rfl⟩:=a;exact PySem.EqNone.eq_none_str QaC
  | _=>exact absurd (show false=true from b) gm
 | bl i=>
  cases c;cases y with
  | non=>cases a;exact PySem.EqNone.eq_bool_none QaC
  | bl j=>cases a;exact eq_bool (cg I q QY)
  | str j=>obtain⟨t',rfl⟩:=a;exact PySem.EqMixed.eq_bool_str QaC
  | _=>exact absurd (show false=true from b) gm
 | int i=>
  obtain⟨t,rfl⟩:=c;cases y with
  | non=>cases a;exact PySem.EqNone.eq_int_none QaC
  | int j=>obtain⟨t',rfl⟩:=a;exact eq_int (cg I q KG)
  | str j=>obtain⟨t',rfl⟩:=a;exact PySem.EqMixed.eq_int_str QaC
  | _=>exact absurd (show false=true from b) gm
 | str i=>
  obtain⟨t,rfl⟩:=c;cases y with
  | non=>cases a;exact PySem.EqNone.eq_str_none QaC
  | bl j=>cases a;exact PySem.EqMixed.eq_str_bool QaC
  | int j=>obtain⟨t',rfl⟩:=a;exact PySem.EqMixed.eq_str_int QaC
  | str j=>obtain⟨t',rfl⟩:=a;exact eq_str (cg I q KH)
  | _=>exact absurd (show false=true from b) gm
 | G7 i=>
  obtain⟨t,rfl⟩:=c;cases y with
  | G7 j=>obtain⟨t',rfl⟩:=a;exact PySem.W.eq_bytes (cg I q KJ)
  | _=>exact absurd (show false=true from b) gm
 | _=>cases y<;>exact absurd (show false=true from b) gm
theorem Md:n9 X (compareOp .NotEq) O0:=by
 intro pins s U H x y v u Q I c a h;obtain⟨b,q⟩:=h;cases x with
 | non=>
  cases c;cases y with
  | non=>cases a;exact PySem.EqNone.ne_none_none QaC
  | bl j=>cases a;exact PySem.EqNone.ne_none_bool QaC
  | int j=>obtain⟨t',rfl⟩:=a;exact PySem.EqNone.ne_none_int QaC
  | str j=>obtain⟨t',rfl⟩:=a;exact PySem.EqNone.ne_none_str QaC
  | _=>exact absurd (show false=true from b) gm
 | bl i=>
  cases c;cases y with
  | non=>cases a;exact PySem.EqNone.ne_bool_none QaC
  | bl j=>cases a;exact ne_bool (cg I q (congrArg not QY))
  | str j=>obtain⟨t',rfl⟩:=a;exact PySem.EqMixed.ne_bool_str QaC
  | _=>exact absurd (show false=true from b) gm
 | int i=>
  obtain⟨t,rfl⟩:=c;cases y with
  | non=>cases a;exact PySem.EqNone.ne_int_none QaC
  | int j=>obtain⟨t',rfl⟩:=a;exact ne_int (cg I q (congrArg not KG))
  | str j=>obtain⟨t',rfl⟩:=a;exact PySem.EqMixed.ne_int_str QaC
  | _=>exact absurd (show false=true from b) gm
 | str i=>
  obtain⟨t,rfl⟩:=c;cases y with
  | non=>cases a;exact PySem.EqNone.ne_str_none QaC
  | bl j=>cases a;exact PySem.EqMixed.ne_str_bool QaC
  | int j=>obtain⟨t',rfl⟩:=a;exact PySem.EqMixed.ne_str_int QaC
  | str j=>obtain⟨t',rfl⟩:=a;exact ne_str (cg I q (congrArg not KH))
  | _=>exact absurd (show false=true from b) gm
 | G7 i=>
  obtain⟨t,rfl⟩:=c;cases y with
  | G7 j=>obtain⟨t',rfl⟩:=a;exact PySem.W.ne_bytes (cg I q (congrArg not KJ))
  | _=>exact absurd (show false=true from b) gm
 | _=>cases y<;>exact absurd (show false=true from b) gm
def KL:n9 X (compareOp .Lt) (XI λi j=>.bl (decide (i<j))):=FO λ_ _ _ _ _ _ _ q=>lt_int q
def KN:n9 X (compareOp .LtE) (XI λi j=>.bl (decide (i<=j))):=FO λ_ _ _ _ _ _ _ q=>le_int q
def agG:n9 X (compareOp .Gt) (XI λi j=>.bl (decide (j<i))):=FO λ_ _ _ _ _ _ _ q=>gt_int q
def Ng:n9 X QwC (λx y H Q=>∃i j,x=.str i/\y=.str j/\Q (.bl (!(Builtin.Str.occurrences j i 0 j.length 1).isEmpty)) H):=by
 intro pins s U H x y v u Q I b a h;obtain⟨i,j,rfl,rfl,q⟩:=h;obtain⟨t,rfl⟩:=b;obtain⟨t',rfl⟩:=a;exact in_str (cg I q rfl)
def BU:n9 X Qu4 (λx y H Q=>∃i j,x=.str i/\y=.str j/\Q (.bl (!(!(Builtin.Str.occurrences j i 0 j.length 1).isEmpty))) H):=by
 intro pins s U H x y v u Q I b a h;obtain⟨i,j,rfl,rfl,q⟩:=h;obtain⟨t,rfl⟩:=b;obtain⟨t',rfl⟩:=a;exact notIn_str (cg I q rfl)
variable{op:CmpOp}
theorem mX(b:Expr)(h:op ≠ .In:=by decide)(h2:op ≠ .NotIn:=by decide):behindInMarks op b=false:=by
 have e1:(op==CmpOp.In)=false:=by grind
 have e2:Qv8=false:=by grind
 cases b<;>simp[behindInMarks,e1,e2]
noncomputable def p7(e:QgC)(f:Qbk)(hb:QcS)(hm:QhZ):PE X QhO Qjf:=λpins s U H Q I h=>wpAny_Compare1 Qqc hm
def Mc(t:TE):TT:=λU H Q=>t U H λx H'=>∃k,x=.bl k/\Q k H'
def p8(m:QgC)(n:Qbk)(hb:QcS)(hm:QhZ):PT X QhO (Mc Qjf):=by
 intro pins s U H Q I h;refine wpAny_isTrue_Compare1 (cS (n pins s U H _ I h) λv s1 ⟨x,H1,q,g,l⟩=>cS (hb pins s1 U H1 _ q l) λu s2 ⟨y,H2,p,f,j⟩=>
  cS (m pins s2 U H2 x y v u _ p g f j) λc s3 ⟨z,t,o,d,k,e,i⟩=>?_) hm
 subst e;cases d;exact lj #[t,o,i]
noncomputable def Q0(r c:R2)(ta tb tc:TE):TE:=λU H Q=>ta U H λx H1=>tb U H1 λy H2=>r x y H2 λz a=>∃k,z=.bl k ∧
 (if k=true then tc U a λb d=>c y b d Q else Q QeD a)
def Q5{f:CmpOp}{i:R2}(C:QgC)(L:QvF)(E:Qbk)(hb:QcS)(D:PE X c tc)
  (hm:Quq:=by with_unfolding_all rfl):PE X QsD Qwc:=by
 intro pins s U H Q I h;refine Compare_chain (cS (E pins s U H _ I h) λv s1 ⟨x,H1,J,t,B⟩=>chain_link (cS (hb pins s1 U H1 _ J B) λu s2 ⟨y,H2,G,g,A⟩=>
  cS (C pins s2 U H2 x y v u _ G t g A) λd s3 ⟨z,m,l,q,k,e,j⟩=>?_)) hm
 subst e;cases q;refine lj ?_;cases k with
 | false=>exact ite_ff #[.bl _,m,l,rfl,j]
 | true=>exact ite_tt (chain_last (cS (D pins s3 U m _ l j) λo s4 ⟨n,K,F,p,w⟩=>L pins s4 U K y n u o Q F g p w))
def Q6{f:CmpOp}{i:R2}(E:QgC)(R:QvF)(G:Qbk)(hb:QcS)(F:PE X c tc)
  (hm:Quq:=by with_unfolding_all rfl):PT X QsD (Mc Qwc):=by
 intro pins s U H Q I h;refine isTrue_chain (cS (G pins s U H _ I h) λv s1 ⟨x,H1,N,w,D⟩=>test_link (cS (hb pins s1 U H1 _ N D) λu s2 ⟨y,H2,M,g,C⟩=>
  cS (E pins s2 U H2 x y v u _ M w g C) λd s3 ⟨z,m,l,t,k,e,j⟩=>?_)) hm
 subst e;cases t;refine lj ?_;cases k with
 | false=>
  obtain⟨T,J,q'⟩:=j;cases J;exact ite_ff #[m,l,q']
 | true=>
  refine ite_tt (test_last (cS (F pins s3 U m _ l j) λo s4 zz=>?_));obtain⟨n,P,L,q,B⟩:=zz;refine cS (R pins s4 U P y n u o _ L g q B) λd' s5 zz=>?_;obtain⟨S,O,K,p,k2,e2,A⟩:=zz;subst e2;cases p;exact lj #[O,K,A]
def KR(K:Frag)(x:V)(H:Hp)(k:Bool):Prop:=
 match x with
 | .non=>k=false
 | .bl b=>k=b
 | .int i=>k=(i != 0)
 | .str y => y.length <= sizeLine /\ k = ((y.length : Int) != 0)
 | .G7 y=>y.size<=sizeLine/\k=((y.size:Int) != 0)
 | .ref p=>(∃xs,jX K H p xs/\k=!xs.isEmpty)\/(∃xs,lS K H p xs/\k=!xs.isEmpty)\/∃aO,H p=some Qce/\k=!aO.isEmpty
 | _=>False
def Hj{κ:Type}{aO:QbG}{vs:Qe6}(r:QdQ):(!vs.isEmpty)=!aO.isEmpty:=by
 cases r<;>rfl
def x8{its:B0}(r:Vals xs its):(!its.toArray.isEmpty)=!xs.isEmpty:=by
 cases r<;>simp
def rM:(sizeLine:Nat)<2 ^ 63:=by decide
theorem ac9:TM X (λx H Q=>∃k,KR X.K x H k/\Q k H):=by
 intro pins s U H x v Q I c h;obtain⟨k,e,q⟩:=h;have n:=rM;have l:sizeLine=16777216:=fR;cases x with
 | non=>
  cases c;have a:k=false:=e;subst a;exact truthy_none #[H,I,q]
 | bl b=>
  cases c;have a:k=b:=e;subst a;exact lj #[H,I,q]
 | int i=>
  obtain⟨t,rfl⟩:=c;have a:k=(i != 0):=e;subst a;exact PySem.P.truthy_int #[H,I,q]
 | str y=>
  obtain⟨t,rfl⟩:=c;obtain⟨g,a⟩:y.length<=sizeLine/\k=((y.length:Int) != 0):=e;subst a;exact PySem.P.truthy_str Wc #[H,I.tok _,q]
 | G7 y=>
  obtain⟨t,rfl⟩:=c;obtain⟨g,a⟩:y.size<=sizeLine/\k=((y.size:Int) != 0):=e;subst a;exact PySem.W.truthy_bytes Wc #[H,I.tok _,q]
 | ref p=>
  cases c;have a:(∃xs,jX X.K H p xs/\k=!xs.isEmpty)\/(∃xs,lS X.K H p xs/\k=!xs.isEmpty)\/∃aO,H p=some Qce/\k=!aO.isEmpty:=e;obtain⟨xs,d,a⟩|⟨xs,d,a⟩|⟨aO,d,a⟩:=a
  .subst a;obtain⟨its,r,f,hz⟩:=I.list d;have hlen:=r.length;exact wpAny_truthy_list f.isList (by simp only[wb];lia) #[H,I.tok _,by rw[x8 r];exact q]
  .subst a;obtain⟨its,r,f,hz⟩:=I.tuple d;have hlen:=r.length;exact truthy_tuple f (by simp only[wb];lia) #[H,I.tok _,by rw[x8 r];exact q]
  .subst a;obtain⟨hz,j,vs,r,m⟩:aO.length<=sizeLine/\(p==sysModules)=false/\∃vs,KV aO vs/\s.heap.DictOf Qxv p vs:=I.bZ p _ d;have hlen:aO.length=vs.length:=Paired.length r;exact wpAny_truthy_dict j m Wc #[H,I.tok _,by rw[Hj r];exact q]
 | _=>exact(show False from e).elim
def Q7(d:Qbk)(he:∀whole,isTrue a X.env whole=(do let v ← whole;standAt a.pos;holding [v] Qf8)) :
  PT X a (λU H Q=>ta U H λx H'=>∃k,KR X.K x H' k/\Q k H'):=λpins s U H Q I h=>isTrue_plain (cS QuJ λv s1 ⟨x,H1,e,b,c⟩=>ac9 pins s1 U H1 x v Q e b c) (he _)
def Hl:n9 X Qeo (λx y H Q=>∃i j,x=.str i/\y=.str j/\i.length+j.length<=sizeLine/\Q (.str (i++j)) H):=by
 intro pins s U H x y v u Q I b a h;obtain⟨i,j,rfl,rfl,hz,q⟩:=h;obtain⟨t,rfl⟩:=b;obtain⟨t',rfl⟩:=a;exact add_str (λt' tk=>#[.str _,H,I.tok _,#[_,rfl],q]) hz
theorem vals1{x:V}(r:Vals [x] us):∃u,us=[u]/\RelV x u:=by
 cases r with
 | cons b a=>cases a;exact#[_,rfl,b]
theorem vals2{x y:V}(r:Vals [x,y] us):∃u a,us=[u,a]/\RelV x u/\RelV y a:=by
 cases r with
 | cons e d=>
  cases d with
  | cons c b=>cases b;exact#[_,_,rfl,e,c]
def Nh(b:QaL):nU X QvG (λxs H Q=>∃i j,xs=[.int i,.int j]/\Q Qq1 H):=by
 intro pins s U H xs us Q I r h;obtain⟨i,j,rfl,q⟩:=h;obtain⟨u,c,rfl,⟨t,rfl⟩,⟨t',rfl⟩⟩:=vals2 r;refine min_two_ints (I.ok.hd b) λh' tk k=>#[_,H,I.kept k,?_,q];by_cases a:j<i
 .rw[dU a,dU a];exact#[_,rfl]
 .rw[cq a,cq a];exact#[_,rfl]
def BV:nU X QnI (λxs H Q=>∃i,xs=[.int i]/\i.natAbs.log2<1920/\Q (.str QiH) H):=by
 intro pins s U H xs us Q I r h;obtain⟨i,rfl,hz,q⟩:=h;obtain⟨u,rfl,t,rfl⟩:=vals1 r;exact PySem.P.str_of_int hz #[.str _,H,I.tok _,#[_,rfl],q]
structure Ni(h:Heap)(x dx C:Addr)(mA:BN):Prop where
 obj:h.get? x=some QnH
 ns:h.Ns1 dx mA
 ne:dx≠x
variable{dx:Addr}
theorem Nj{mA:BN}(n:h.Ns1 dx mA):∃od,h.get? dx=some od/\∀name,lookIn name od=some (mA name):=by
 obtain⟨o,es,ep,d,hd,f,_,hm⟩:=n;refine#[o,d,λname=>?_];have e:=hm name;unfold nsFind findBy at e;rw[<- Array.find?_toList]at e;unfold lookIn;rw[hd];dsimp;split
 .simp_all
 .have a:es.toList.any (·.refKey)=false:=by
   rw[List.any_eq_false];intro y c;obtain⟨z,t,b⟩:=f y (Array.mem_toList_iff.1 c);simp[DictEntry.refKey,b]
  have g:¬ es.toList.any (·.refKey)=true:=by rw[a];simp_all
  rw[cq g];simp_all
variable{C:Addr}
theorem Ni.look{mA:BN}(I:Ni h x dx C mA):∃od,PySem.W.InstAt h x QnH C (some od)/\∀name,lookIn name od=some (mA name):=
 let ⟨od,a,b⟩:=Nj I.ns
 #[od,#[I.obj,rfl,rfl,a],b]
variable{prog:Q1}{f:Addr}{mA:BN}{name:Str}{v:Value}
def get_map{expr:Bool}{Q:BB}(X:QgD)(I:Qwd)(d:plainGet K C name=true)(c:hasDictIn K C=true)
  (e:findIn K QS name=some none) (hv:mA name=some v) (a:handedIn v=true) (h:Q v {s with toks:=s.toks+1}) :
  wpAny Qaa A (getAttr Qdy name expr) Q E s:=by
 obtain⟨od,J,b⟩:=I.look;exact PySem.W.get_value X J (PySem.W.plainGet_of d).1 (PySem.W.findObj_own c e rfl (by rw[b,hv])) a h
theorem XQ{ns:AT}(X:QgD)(I:Qwd)
  (k:QqX) (hp:plainOver K C=true) (j:takerIn K C name=some none) (l:hasDictIn K C=true)
  (hw:PySem.Within mA ns) (hsz:QwD)
  (h:∀h',Ni h' x dx C (λy=>if y=name then some v else mA y)->Heap.SameBut dx s.heap h'->Q () {s with heap:=h',toks:=s.toks+2}) :
  wpAny Qaa A (setAttr Qdy name v) Q E s:=by
 obtain⟨od,J,q⟩:=I.look;refine PySem.W.set_plain X J k (PySem.W.osa_open X J hp j λb=>?_);obtain⟨cd,m,e⟩:=PySem.W.any_some l;have i:=I.obj;refine eM (gL (eM (eM (wpAny_loadPart i (eM (PySem.W.Looks.here (PySem.W.looks_clsIn X m) ?_))))));rw[e];refine gL (eM (gL (eM ?_)));refine wpAny_nsSet1 I.ns λh' a g=>?_;obtain⟨p,n,o,c,d,f⟩:=a.count (PySem.Within.cons name v hw);refine eM (wpAny_lookBehind c (d▸pastItsLine_dict (fg f WE)) ?_);exact gL (h _ #[(g.2 _ (hV I.ne)).trans I.obj,a,I.ne] g)
abbrev _root_.Do:=List (Str×Value)
noncomputable def Q8{R:Qh1}{vs:B0}{kw:Do}(X:QgD)(hm:makesIn K C=true)
  (hi:findIn K QS "__init__" = some Qcy) (hf:typeIn K Qar=some (.type "function"))
  (h:codeAny Qaa (A.under (.builtin "type.__call__" #[.ref C::vs,kw])) (.call Qar #[.ref Qcu::vs,kw]) (PySem.W.InitBack Qcu R)
   {s with heap:=(s.heap.push emptyDict).push Qss}) :
  codeAny Qaa A (.call QS #[vs,kw]) R s:=PySem.W.make_core (PySem.W.makes_of X hm) (PySem.W.looks_findIn X hi) (λself=>PySem.W.bind_fn X self hf) Qay h
noncomputable def lB(f:Str)(v:V):CA->CA
 | []=>[(f,v)]
 | (g,x)::r=>if g=f then(g,v)::r else(g,x)::lB f v r
theorem vJ(f g:Str)(v:V):∀fs:CA,(lB f v fs).lookup g=if g=f then some v else fs.lookup g
 | []=>by
  show List.lookup g [(f,v)]=_;by_cases h:g=f
  .have hb:=i3.2 h;simp[List.lookup,hb,dU h]
  .have hb:=mv.2 h;simp[List.lookup,hb,cq h]
 | (k,x)::r=>by
  have b:=vJ f g v r;rw[show lB f v _=(if k=f then(k,v)::r else(k,x)::lB f v r) from rfl];by_cases a:k=f
  .rw[dU a];by_cases h:g=k
   .have hb:=i3.2 h;simp[List.lookup,hb,dU (h.trans a)]
   .have hb:=mv.2 h;simp[List.lookup,hb,cq (λe:g=f=>h (e.trans a.symm))]
  .rw[cq a];by_cases h:g=k
   .simp_all
   .have hb:=mv.2 h;simp[List.lookup,hb];exact b
theorem uC(f:Str)(v:V):∀fs:CA,f∈(lB f v fs).map (·.1)/\∀g,g∈fs.map (·.1)->g∈(lB f v fs).map (·.1)
 | []=>#[by simp[lB],λg h=>by simp at h]
 | (k,x)::r=>by
  obtain⟨i1,i2⟩:=uC f v r;rw[show lB f v _=(if k=f then(k,v)::r else(k,x)::lB f v r) from rfl];grind
theorem vK(f:Str)(v:V):∀fs:CA,(lB f v fs).length<=fs.length+1
 | []=>by simp[lB]
 | (k,x)::r=>by
  have a:=vK f v r;rw[show lB f v _=(if k=f then(k,v)::r else(k,x)::lB f v r) from rfl];grind
theorem v7.some_of{v:V}{o:Dx}(r:v7 QaU o):∃u,o=some u/\RelV v u:=by
 cases o with
 | none=>exact(r).elim
 | some u=>exact#[u,rfl,r]
theorem Nk{v:V}(r:Qe3):handedIn u=true:=by
 cases v with
 | non=>cases (r);rfl
 | bl b=>cases (r);rfl
 | int i=>obtain⟨t,e⟩:=(r);cases e;rfl
 | str x=>obtain⟨t,e⟩:=(r);cases e;rfl
 | G7 b=>obtain⟨t,e⟩:=(r);cases e;rfl
 | flt b=>obtain⟨t,e⟩:=(r);cases e;rfl
 | ref a=>cases (r);rfl
 | ty n=>cases (r);rfl
variable{a:Addr}{fs:CA}
def KP(bZ:Qbc)(e:Qof):∃mA,Ni h a dx C mA/\(∀f,v7 QnP (mA f))/\PySem.Within mA (fs.map (·.1))/\fs.length<=1000/\H dx=some Qgk:=by
 obtain⟨d,z,ne,b,mA,n,r,q⟩:=(bZ a _ e);exact#[mA,#[b,n,ne],r,q,z,d]
structure GX(K:Frag)(C:Addr):Prop where
 pg:plainGet K C Str.empty=true
 hd:hasDictIn K C=true
 po:plainOver K C=true
 sa:findIn K QS "__setattr__" = some (some Qhh)
theorem GX.get(c:GX K C)(f:Str):plainGet K C f=true:=c.pg
def cP(K:Frag)(C:Addr)(f:Str):Prop:=findIn K QS f=some none
theorem cP.agI{f:Str}(n:cP K C f):takerIn K C f=some none:=by
 unfold takerIn;rw[n];rfl
structure Meth(K:Frag)(C:Addr)(m:Str)(f:Addr):Prop where
 at_:findIn K QS m=some Qcy
 fn:isFn K Qar=true
 kp:keepIn K Qar=true
variable{f:Str}{v:V}
def Ho{b:Bool}{Q:BB}(I:QF)(e:Qof)(c:GX X.K C)(n:cP X.K C f)(l:fs.lookup f=some v)
  (h:∀u s',Inv X pins U H s'->RelV v u->Q u s'):wpAny Qy A (getAttr Qab f b) Q E s:=by
 obtain⟨mA,O,r,_,_,_⟩:=KP I.bZ e;obtain⟨u,g,d⟩:=v7.some_of (l▸r f);exact get_map I.nS O (c.get f) c.hd n g (Nk d) (h u _ Qdv d)
theorem Hq{y:V}(I:QF)(e:Qof)(c:GX X.K C)(n:cP X.K C f)(t:fs.length<1000)(l:Qbl)
  (h:∀s',Inv X pins U (upd H a Qt5) s'->Q () s'):wpAny Qy A (setAttr Qab f u) Q E s:=by
 obtain⟨mA,O,r,i,_,j⟩:=KP I.bZ e;have hz:(fs.map (·.1)).length<=sizeLine:=by rw[eu,fR];lia
 refine XQ I.nS O c.sa c.po n.agI c.hd i hz λh' d k=>h _ ?_;have hd:∃o,h'.get? dx=some o:=let ⟨o,_,_,p,_⟩:=d.ns;#[o,p];refine I.write (e▸True.intro) (.inr j) (λb q hb z=>(k.2 b hb).trans z) hd ?_;refine#[ ay O.ne▸j,?_,O.ne,d.obj,_,d.ns,λg=>?_,λg m=>?_]
 .have:=vK f y fs;lia
 .rw[vJ];by_cases q:g=f
  .rw[dU q,dU q];exact l
  simp_all
 .by_cases q:g=f
  .rw[q];exact(uC f y fs).1
  .refine(uC f y fs).2 g (i g λz=>m ?_);grind
theorem Inv.made(I:QF):Inv X pins U (upd (upd H s.heap.objs.size (.own Qcu)) Qcu (.ins C s.heap.objs.size []))
  {s with heap:=(s.heap.push emptyDict).push Qss}:=by
 have e1:(s.heap.push _).get? _=some emptyDict:=hX _ rfl;have e2:=by
  have:=hX (s.heap.push emptyDict) (o:=instObj C s.heap.objs.size) rfl
  rwa [Heap.size_push]at this
 have e3:(s.heap.push _).Ns _ _:=#[ _,#[],_,e1,rfl,(λe he=>absurd he W2),λ_=>rfl];have c:=I.laid (o:=.own Qcu) (t':=s.toks) Qur (eA _) #[_,e1];refine c.laid Qur (Nat.le_of_eq (Heap.size_push _ _)) ?_;have ne:s.heap.objs.size≠s.heap.objs.size+1:=hG (mi _);refine#[by rw[ay ne,aM],fv _,ne,e2,_,(Heap.Ns1.of_empty e3).at λo q=>gx _ q,λ_=>True.intro,λy a=>absurd rfl a]
def XR{env:Env}{e:Expr}{Q:BB}(hb:attributeBase e f env (eval e env)=eval e env)
  (h:wpAny Qaa A (eval e env) (λo a=>wpAny Qaa A (getAttr o f true) Q E a) E s):wpAny Qaa A (eval Qic env) Q E s:=
 Attribute_any_ h (by rw[arm_eval_Attribute,hb])
def TK(K:Frag)(ta:TE)(f:Str):TE:=λU H Q=>ta U H λx H1=>∃a C dx fs v,x=.ref a/\H1 a=some Qlu/\GX K C/\cP K C f/\fs.lookup f=some v/\Q v H1
def SF(K:Frag)(ta tv:TE)(f:Str):TS:=λD U H=>tv U H λy H1=>ta U H1 λx H2=>∃a C dx fs,x=.ref a/\H2 a=some Qlu/\GX K C/\cP K C f/\fs.length<1000 ∧
 D.nx U (upd H2 a Qt5)
variable{o e value:Expr}{pos':Pos}{tv:TE}
def Q9(he:PE X e ta)(hb:AS X e f):PE X Qic (TK X.K ta f):=by
 intro pins s U H Q I h;refine XR hb (cS Qct λu s1 zz=>?_);obtain⟨x,H1,j,b,a,C,dx,fs,v,ex,g,c,n,l,q⟩:=zz;subst ex;obtain rfl:u=Value.ref a:=b;exact Ho j g c n l λk s2 i d=>#[v,H1,i,d,q]
def ada(i:PE X o ta)(hv:PE X value tv)(g:swapsWith value (some (.Attribute o f pos')) pos.line X.env=pure false):PS X (.Assign [.Attribute o f pos'] value pos) (SF X.K ta tv f):=by
 intro pins s U H D I h;refine plainObj_wpAny_Assign_Attribute (cS Qus λu s1 zz=>?_) g;obtain⟨y,H1,p,b,q⟩:=zz;refine cS (i pins s1 U H1 _ p q) λov s2 zz=>?_;obtain⟨x,H2,m,d,a,C,dx,fs,ex,j,c,n,l,e⟩:=zz;subst ex;obtain rfl:ov=Value.ref a:=d;exact Hq m j c n l b λs3 k=>#[U,_,k,e]
structure dX(k:Nat)(A:Qat):Prop where
 hd:A.handled=none
 dp:A.depth+3*k+5<recursionLimit
 un:A.units+16*k+200<cLine
theorem dX.mono{j:Nat}(r:dX k A)(h:j<=k):dX j A:=#[r.hd,by have:=r.dp;lia,by have:=r.un;lia]
theorem dX.deeper(r:dX Qac A)(env:Env):dX k (A.deeper env):=
 #[r.hd,by have:=r.dp;show A.depth+1+3*k+5<_;lia,by have:=r.un;show A.units+3+16*k+200<_;lia]
def Hr{kw:Do}:(A.under Qkq).depth=A.depth+1:=rfl
def Hs{kw:Do}:(A.under Qkq).units=A.units+1:=rfl
theorem dX.make(r:dX Qac A)(C:Addr)(us:B0)(kw:Do):dX k Qwe:=
 #[r.hd,by have:=r.dp;rw[Hr];lia,by have:=r.un;rw[Hs];lia]
theorem dX.depth(r:dX k A):A.depth<recursionLimit:=by have:=r.dp;lia
theorem dX.units(r:dX k A):A.units+64<cLine:=by have:=r.un;lia
def KO:TA:=λ_ H Q=>Q [] H
def agK(ta:TE)(tr:TA):TA:=λU H Q=>ta U H λx H1=>tr U H1 λxs H2=>Q (x::xs) H2
variable{t:TA}
noncomputable def cT:PA X [] KO:=λ_ _ _ _ H Q I h=>Calls.spliced_nil #[[],H,I,.nil,h]
def bE(i:Qcj)(g:PA X es t)(f:Qaz:=by rfl):PA X Qan (agK te t):=by
 intro pos pins s U H Q I h;rw[f];show wpAny _ _ (spliced ((false,eval e _)::backTo pos _)) _ _ s;refine Calls.spliced_cons (cS Ql9 λu s1 zz=>?_);obtain⟨x,H1,k,b,d⟩:=zz;refine cS (g pos pins s1 U H1 _ k d) λus s2 zz=>?_;obtain⟨xs,H2,j,a,c⟩:=zz;exact#[ _,H2,j,.cons b a,c]
def SE(t:TA):TE:=λU H Q=>t U H λxs H1=>xs.length<=sizeLine/\∀p,H1 p=none->Q Qbw (upd H1 p QaV)
def SA(t:TA):TE:=λU H Q=>t U H λxs H1=>xs.length<=sizeLine/\∀p,H1 p=none->Q Qbw (upd H1 p Qbv)
def Ra{x1}(h:PA X es t):PE X (.Tuple es x1 pos) (SE t):=by
 intro pins s U H Q I c;refine wpAny_Tuple_spliced (cS Qtw λus s1 zz=>?_);obtain⟨xs,H1,a,r,z,q⟩:=zz;refine#[ r.length▸z,?_];have hf:=a.bZ.fresh (eA _);refine#[.ref _,_,a.laid QfE (eA _) ?_,rfl,q _ hf];exact#[z,us,r,#[_,hX _ rfl,rfl,_,rfl]]
def adb(h:PA X es t):PE X Qi0 (SA t):=by
 intro pins s U H Q I c;refine wpAny_List_spliced (cS Qtw λus s1 zz=>?_);obtain⟨xs,H1,a,r,z,q⟩:=zz;refine#[ r.length▸z,?_];have hf:=a.bZ.fresh (eA _);refine#[.ref _,_,a.laid QfE (eA _) ?_,rfl,q _ hf];exact#[z,us,0,r,hX _ rfl]
abbrev Sp:=BS->Hp->VK->XK->Prop
abbrev Nm:=Cn->Hp->Shared->XK->Value->Shared->Prop
structure Ht(P:Q1)(w:World)(K:Frag)(mg:BN)(base:Heap)(A:Qat)(outer:Cn)(s:Qr)(H:Hp):Prop where
 frames:A.frames=some outer
 mod:Mod K mg base
 bs:∀b o,base.get? b=some o->s.heap.get? b=some o/\H b=none
 QO:base.objs.size<=s.heap.objs.size
 sF:s.heap.FunFrames base outer
 Xk:∀b∈nR outer,H b=none
 bZ:oz P w H s.heap
 bare:AllBare s.gens
def CE(outer:Cn)(P:Q1)(w:World)(H:Hp)(s:Qr)(Q:VK)(u:Value)(s':Qr):Prop:=
 ∃v H',s'.os=s.os/\AllBare s'.gens/\Un (nR outer) [] H H' s.heap s'.heap/\oz P w H' s'.heap/\RelV v u/\Q v H'
def CR(CX:Nm)(outer:Cn)(P:Q1)(w:World)(H:Hp)(s:Qr)(Q:VK)(E:XK)(r:Result)(s':Qr):Prop:=
 match r with
 | .ok (.ret u)=>CE outer P w H s Q u s'
 | .ok _=>False
 | .error e=>CX outer H s E e s'
structure e9(P:Q1)(w:World)(K:Frag)(mg:BN)(base:Heap)(CX:Nm)(k:Nat)(f:Addr)(fd:QaK)(ps:AT)(sp:Sp):Prop where
 len:∀vs H Q E,sp vs H Q E->vs.length=ps.length
 run:∀(A:Qat) (outer:Cn) (s:Qr) (H:Hp) (args:Args) (us:B0) (vs:BS) (Q:VK) (E:XK),dX k A->Ht P w K mg base A outer s H->BindsTo s fd args QcG->Vals vs us->sp vs H Q E →
  codeAny QcH A (.call Qar args) (CR CX outer P w H s Q E) s
variable{mg:BN}{base:Heap}{CX:Nm}{ps:AT}
theorem e9.imp{f:Addr}{fd:QaK}{sp a:Sp}(F:e9 P w K mg base CX k f fd ps sp)
  (h:∀vs H Q E,a vs H Q E->sp vs H Q E):e9 P w K mg base CX k f fd ps a:=
 #[λvs H Q E q=>F.len vs H Q E (h _ _ _ _ q),λA outer s H args us vs Q E c he hb hv b=>F.run A _ s H args us vs Q E c he hb hv (h _ _ _ _ b)]
theorem Ht.make{outer:Cn}(e:QsV)(C:Addr)(us:B0)(kw:Do) :
  Ht P w K mg base Qwe outer s H:=#[by first|exact e.frames|(simpa using e.frames),e.mod,e.bs,e.QO,e.sF,e.Xk,e.bZ,e.bare]
variable{s':Qr}
theorem Inv.XS(I:QF):Ht X.prog X.w X.K X.mg X.base X.A X.stack s H:=
 #[I.ok.frames,I.ok.mod,I.bs,fg I.ok.QO I.sz,I.stack,I.sG,I.bZ,I.bare]
theorem Inv.after{Q:VK}(I:QF)(h:CE X.stack X.prog X.w H s Q u s'):EP X pins U Q u s':=by
 obtain⟨v,H',os,bare,un,bZ,r,q⟩:=h;obtain⟨c,g,d,t,a⟩:=s';obtain rfl:a=s.os:=os;exact#[v,H',I.call un bZ bare (λb z=>absurd z W2),r,q]
def L9(sp:Sp)(Hu:BS)(E:XK)(t:TA):TE:=λU H Q=>t U H λvs H1=>sp QjD H1 Q E
def agL(C:Addr)(sp:Sp)(Hu:BS)(E:XK)(t:TA):TE:=λU H Q=>t U H λvs H1=>∀x dx,H1 x=none->H1 dx=none->dx≠x →
 sp Qyl (upd (upd H1 dx Qf6) x (.ins C dx [])) QxX E
def Binds(K:Frag)(fd:QaK)(ps:AT)(ds:B0):Prop:=
 ∀(s:Qr) (us:B0),K.In s.heap->(us++ds).length=ps.length->BindsTo s fd #[us,[]] (ps.zip (us++ds))
theorem Binds.all{fd:QaK}(h:∀us:B0,us.length=ps.length->bindArgs fd #[us,[]]=pure QcG):Binds K fd ps []:=λs us _ a=>by
 rw[ft]at a ⊢;exact .of_eq (h us a)
def Passes(CX:Nm)(X:Cx)(E:XK):Prop:=∀(pins:At) (U:St) (H:Hp) (s:Qr) (e:Value) (s':Qr),Inv X pins U H s->CX X.stack H s E e s'->X.xe e s'
section
variable{f:Addr}{fd:QaK}{sp:Sp}{Hu:BS}{ds:B0}{E:XK}{x:Str}
def Rb{Q:VK}{vs:BS}(F:Qfo)(d:QcT)(hb:QgE)(hd:QgF)(c:QgG)
  (I:QF) (r:Qpc) (h:sp QjD H Q E):wpAny Qy X.A (call Qar us) Qa8 X.xe s:=by
 have b:=r.append hd;have g:=b.length▸F.len _ _ _ _ h;refine wpAny_call (oI (F.run X.A _ s H _ _ _ Q E d I.XS (hb s us I.nS g) b h) λr s' a=>?_);cases r with
 | error e=>exact c pins U H s e s' I a
 | ok fl=>
  cases fl with
  | ret u=>exact I.after a
  | next=>exact False.elim a
  | brk=>exact False.elim a
  | cont=>exact False.elim a
def wZ(F:Qfo)(d:QcT)(i:Qad)(hm:Qe7)(g:Qe8)(hb:QgE)(hd:QgF)(c:QgG)
  (j:QgH) (b:AD x:=by decide) (he:Qaz:=by rfl) (hpl:QaY:=by rfl) :
  PE X Qhr (L9 sp Hu E t):=by
 intro pins s U H Q I h;refine oD (iB I i hm ?_ b);refine w7 I.ok.mod.pf g (cS (j pos pins s U H _ I h) λus s1 zz=>?_) he hpl;obtain⟨vs,H1,a,r,q⟩:=zz;refine#[a.nS,?_];exact Rb F d hb hd c a r q
def Rc(F:Qfo)(c:QcT)(e:Qad)(hm:Qe7)(d:Qe8)(hb:QgE)(hd:QgF)(b:QgG)
  (a:AD x:=by decide):PE X (.Call (.Name x p) [] [] pos) (L9 sp Hu E KO):=by
 intro pins s U H Q I h;refine oD (iB I e hm ?_ a);exact PySem.W.callWith_K0 I.nS d (Rb F c hb hd b I .nil h)
structure Mk(K:Frag)(C f:Addr):Prop where
 makes:makesIn K C=true
 init:findIn K QS "__init__" = some Qcy
 fn:isFn K Qar=true
 kp:keepIn K QS=true
def Rf{Q:VK}{vs:BS}(M:Mk X.K C f)(F:Qfo)(l:Qjd)(hb:QgE)(hd:QgF)
  (j:QgG) (I:QF) (r:Qpc)
  (h:∀x dx,H x=none->H dx=none->dx≠x->sp Qyl (upd (upd H dx Qf6) x (.ins C dx [])) QxX E) :
  wpAny Qy X.A (call QS us) Qa8 X.xe s:=by
 have d:=h _ _ (I.bZ.fresh (lr _)) Qc7 (hG (mi _));have b:=Inv.made (C:=C) I;have c:Vals (V.ref Qcu::QjD) _:=.cons rfl (r.append hd);have m:=by
  have e:=c.length;rw[F.len _ _ _ _ d]at e;exact e.symm
 refine wpAny_call (Q8 I.nS M.makes M.init (i3.1 M.fn) (oI (F.run _ _ _ _ _ _ _ _ E (l.make C us [])
  (b.XS.make C us []) (hb _ _ b.nS m) c d) λr s' a=>?_))
 cases r with
 | error e=>exact j pins U _ _ e s' b a
 | ok fl=>
  cases fl with
  | ret u=>
   obtain⟨v,H',n,g,ev,i⟩:=b.after a;subst ev;exact#[g,#[V.ref _,H',n,rfl,i]]
  | next=>exact False.elim a
  | brk=>exact False.elim a
  | cont=>exact False.elim a
def KQ(M:Mk X.K C f)(F:Qfo)(d:Qjd)(g:Qad)(hm:QnJ)(hb:QgE)(hd:QgF)(c:QgG)
  (i:QgH) (b:AD x:=by decide) (he:Qaz:=by rfl) (hpl:QaY:=by rfl) :
  PE X Qhr (agL C sp Hu E t):=by
 intro pins s U H Q I h;refine oD (iB I g hm ?_ b);refine w7 I.ok.mod.pf M.kp (cS (i pos pins s U H _ I h) λus s1 zz=>?_) he hpl;obtain⟨vs,H1,a,r,q⟩:=zz;refine#[a.nS,?_];exact Rf M F d hb hd c a r q
end
structure d9(N P:AT)(sc:Scope):Prop where
 kind:sc.kind=.function
 co:sc.isCoroutine=false
 gen:sc.isGenerator=false
 nd:N.Nodup
 pre:N.take P.length=P
 par:∀x∈P,sc.names.lookup x=some .local\/sc.names.lookup x=some .cell
 ade:∀y∈sc.names,y.2 ≠ .free
theorem A4{kindOf:Qh8}{x:Str}:∀{binds:Do} {m:BN},(∀v,(x,v)∉binds)->bindL kindOf binds m x=m x
 | [],_,_=>rfl
 | (n,v)::r,m,h=>by
  unfold bindL;rw[A4 λw hw=>h w Qi9];split
  .have:x≠n:=by rintro rfl;exact h v eB
   simp[this]
  .rfl
theorem A5{kindOf:Qh8}{x:Str}:∀{binds:Do} {m:BN},(∀v,(x,v)∉binds)->bindC kindOf binds m x=m x
 | [],_,_=>rfl
 | (n,v)::r,m,h=>by
  unfold bindC;rw[A5 λw hw=>h w Qi9];split
  .rfl
  .have:x≠n:=by rintro rfl;exact h v eB
   simp[this]
theorem A6{kindOf:Qh8}{x:Str}{v:Value}:∀{P:AT} {vs:B0} {i:Nat} {m:BN},P.Nodup->P[i]? = some x->vs[i]? = some v->kindOf x=some .local →
  bindL kindOf (P.zip vs) m x=some v
 | [],_,_,_,_,h,_,_=>by simp at h
 | _::_,[],_,_,_,_,h,_=>by simp at h
 | p::P,w::vs,0,m,nd,h1,h2,a=>by
  simp at h1 h2;subst h1;subst h2;show bindL _ ((p,w)::P.zip vs) m p=_;unfold bindL;rw[A4 λv hv=>(iq.1 nd).1 (List.of_mem_zip hv).1,dU a];simp
 | p::P,w::vs,i+1,m,nd,h1,h2,a=>by
  unfold bindL;exact A6 (iq.1 nd).2 (‹_›) (‹_›) a
theorem A7{kindOf:Qh8}{x:Str}{v:Value}:∀{P:AT} {vs:B0} {i:Nat} {m:BN},P.Nodup->P[i]? = some x->vs[i]? = some v->kindOf x≠some .local →
  bindC kindOf (P.zip vs) m x=some v
 | [],_,_,_,_,h,_,_=>by simp at h
 | _::_,[],_,_,_,_,h,_=>by simp at h
 | p::P,w::vs,0,m,nd,h1,h2,a=>by
  simp at h1 h2;subst h1;subst h2;show bindC _ ((p,w)::P.zip vs) m p=_;unfold bindC;rw[A5 λv hv=>(iq.1 nd).1 (List.of_mem_zip hv).1,cq a];simp
 | p::P,w::vs,i+1,m,nd,h1,h2,a=>by
  unfold bindC;exact A7 (iq.1 nd).2 (‹_›) (‹_›) a
def start(N:AT)(vs:BS):St:=vs.map some++List.replicate (N.length-vs.length) none
noncomputable def mY(CX:Nm)(P:Q1)(w:World)(K:Frag)(mg:BN)(base:Heap)(N:AT)(qual:Str)(scope:Scope)(f:Addr)(cd:Value)(A:Qat)(outer:Cn)(s:Qr)(H:Hp)(E:XK):Cx where
 prog:=P
 w:=w
 K:=K
 mg:=mg
 base:=base
 A:=A.deeper QkG
 N:=N
 ff:=s
 j2:=H
 env:=envOfC qual scope s.heap.objs.size f cd
 outer:=outer
 stack:=envOfC qual scope s.heap.objs.size f cd::outer
 ex:=[]
 calm:=true
 fn:=λ_=>true
 pn:=[]
 xe:=λe s'=>wpAny QcH (A.deeper QkG) (leaving QkG e) (λ_ a=>CX outer H s E e a) (λb a=>CX outer H s E b a) s'
def Ec{sc:Scope}{n:Nat}{x:Str}(h:sc.names.lookup x=some .cell):∃c,(cellsFrom n sc.names []).lookup x=some c:=by
 have q:=cellsFrom_some _ n [] QdE;exact ky.1 q
theorem Nn{N:AT}{qual:Str}{scope:Scope}{f:Addr}{cd:Value}{outer:Cn}{s1:Qr}{E:XK}{vs:BS}
  (S:d9 N ps scope) (hd:QnY) (e0:QsV) (t:vs.length=ps.length) (r:Qpc)
  (x:InCallC s s.heap.objs.size (bindL (envOfC qual scope s.heap.objs.size f cd).kindOf QcG λ_=>none) (cellsFrom Qcu scope.names []) (bindC (envOfC qual scope s.heap.objs.size f cd).kindOf QcG λ_=>none) s1) :
  Inv (mY CX P w K mg base N qual scope f cd A outer s H E) [] (start N vs) H s1:=by
 have hpl:ps.length<=N.length:=by have:=congrArg List.length S.pre;rw[hM]at this;lia
 obtain⟨h1,tk,rfl,l⟩:=x.done;have a:∀b:Addr,b∉(mY CX P w K mg base N qual scope f cd A outer s H E).ex:=λb z=>absurd (show b∈([]:BY) from z) W2;refine#[#[e0.mod,S.kind,rfl,rfl,eA _,λy z c h1 h2=>?_,λy g=>?_,λy c _ h=>?_,λ_=>hd,Around.frames_deeper e0.frames,.inr #[rfl,rfl],λb z=>absurd z (a b),e0.bs,e0.QO,λb _ _=>a b,λb z=>absurd z (a b),e0.sF,e0.Xk],
  rfl,e0.bare,Un.kept l,#[_,x.toInCall.ns,λi y v h1 h2 B=>?_],λy c h=>#[_,x.cell y c h],e0.bZ.fresh (eA _),λy c h=>?_,λp hp=>absurd (show p∈([]:At) from hp) W2,e0.bZ.kept l,?_]
 .exact name_of_addr x.apart (oe h1) (oe h2)
 .obtain g|g:=g
  .exact Ec g
  .exact absurd rfl (S.ade _ (oe g))
 .exact hS QuL
 .have hi:i<vs.length:=by
   unfold start at h2;by_cases hi:i<vs.length
   .exact hi
   .rw[List.getElem?_append_right (by simpa using hi)]at h2;rw[List.getElem?_replicate]at h2;split at h2<;>cases h2
  have o:vs[i]? = some v:=by
   unfold start at h2;rw[List.getElem?_append_left (by simpa using hi),List.getElem?_map]at h2;simp_all
  obtain⟨u,j,m⟩:=r.get o;have hp:ps[i]? = some y:=by
   rw[<- S.pre,List.getElem?_take_of_lt Wc];exact h1
  have d:ps.Nodup:=by rw[<- S.pre];exact S.nd.sublist Qgs
  refine#[u,m,?_];obtain k|k:=S.par y (gc hp)
  .exact .inl #[k,A6 d hp j k]
  .obtain⟨c,e⟩:=Ec (n:=s.heap.objs.size+1) k;refine .inr #[.inl k,c,e,?_];have q:=x.cell y c e;rw[A7 d hp j (by show scope.names.lookup y≠_;rw[k];decide)]at q;exact q
 .exact e0.bZ.fresh (hS QuL)
 .unfold start;show _=N.length;grind
abbrev _root_.Cc:=Array Dx
theorem Rh{f:Addr}{qual:Str}{params:Arguments}{body:CI}{scope:Scope}{dV kV doc pm eS ct oc:Value}{an od:Bi}
  {Ed:Cc} {N:AT} {sp:Sp} (lk:K.lookup f=some #[oc,od,.func Qqn,Ed]) (iA:Qmy) (S:d9 N ps scope)
  (len:∀vs H Q E,sp vs H Q E->vs.length=ps.length)
  (p:∀(A:Qat) (outer:Cn) (s:Qr) (H:Hp) (vs:BS) (Q:VK) (E:XK),dX k (A.deeper (envOfC qual scope s.heap.objs.size f eS))->sp vs H Q E →
   ∃t,Kz (mY CX P w K mg base N qual scope f eS A outer s H E) body t/\t {nx:=λ_ H'=>Q .non H',rt:=Q} (start N vs) H) :
  e9 P w K mg base CX Qac f Qqn ps sp:=by
 refine#[len,λA outer s H args us vs Q E d e0 hb r g=>?_];have m:=len _ _ _ _ g;have h:=e0.mod.pf.keeps λb o e=>(e0.bs b o e).1;have lim:=e0.mod.nolimit.keeps λb o e=>(e0.bs b o e).1;have z:∀y∈ps.zip us,scope.names.lookup y.1=some _\/(scope.names.lookup y.1=some _/\((cellsFrom Qcu _ []).lookup y.1).isSome=true):=λ⟨n,v⟩ i=>by
  obtain q|q:=S.par n (List.of_mem_zip i).1
  .exact .inl q
  .exact .inr #[q,cellsFrom_some _ _ _ (.inl q)]
 refine codeAny_call_function d.depth (h _ _ lk) rfl S.co S.gen rfl (PySem.W.codeRec_of h iA) (hb _ _ _ _ ?_);refine wpAny_newFunctionEnv_cells S.kind z λenv he s1 x=>?_;subst he;refine#[lim.keeps x.toInCall.keep,codeAny_func ?_];obtain⟨t,j,l⟩:=p A _ s H vs Q E (d.deeper _) g;have I:Inv (mY CX P w K mg base N qual _ f eS A _ s H E) [] _ H s1:=Nn S d.hd e0 m r x;refine hJ (j [] s1 _ H _ I l) (λfl s' a=>?_) λe s' a=>a;have fin:∀{U':St} {H':Hp} {v:V} {u:Value},Inv (mY CX P w K mg base N qual scope f eS A _ s H E) [] U' H' s'->RelV v u->Q v H'->CE outer P w H s Q u s':=
  λ{U' H' v u} J c q=>#[v,H',J.os,J.bare,J.base,J.bZ,c,q]
 cases fl with
 | ret u=>
  obtain⟨v,U',H',J,c,q⟩:=a;exact fin J c q
 | next=>
  obtain⟨U',H',J,q⟩:=a;exact fin (v:=V.non) J rfl q
 | brk=>
  obtain⟨_,_,_,q⟩:=a;simp_all
 | cont=>
  obtain⟨_,_,_,q⟩:=a;exact False.elim q
section
variable{x:Str}{id T:QaP}{r:Qml}
def G6(r:Qml)(t:TA):TE:=λU H Q=>t U H λvs H1=>r vs H1 Q
def oG(f:nU X Qep r)(d:Qad)(hm:Qj4)(hv:bootBuiltins x=some Qep)(g:QgH)(hn:QiB:=by decide)(c:AD x:=by decide)
  (he:Qaz:=by rfl) (hpl:QaY:=by rfl):PE X Qhr (G6 r t):=by
 intro pins s U H Q I h;refine oD (oE I d hm hv ?_ hn c);refine PyProof.Rows.callWith_builtin1 (cS Qtx λus s1 zz=>?_) he hpl;obtain⟨vs,H1,i,a,b⟩:=zz;exact f pins s1 U H1 vs us Q i a b
def lU(f:nU X QjE r)(d:Qad)(hm:Qj4)(hv:bootBuiltins x=some QjE)(g:QgH)(hn:QiB:=by decide)(c:AD x:=by decide)
  (he:Qaz:=by rfl) (hpl:QaY:=by rfl):PE X Qhr (G6 r t):=by
 intro pins s U H Q I h;refine oD (oE I d hm hv ?_ hn c);refine q1 (cS Qtx λus s1 zz=>?_) he hpl;obtain⟨vs,H1,i,a,b⟩:=zz;exact f pins s1 U H1 vs us Q i a b
end
end L2
namespace HT
open PySem PyProof.Rows
variable{prog:Q1}{w:World}{A:Qat}{E:BB}{s:Qr}
theorem XU{t b:Addr}{vs ws:B0}{Q:BB}(g:IsTup s.heap t vs.toArray)(hb:IsTup s.heap b ws.toArray)(hv:vs≠[])
  (h1:ws=[]->Q QjK s) (h2:ws≠[]->Q Qb4 {s with heap:=s.heap.push {cls:=.type "tuple",data:=.seq (vs++ws).toArray}})
  (hsz:vs.length+ws.length<=sizeLine):wpAny Qaa A (binaryOp .Add QjK Qgl) Q E s:=by
 obtain⟨⟨cls,dd,data,sl⟩,c,h,n,hd⟩:=id g;obtain⟨⟨i,a,data2,f⟩,d,j,n2,hd2⟩:=id hb;subst h hd j hd2;have e:vs.toArray++ws.toArray=(vs++ws).toArray:=by simp
 by_cases hw:ws=[]
 .exact concat_meets #[_,c,rfl] #[_,d,rfl] noFill_tuple_add seq_tuple_add PySem.F.slot_tuple_add PySem.F.entry_tuple_add Qsb
   (tuple_addW1 t b _ _ n n2 dd a sl f WA (by simp[hw])) #[c,d,h1 hw]
 .refine concat_meets #[_,c,rfl] #[_,d,rfl] noFill_tuple_add seq_tuple_add PySem.F.slot_tuple_add PySem.F.entry_tuple_add Qsb
   (tuple_addW2 t b _ _ n n2 dd a sl f WA WA (‹_›)) #[c,d,?_]
  rw[e];exact h2 hw
abbrev _root_.Bn:=Option Int
noncomputable def iy(n d:Nat):Bn->Nat
 | none=>d
 | some v=>if v<0 then(v+(n:Int)).toNat else min v.toNat n
def Rk(n d:Nat):iy n d none=d:=rfl
def XW(n d k:Nat):iy n d Qxw=min k n:=rfl
theorem KS(v:Int)(n d:Nat):(if v<0 then max (v+(n:Int)) 0 else min v (n:Int))=((iy n d QaU:Nat):Int):=by
 show(if v<0 then max _ 0 else min v _)=(((if v<0 then(v+n).toNat else min _ n)));grind
def Hv(lo hi:Bn)(n:Nat):Builtin.Slice.sliceAdjust lo hi 1 (n:Int)=(((iy n 0 lo:Nat):Int),((iy n n hi:Nat):Int)):=by
 refine Prod.ext ?_ ?_
 .cases lo with
  | none=>rfl
  | some v=>exact KS v n 0
 .cases hi with
  | none=>rfl
  | some v=>exact KS v n n
theorem Hw(i j:Nat):Builtin.Slice.slicePlaces (i:Int) (j:Int) 1=j-i:=by
 unfold Builtin.Slice.slicePlaces;grind
theorem x9{v:Value}{o:Bn}{Q:Bn->Shared->Prop}(p:IsPart v o)(h:Q o s):wpAny Qaa A (Builtin.Slice.slicePartIndex v) Q E s:=by
 cases p with
 | none=>exact slicePart_none h
 | int i t=>exact slicePart_int h
def uD{sl:Addr}{d c:Value}{lo hi:Bn}{n:Nat}{Q:Int×Int×Nat->Shared->Prop}(f:s.heap.IsSliceOf sl d c .none)(e:IsPart d lo)(pu:IsPart c hi)
  (h:Q (((iy n 0 lo:Nat):Int),1,iy n n hi-iy n 0 lo) s):wpAny Qaa A (Builtin.Slice.sliceApplied QjF (pure (n:Int))) Q E s:=by
 obtain⟨os,a,g,b⟩:=id f;refine wpAny_bind (wpAny_bind (wpAny_field a b (x:=d) rfl (wpAny_bind (wpAny_field a b (x:=c) rfl (wpAny_bind (wpAny_field a b rfl (wpAny_pure ?_)))))));refine wpAny_bind (slicePart_none ?_);refine wpAny_bind (x9 e (wpAny_bind (x9 pu (wpAny_bind (wpAny_pure ?_)))));show wpAny _ _ (match Builtin.Slice.sliceAdjust lo hi 1 _ with|(lo,hi)=>pure (lo,(1:Int),Builtin.Slice.slicePlaces lo hi 1)) _ _ s;rw[Hv lo hi n];show wpAny _ _ (pure _) _ _ s;rw[Hw];exact wpAny_pure h
theorem Rl(xs:D2)(i k:Nat):((List.range k).filterMap λ(m:Nat)=>xs[((i:Int)+(m:Int)*1).toNat]?).toArray=((xs.toList.drop i).take k).toArray:=by
 have e:(λ(m:Nat)=>xs[(i+(m:Int)*1).toNat]?)=λm=>xs[i+m]?:=by
  funext m;grind
 rw[e];have:=pick_run xs i k;rw[List.filterMap_map]at this;have e2:((λx=>xs[x]?)∘λx=>i+x)=λm=>xs[i+m]?:=rfl;rw[e2]at this;rw[this]
theorem sL{t sl:Addr}{items:D2}{g f:Value}{lo hi:Bn}{Q:BB}(a:IsTup s.heap t items)(i:s.heap.IsSliceOf sl g f .none)(j:IsPart g lo)(pu:IsPart f hi)
  (hw:¬ (iy items.size 0 lo=0/\iy items.size items.size hi=items.size))
  (h:Q Qb4 {s with heap:=s.heap.push {cls:=.type "tuple",data:=.seq ((items.toList.drop Qma).take Qfn).toArray}})
  (hsz:items.size<=sizeLine):wpAny Qaa A (getItem QjK QjF) Q E s:=by
 have e:sizeOk (.seq ((items.toList.drop Qma).take Qfn).toArray):=by
  show((items.toList.drop Qma).take Qfn).toArray.size<=sizeLine;rw[List.size_toArray,List.length_take,List.length_drop,Array.length_toList];lia
 obtain⟨os,b,c,k⟩:=id i;have d:s.TypeIs QjF "slice":=#[os,b,c];unfold getItem
 try with_reducible refine wpAny_holding ?_
 first|refine wpAny_bind (wpAny_pure ?_)|skip
 refine wpAny_bind (wpAny_sequenceKey a.typeIs Wp ?_);refine wpAny_bind (wpAny_callSpecial?_slot (name:=Str.ofString "__getitem__") a.typeIs PyProof.Rows.slot_tuple_getitem
  (wpAny_call_entry PyProof.Rows.slot_tuple_getitem a.typeIs entry_tuple_getitem ?_ (args_tuple_getitem _ _)))
 show wpAny _ _ (Builtin.Tuple.tupleItemsOf QjK >>= _) _ _ s;refine wpAny_bind (tupleItemsOf_ a ?_);refine wpAny_bind (wpAny_typeOf d ?_);rw[if_pos Wp];refine wpAny_bind (uD i j pu ?_);have l:¬ ((((iy items.size 0 lo:Nat):Int)==0&&(1:Int)==1&&Qfn==items.size)=true):=by grind
 show wpAny _ _ (if (((iy items.size 0 lo:Nat):Int)==0&&(1:Int)==1&&Qfn==items.size)=true then _ else _) _ _ s;rw[if_neg l,Rl]
 first
  | exact wpAny_bind (m:=Builtin.Tuple.tupleExact _) (wpAny_newObj_type (wpAny_pure #[_,rfl,wpAny_pure h]) e)
  | exact wpAny_bind (m:=Builtin.Tuple.tupleExact _) _
  | exact wpAny_bind _
  | exact wpAny_bind _
end HT
namespace L2
open PySem PySem.Spec PyProof.Rows
abbrev TO:=St->Hp->(Bn->Hp->Prop)->Prop
def PO(X:Cx)(e:QdR)(t:TO):Prop:=
 ∀(pins:At) (s:Qr) (U:St) (H:Hp) (Q:Qxx),Inv X pins U H s->t U H Q →
  wpAny Qy X.A (evalPart e X.env) (λu s'=>∃o H',Inv X pins U H' s'/\IsPart u o/\Q o H') X.xe s
def XY:TO:=λ_ H Q=>Q none H
def agP(t:TE):TO:=λU H Q=>t U H λx H1=>∃i,x=.int i/\Q (some i) H1
variable{X:Cx}{e:Expr}{te:TE}{lo hi:QdR}{tl th:TO}{pos p2:Pos}
noncomputable def XZ:PO X none XY:=λpins s U H Q I h=>gL #[none,H,I,.none,h]
def X3(h:Qcj):PO X (some e) (agP te):=by
 intro pins s U H Q I hw;refine cS QlY λu s1 zz=>?_;obtain⟨x,H1,c,a,b⟩:=zz;obtain⟨i,rfl,q⟩:=b;obtain⟨t,rfl⟩:=a;exact#[ _,H1,c,.int i t,q]
def x2(X:Cx)(r:Qla):Prop:=
 ∀(pins:At) (s:Qr) (U:St) (H:Hp) (x:V) (v b a:Value) (lo hi:Bn) (sl:Addr) (Q:VK),Inv X pins U H s->RelV x v->s.heap.IsSliceOf sl b a .none->IsPart b lo->IsPart a hi->r x lo hi H Q →
  ∃T id,typeLookup QjE "__getitem__" = pure (some Qep)/\s.TypeIs v T/\wpAny Qy X.A (getItem v QjF) Qa8 X.xe s
noncomputable def OK(r:Qla)(te:TE)(tl th:TO):TE:=λU H Q=>te U H λx H1=>tl U H1 λl H2=>th U H2 λu a=>r x l u a Q
def yb{r:Qla}(o:x2 X r)(he:Qcj)(p:PO X lo tl)(m:PO X hi th):PE X Qhi (OK r te tl th):=by
 intro pins s U H Q I h;refine Subscript_ (cS Qct λv s1 zz=>?_);obtain⟨x,H1,B,f,j⟩:=zz;refine wpAny_Slice (cS (p pins s1 U H1 _ B j) λc s2 zz=>?_);obtain⟨l,H2,A,k,i⟩:=zz;refine cS (m pins s2 U H2 _ A i) λa s3 zz=>?_;obtain⟨u,d,z,pu,g⟩:=zz;refine gL ?_;have y:Inv X pins U d {s3 with heap:=s3.heap.push {cls:=.type "slice",data:=.fields (List.toArray [c,a,.none])}}:=z.kept λb C q=>gx _ q;obtain⟨T,id,w,n,t⟩:=o pins _ U d x v c a l u _ Q y f (Heap.IsSliceOf.new ..) k pu g;exact tail_any n w t (rfl)
def Nr(xs:BS)(lo hi:Bn):BS:=(xs.drop Qt6).take Qqy
theorem vN(xs:BS)(lo hi:Bn):(Nr xs lo hi).length<=xs.length:=by
 unfold Nr;rw[hM,mu];lia
def Su(K:Frag):V->Bn->Bn->Hp->VK->Prop:=λx lo hi H Q=>∃a xs,x=.ref a/\lS K H a xs ∧
 ¬ (HT.iy xs.length 0 lo=0/\HT.iy xs.length xs.length hi=xs.length)/\∀p,H p=none->Q Qbw (upd H p (.tup (Nr xs lo hi)))
def adg:x2 X (Su X.K):=by
 intro pins s U H x v j i lo hi sl Q I d g e pu h;obtain⟨a,xs,rfl,f,hw,q⟩:=h;cases d;obtain⟨its,r,c,hz⟩:=I.tuple f;have hlen:its.toArray.size=xs.length:=r.length.symm;refine#[ _,_,Pt.lookup,c.typeIs,?_];refine HT.sL c g e pu (hlen▸hw) ?_ (hlen▸hz);rw[hlen];refine#[.ref _,_,I.laid Qut (eA _) ?_,rfl,q _ Qc7];exact#[fg (vN xs lo hi) hz,_,(r.drop _).take _,IsTup.new _ _]
def agQ(K:Frag):R2:=λx y H Q=>∃a b xs ys,x=.ref a/\y=.ref b/\lS K H a xs/\lS K H b ys/\xs≠[]/\xs.length+ys.length<=sizeLine ∧
 (ys=[]->Q Qab H)/\(ys≠[]->∀p,H p=none->Q Qbw Qty)
variable{xs:BS}
theorem Vals.w4{us:B0}(r:Qpb):us=[]↔xs=[]:=by
 cases r with
 | nil=>simp
 | cons _ _=>simp
theorem KW:n9 X Qeo (agQ X.K):=by
 intro pins s U H x y v u Q I f e h;obtain⟨a,b,xs,ys,rfl,rfl,l,hb,k,hz,i,g⟩:=h;cases f;cases e;obtain⟨its,d,j,_⟩:=I.tuple l;obtain⟨m,c,p2,_⟩:=I.tuple hb;refine HT.XU j p2 (λz=>k (d.w4.1 z)) (λz=>#[.ref a,H,I,rfl,i (c.w4.1 z)]) (λz=>?_) (by rw[<- d.length,<- c.length];exact hz);refine#[.ref _,_,I.laid (λb n q=>gx _ q) (eA _) ?_,rfl,g (λw=>z (c.w4.2 w)) _ Qc7];exact#[ by simp_all,_,d.append c,IsTup.new _ _]
noncomputable def GY(n:Nat)(i:Int):Option Nat:=if 0<=i then(if i<n then some i.toNat else none) else if -(n:Int)<=i then some (i+n).toNat else none
def sA{α:Type}(xs:QR)(i:Int):Option α:=(GY xs.length i).bind λj=>xs[j]?
variable{n:Nat}
theorem w6{i:Int}{j:Nat}(h:GY n i=some j):seqIndex? i n=some j/\j<n /\ -(n:Int)<=i/\i<n:=by
 unfold GY at h;by_cases h0:0<=i
 .rw[dU h0]at h;by_cases h1:i<n
  .rw[dU h1]at h;have e:=fO h;exact#[by rw[seqIndex_of h0 h1,e],Wc,Wc,h1]
  simp_all
 .rw[cq h0]at h;by_cases h1:-n<=i
  .rw[dU h1]at h;have e:=fO h;exact#[by rw[seqIndex_neg Wc h1,e],Wc,h1,Wc]
  simp_all
theorem BW{α:Type}{xs:QR}{i:Int}{v:α}(h:sA xs i=some v):∃j,seqIndex? i xs.length=some j/\xs[j]? = some v/\j<xs.length /\ -(xs.length:Int)<=i/\i<xs.length:=by
 unfold sA at h;cases e:GY _ i with
 | none=>rw[e]at h;cases h
 | some j=>
  rw[e]at h;obtain⟨h1,h2,b,a⟩:=w6 e;exact#[j,h1,h,h2,b,a]
theorem gq{α:Type}{xs:QR}{j:Nat}{v:α}(h:xs[j]? = some v):sA xs (j:Int)=some v:=by
 have a:=(hR.1 h).1;have e:GY xs.length j=some j:=by
  unfold GY;simp_all
 unfold sA;rw[e];exact h
def kU(b:Expr):Prop:=∀o i,subscripted b false o i=operate [o,i] (getItem o i)
def yl(X:Cx)(r:R2):Prop:=
 ∀(value slice:Expr) (pins:At) (s:Qr) (U:St) (H:Hp) (x y:V) (v u:Value) (Q:VK),Inv X pins U H s->RelV x v->RelV y u->r x y H Q →
  subscripted slice false v u=operate [v,u] (getItem v u)->wpAny Qy X.A (subscriptTail value slice v u) Qa8 X.xe s
def o8(X:Cx)(id:QaP)(r:QhU):Prop:=
 ∀(pins:At) (s:Qr) (U:St) (H:Hp) (x:V) (xs:BS) (v:Value) (us:B0) (Q:VK),Inv X pins U H s->RelV x v->Vals xs us->r x xs H Q →
  wpAny Qy X.A QuM Qa8 X.xe s
section
variable{a b:Expr}{ta tb:TE}
noncomputable def yc{r:R2}(f:yl X r)(g:Qbk)(hb:QcS)(e:kU b):PE X (.Subscript a b pos) Qjf:=λpins s U H Q I h=>Subscript_ (FR g hb I h λv u s2 x y H2 i d c q=>f a b pins s2 U H2 x y v u Q i d c q Qj0)
def Sr(K:Frag):R2:=λx y H Q=>∃p xs i v,x=.ref p/\y=.int i/\jX K H p xs/\sA xs i=some v/\Q v H
def So(K:Frag):R2:=λx y H Q=>∃p xs i v,x=.ref p/\y=.int i/\lS K H p xs/\sA xs i=some v/\Q v H
def Sk:R2:=λx y H Q=>∃z i c,x=.str z/\y=.int i/\z.length<=sizeLine/\sA z.cps.toList i=some c/\Q (.str #[(List.toArray [c])]) H
theorem w9:yl X (Sr X.K):=by
 intro value slice pins s U H x y v u Q I d c h b;obtain⟨p,xs,i,z,rfl,rfl,e,he,q⟩:=h;cases d;obtain⟨t,rfl⟩:=c;obtain⟨its,r,a,hz⟩:=I.list e;obtain⟨j,h1,h2,n,k,g⟩:=BW he;obtain⟨w,o,l⟩:=r.get h2;have m:=r.length;have hn:=rM;have fin:EP X pins U Q w s:=#[z,H,I,l,q];by_cases h0:0<=i
 .have f:i.toNat=j:=by
   rw[seqIndex_of h0 g]at h1;grind
  exact item_listR a.isList h0 Wc WA fin b
 .have f:(i+its.toArray.size).toNat=j:=by
   rw[seqIndex_neg Wc k]at h1;simp_all
  exact subscriptTail_builtinR a.isList.typeIs slot_list_getitem.lookup
   (wpAny_getItem_list_neg a.isList Wc WA Wc WA #[rfl,fin]) b
theorem Rm:yl X (So X.K):=by
 intro value slice pins s U H x y v u Q I c b h d;obtain⟨p,xs,i,z,rfl,rfl,e,he,q⟩:=h;cases c;obtain⟨t,rfl⟩:=b;obtain⟨its,r,a,hz⟩:=I.tuple e;obtain⟨j,h1,h2,m,l,k⟩:=BW he;obtain⟨w,n,f⟩:=r.get h2;have g:=r.length;have hn:=rM;have fin:EP X pins U Q w s:=#[z,H,I,f,q];exact subscriptTail_builtinR a.typeIs slot_tuple_getitem.lookup
  (getItem_tuple (j:=j) a Wc Wc WA WA #[rfl,fin]) d
theorem adi:yl X Sk:=by
 intro value slice pins s U H x y v u Q I b a h d;obtain⟨z,i,c,rfl,rfl,hz,he,q⟩:=h;obtain⟨t,rfl⟩:=b;obtain⟨t',rfl⟩:=a;obtain⟨j,h1,h2,k,g,f⟩:=BW he;have e:z.cps.toList.length=z.length:=rfl;rw[e]at h1 g f;have hn:=rM;exact tail_any (me s z t) slot_str_getitem.lookup (getItem_str (c:=c) WE WA #[.str #[(List.toArray [c])],H,I.tok _,#[_,rfl],q]) d
noncomputable def Hy(its:B0)(n j:Nat)(u:Value):Obj.mapSeq (·.setIfInBounds j u) {cls:=.type "list",data:=.seq its.toArray n}={cls:=.type "list",data:=.seq (its.set j u).toArray n}:=by
 simp[Obj.mapSeq]
theorem Inv.lst{pins:At}{U:St}{H:Hp}{s:Qr}{p:Addr}(I:QF)(h:H p=some Qbv) :
  ∃(its:B0) (n:Nat),Vals xs its/\s.heap.get? p=some {cls:=.type "list",data:=.seq its.toArray n}/\xs.length<=sizeLine:=by
 obtain⟨z,its,n,r,e⟩:=I.bZ p _ h;exact#[its,n,r,e,z]
theorem Inv.adj{pins:At}{U:St}{H:Hp}{s:Qr}{p:Addr}{ys:BS}{its a:B0}{c:Nat}{f:Obj->Obj}(I:QF)(h:H p=some Qbv)
  (d:s.heap.get? p=some {cls:=.type "list",data:=.seq its.toArray n}) (hf:f {cls:=.type "list",data:=.seq its.toArray n}={cls:=.type "list",data:=.seq a.toArray c}) (r:Vals ys a) (hz:QmN) (t:Nat) :
  Inv X pins U (upd H p Qjo) {s with heap:=s.heap.update p f,toks:=t}:=by
 have e:(s.heap.update p f).get? p=some {cls:=.type "list",data:=.seq a.toArray c}:=by
  rw[v8 f d (by rw[hf]<;>rfl),hf]
 refine I.write (by rw[h];trivial) Qay (λb u hb q=>(Heap.get?_update_other _ _ (hV hb)).trans q) #[_,e] ?_;exact#[hz,a,c,r,e]
def agR:V->V->V->Hp->QoJ->Prop:=λo i v H Q=>∃p xs k j,o=.ref p/\i=.int k/\H p=some Qbv/\GY xs.length k=some j/\Q (upd H p (.lst (xs.set j v)))
theorem set_list:KA X agR:=by
 intro pins s U H o i v ov w u Q I e f d h;obtain⟨p,xs,k,j,rfl,rfl,hp,g,q⟩:=h;cases e;obtain⟨t,rfl⟩:=f;obtain⟨its,n,r,a,hz⟩:=I.lst hp;obtain⟨h1,h2,m,l⟩:=w6 g;have x:=r.length;have hn:=rM;have c:=
  I.adj hp a (Hy its n j u) (r.set d j) WA s.toks
 by_cases h0:0<=k
 .have b:k.toNat=j:=by
   rw[seqIndex_of h0 l]at h1;grind
  exact PySem.W.ki_setAt a h0 Wc WA (b▸#[_,c,q])
 .have b:(k+its.toArray.size).toNat=j:=by
   rw[seqIndex_neg Wc m]at h1;simp_all
  exact PySem.W.ki_setBack a Wc WA Wc (b▸#[_,c,q])
theorem BX(lo hi:Bn)(n:Nat):(sliceBounds lo hi none n).1=((HT.iy n 0 lo:Nat):Int)/\(sliceBounds lo hi none n).2.1=((HT.iy n n hi:Nat):Int)/\(sliceBounds lo hi none n).2.2=1:=by
 refine#[?_,?_,rfl]
 .cases lo with
  | none=>simp[sliceBounds,HT.iy]
  | some i=>
   simp[sliceBounds,HT.iy,if_true];by_cases h:i<0
   .simp only[h,if_true]<;>lia
   .simp[h]<;>lia
 .cases hi with
  | none=>simp[sliceBounds,HT.iy]
  | some i=>
   simp[sliceBounds,HT.iy,if_true];by_cases h:i<0
   .simp only[h,if_true]<;>lia
   .simp[h]<;>lia
def Ae(its:B0)(lo hi:Bn):slicePick its.toArray lo hi none=((its.drop (HT.iy its.length 0 lo)).take (HT.iy its.length its.length hi-HT.iy its.length 0 lo)).toArray:=by
 obtain⟨h1,h2,a⟩:=BX lo hi _;unfold slicePick;rw[h1,h2,a];simp only[sliceRange_one,pick_run]<;>rfl
def Sg(K:Frag):V->Bn->Bn->Hp->VK->Prop:=λx lo hi H Q=>∃a xs,x=.ref a/\jX K H a xs/\∀p,H p=none->Q Qbw (upd H p (.lst (Nr xs lo hi)))
theorem X4:x2 X (Sg X.K):=by
 intro pins s U H x v j i lo hi sl Q I d g e pu h;obtain⟨a,xs,rfl,f,q⟩:=h;cases d;obtain⟨its,r,c,hz⟩:=I.list f;have hlen:=r.length;refine#[ _,_,slot_list_getitem.lookup,c.isList.typeIs,?_];refine wpAny_getItem_list_slice c.isList g e pu .none W2 ?_ WE;rw[Ae,<- hlen];refine#[.ref _,_,I.laid Qut (eA _) ?_,rfl,q _ Qc7];exact#[fg (vN xs lo hi) hz,_,0,(r.drop _).take _,hX _ rfl]
noncomputable def qM:V->Bool
 | .non=>true
 | .bl _=>true
 | .int _=>true
 | .str _ => true
 | _=>false
noncomputable def X5:V->V->Bool
 | .non,.non=>true
 | .bl a,.bl b=>a==b
 | .bl a,.int b=>(if a then 1 else 0)==b
 | .int a,.bl b=>a==(if b then 1 else 0)
 | .int a,.int b=>a==b
 | .str a, .str b => a == b
 | _,_=>false
theorem adk{A:Qat}{s:Qr}{y x:V}{u v:Value}(d:Qbl)(c:Qj5)(f:qM y=true)(e:qM x=true):SeqAt.EqAt A s u v (X5 y x):=by
 cases y with
 | non=>
  cases d;cases x with
  | non=>cases c;exact SeqAt.EqAt.same _
  | bl b=>cases c;exact SeqAt.EqAt.none_bool b
  | int b=>obtain⟨t,rfl⟩:=c;exact SeqAt.EqAt.none_int b t
  | str b=>obtain⟨t,rfl⟩:=c;exact SeqAt.EqAt.none_str b t
  | _=>exact absurd (show false=true from e) gm
 | bl a=>
  cases d;cases x with
  | non=>cases c;exact SeqAt.EqAt.bool_none a
  | bl b=>cases c;exact SeqAt.EqAt.bool_bool a b
  | int b=>obtain⟨t,rfl⟩:=c;exact SeqAt.EqAt.bool_int a b t
  | str b=>obtain⟨t,rfl⟩:=c;exact SeqAt.EqAt.bool_str a b t
  | _=>exact absurd (show false=true from e) gm
 | int a=>
  obtain⟨t',rfl⟩:=d;cases x with
  | non=>cases c;exact SeqAt.EqAt.int_none a t'
  | bl b=>cases c;exact SeqAt.EqAt.int_bool a t' b
  | int b=>obtain⟨t,rfl⟩:=c;exact SeqAt.EqAt.int_int a t' b t
  | str b=>obtain⟨t,rfl⟩:=c;exact SeqAt.EqAt.int_str a t' b t
  | _=>exact absurd (show false=true from e) gm
 | str a=>
  obtain⟨t',rfl⟩:=d;cases x with
  | non=>cases c;exact SeqAt.EqAt.str_none a t'
  | bl b=>cases c;exact SeqAt.EqAt.str_bool a t' b
  | int b=>obtain⟨t,rfl⟩:=c;exact SeqAt.EqAt.str_int a t' b t
  | str b=>obtain⟨t,rfl⟩:=c;exact SeqAt.EqAt.str_str a t' b t
  | _=>exact absurd (show false=true from e) gm
 | _=>exact absurd (show false=true from f) gm
def nz(x:V)(u:Value):Bool:=match u with
 | .none=>X5 .non x
 | .bool b=>X5 QdJ x
 | .int i _=>X5 Qa5 x
 | .str z _ => X5 (.str z) x
 | _=>false
theorem Rn{x y:V}{u:Value}(r:Qbl)(f:qM y=true):nz x u=X5 y x:=by
 cases y with
 | non=>cases r;rfl
 | bl b=>cases r;rfl
 | int i=>obtain⟨t,rfl⟩:=r;rfl
 | str z=>obtain⟨t,rfl⟩:=r;rfl
 | _=>exact absurd (f) gm
theorem sM{x:V}:∀{xs:BS} {us:B0},Vals xs us->xs.all qM=true->us.any (nz x)=xs.any λy=>X5 y x
 | _,_,.nil,_=>rfl
 | y::xs,u::us,.cons r t,f=>by
  rw[n3,fD]at f;rw[lx,lx,Rn r f.1,sM t f.2]
theorem oH{A:Qat}{s:Qr}{x:V}{v:Value}(b:Qj5)(c:qM x=true):∀{xs:BS} {us:B0},Vals xs us->xs.all qM=true->∀u∈us,SeqAt.EqAt A s u v (nz x u)
 | _,_,.nil,_=>λu a=>by cases a
 | y::xs,u::us,.cons r t,f=>λd a=>by
  rw[n3,fD]at f;obtain rfl|a:=ew.1 a
  .rw[Rn r f.1];exact adk r b f.1 c
  .exact oH b c t f.2 d a
def nu(x:V)(xs:BS):Bool:=xs.any λy=>X5 y x
def Hc(K:Frag)(neg:Bool):R2:=λx y H Q=>∃p xs,y=.ref p/\(jX K H p xs\/lS K H p xs)/\qM x=true/\xs.all qM=true/\Q (.bl (if neg then !nu x xs else nu x xs)) H
theorem p9:n9 X QwC (Hc X.K false):=by
 intro pins s U H x y v u Q I c e h;obtain⟨p,xs,rfl,a,d,fs,q⟩:=h;cases e;obtain a|a:=a
 .obtain⟨its,r,b,hz⟩:=I.list a;refine SeqAt.in_listAt _ b.isList Qhy #[.bl _,H,I,rfl,?_];rw[show its.toArray.any _=its.any (nz x) by simp,sM r fs];exact q
 .obtain⟨its,r,b,hz⟩:=I.tuple a;refine SeqAt.in_tupleAt _ b Qhy #[.bl _,H,I,rfl,?_];rw[show its.toArray.any _=its.any (nz x) by simp,sM r fs];exact q
theorem jQ:n9 X Qu4 (Hc X.K true):=by
 intro pins s U H x y v u Q I c e h;obtain⟨p,xs,rfl,a,d,fs,q⟩:=h;cases e;obtain a|a:=a
 .obtain⟨its,r,b,hz⟩:=I.list a;refine SeqAt.notIn_listAt _ b.isList Qhy #[.bl _,H,I,rfl,?_];rw[show its.toArray.any _=its.any (nz x) by simp,sM r fs];exact q
 .obtain⟨its,r,b,hz⟩:=I.tuple a;refine SeqAt.notIn_tupleAt _ b Qhy #[.bl _,H,I,rfl,?_];rw[show its.toArray.any _=its.any (nz x) by simp,sM r fs];exact q
theorem BZ:nU X QmT (λxs H Q=>∃p ys,xs=[.ref p]/\QsE/\Q (.int ys.length) H):=by
 intro pins s U H xs us Q I r h;obtain⟨p,ys,rfl,a,q⟩:=h;obtain⟨u,rfl,d⟩:=vals1 r;cases d;have hn:=rM;obtain a|a:=a
 .obtain⟨its,b,c,hz⟩:=I.list a;have hlen:=b.length;exact Calls.call_len_list c.isList (by simp only[wb]<;>lia) #[.int _,H,I.tok _,#[s.toks+1,by simp_all ],q]
 .obtain⟨its,b,c,hz⟩:=I.tuple a;have hlen:=b.length;exact len_tuple c (by simp only[wb]<;>lia) #[.int _,H,I.tok _,#[s.toks+1,by simp_all ],q]
theorem B3:nU X QmT (λxs H Q=>∃z,xs=[.str z]/\z.length<=sizeLine/\Q (.int z.length) H):=by
 intro pins s U H xs us Q I r h;obtain⟨z,rfl,hz,q⟩:=h;obtain⟨u,rfl,t,rfl⟩:=vals1 r;have hn:=rM;exact len_str Wc #[.int _,H,I.tok _,#[_,rfl],q]
theorem B4:nU X Qnu (λxs H Q=>∃p ys,xs=[.ref p]/\QsE/\∀l,H l=none->Q (.ref l) Qyh):=by
 intro pins s U H xs us Q I r h;obtain⟨p,ys,rfl,c,q⟩:=h;obtain⟨u,rfl,j⟩:=vals1 r;cases j;have fin:∀(its:List _),Vals ys its->ys.length<=sizeLine->∀(h':Heap) (i:Nat),(∀b o',s.heap.get? b=some o'->h'.get? b=some o') →
   h'.get? _=some _->EP X pins U Q _ _:=λits a hz h' i kp e=>
  #[.ref _,_,I.laid (t':=s.toks) kp (eA _) (show fJ _ X.w _ h' _ Qjo from#[hz,its,i,a,e]),rfl,q _ Qc7]
 obtain c|c:=c
 .obtain⟨its,a,d,hz⟩:=I.list c;have hlen:=a.length;obtain⟨o,f,g,n,hd⟩:=d.isList;exact call_list_seq p Qay f g hd (fin its a hz) WE
 .obtain⟨its,a,d,hz⟩:=I.tuple c;have hlen:=a.length;obtain⟨o,f,g,n,hd⟩:=d;exact call_list_seq p Qam f g hd (fin its a hz) WE
theorem Af:nU X Qwf (λxs H Q=>∃p ys,xs=[.ref p]/\((jX X.K H p ys/\∀l,H l=none->Q (.ref l) (upd H l QjG))\/(lS X.K H p ys/\Q Qbw H))):=by
 intro pins s U H xs us Q I r h;obtain⟨p,ys,rfl,h⟩:=h;obtain⟨u,rfl,g⟩:=vals1 r;cases g;obtain⟨d,q⟩|⟨d,q⟩:=h
 .obtain⟨its,a,c,hz⟩:=I.list d;have hlen:=a.length;refine call_tuple_list c.isList (λh' kp=>?_) WE;have f:=I.kept (t':=s.toks) kp;have i:=
   f.laid (t':=s.toks) (λb o e=>gx _ e) (eA _) (show fJ _ X.w _ _ _ QjG from#[hz,its,a,IsTup.new _ _])
  exact#[.ref _,_,i,rfl,q _ (f.bZ.fresh (eA _))]
 .obtain⟨its,a,c,hz⟩:=I.tuple d;exact call_tuple_same c #[.ref p,H,I,rfl,q]
def G3(K:Frag)(T:QaP)(x:V)(H:Hp):Prop:=match x with
 | .str _ => T = "str"
 | .int _=>T="int"
 | .ref p=>(T="list" /\ ∃xs,jX K H p xs)\/(T="tuple" /\ ∃o,K.lookup p=some o/\o.cls=.type "tuple" /\ o.dict=none) ∨
   (T="dict" /\ ((∃aO,H p=some Qce)\/∃aO ep,H p=some (.dT aO ep)))\/(T="set" /\ ∃S n,H p=some (.set S n))
 | _=>False
theorem ado{pins:At}{U:St}{H:Hp}{s:Qr}{T:QaP}{x:V}{v:Value}(I:QF)(r:Qj5)(ty:G3 X.K T x H) :
  s.TypeIs v T/\∀a,v=.ref a->∃f,s.heap.get? a=some f/\f.dict=none:=by
 cases x with
 | str z=>
  obtain⟨t,rfl⟩:=r;cases (ty);exact#[me s z t,λ_ e=>nomatch e]
 | int i=>
  obtain⟨t,rfl⟩:=r;cases (ty);exact#[typeIs_int s i t,λ_ e=>nomatch e]
 | ref p=>
  cases r;obtain⟨rfl,xs,g⟩|⟨rfl,o,b,h,hd⟩|⟨rfl,b⟩|⟨rfl,S,n,b⟩:=ty
  .obtain⟨its,_,d,_⟩:=I.list g;refine#[d.isList.typeIs,λa e=>?_];obtain⟨o,n,e,c,hd,_⟩:=d;simp_all
  .refine#[#[o,I.nS p o b,h],λa e=>?_];cases e;exact#[o,I.nS _ o b,hd]
  .have z:∃o,s.heap.get? p=some o/\o.ExactDict:=by
    obtain⟨aO,b⟩|⟨aO,ep,b⟩:=b
    .obtain⟨_,_,_,_,o,_,_,e,ex,_⟩:=I.bZ p _ b;simp_all
    .obtain⟨_,_,_,_,o,_,_,e,ex,_⟩:=I.bZ p _ b;simp_all
   obtain⟨o,e,ex⟩:=z;refine#[#[o,e,ex.1],λa e2=>?_];cases e2;exact#[o,e,ex.2.1]
  .obtain⟨o,_,_,_,e,ex,_⟩:=I.bZ p _ b;refine#[#[o,e,ex.1],λa e2=>?_];cases e2;exact#[o,e,ex.2.1]
 | _=>exact False.elim ty
noncomputable def OP(K:Frag)(T:QaP)(r:QhU)(to:TE)(t:TA):TE:=λU H Q=>to U H λx H1=>G3 K T x H1/\t U H1 λxs H2=>r x xs H2 Q
variable{o:Expr}{es:CC}{to:TE}{t:TA}{name:Str}{apos j3:Pos}{T id:QaP}{r:QhU}
def qN(pa:PlainAttrs T)(slot:Slot T name id)(b:typeOf Qep=pure (.type "method_descriptor"))(hm:o8 X id r)(m:PE X o to)(n:QgH)
  (p:AS X o name:=by rfl)
  (k:((backTo j3 Qt7).all QiX&&(backToKw j3 Qh3).all Qh7
   && decide ((e::es).length+([]:List Keyword).length+Qhe<30))=true:=by rfl)
  (a:Qs8:=by rfl) (l:Qaz:=by rfl) (u:AL X j3 es:=by rfl) :
  PE X (.Call (.Attribute o name apos) Qan [] j3) (OP X.K T r to t):=by
 intro pins s U H Q I h;refine wpAny_Call_method_late p k a rfl (cS (m pins s U H _ I h) λv s1 zz=>?_);obtain⟨x,H1,f,c,ty,j⟩:=zz;obtain⟨h1,h2⟩:=ado f c ty;refine#[T,id,pa,slot,b,h1,h2,?_];have d:=n j3 pins s1 U H1 _ f j;rw[l]at d ⊢;refine Calls.callWith_builtin (‹_›) (Calls.evalArgs_plain ?_);refine cS d λus s2 zz=>?_;obtain⟨vs,H2,q,g,i⟩:=zz;exact hm pins s2 U H2 x vs v us Q q c g i
end
def F1(X:Cx)(id:QaP)(r:QhU):Prop:=
 ∀(pins:At) (s:Qr) (U:St) (H:Hp) (x:V) (xs:BS) (v:Value) (us:B0) (Q:VK),Inv X pins U H s->RelV x v->Vals xs us->r x xs H Q →
  wpAny Qy X.A QuM Qa8 X.xe s
variable{x:V}
theorem Vals.one{us:B0}(h:Vals [x] us):∃u,us=[u]/\RelV x u:=by
 cases h with
 | cons r h=>cases h;exact#[_,rfl,r]
theorem Vals.two{y:V}{us:B0}(h:Vals [x,y] us):∃u v,us=[u,v]/\RelV x u/\RelV y v:=by
 cases h with
 | cons r h=>cases h with
  | cons q h=>cases h;exact#[_,_,rfl,r,q]
variable{pins:At}{U:St}{H:Hp}{s:Qr}{l:Addr}{ys:BS}
theorem Inv.KI{its a:B0}{f:D2->D2}{t':Nat}(I:QF)(c:H l=some Qbv)
  (e:s.heap.get? l=some {cls:=.type "list",data:=.seq its.toArray n}) (hf:f its.toArray=a.toArray) (hv:Vals ys a) (hz:QmN) :
  Inv X pins U Qyh {s with heap:=s.heap.update l (Obj.mapSeq f),toks:=t'}:=by
 have q:=PySem.IsL.update e f;rw[hf]at q;refine I.write (c▸trivial) Qay (λd u hb b=>(Heap.get?_update_other _ _ (hV hb)).trans b) #[_,q] ?_;exact#[hz,a,_,hv,q]
theorem Inv.Ro{its:B0}{t':Nat}(I:QF)(hv:Vals ys its)(hz:QmN) :
  Inv X pins U (upd H s.heap.objs.size Qjo) {s with heap:=s.heap.push {cls:=.type "list",data:=.seq its.toArray},toks:=t'}:=
 I.laid Quu (eA _) #[hz,its,0,hv,hX _ rfl]
theorem Inv.fresh(I:QF):H s.heap.objs.size=none:=I.bZ.fresh (eA _)
theorem Inv.E1(I:QF)(a:H l=some Qbv):xs.length<=sizeLine/\∃(its:B0) (n:Nat),Vals xs its/\xs.length=its.length/\s.heap.get? l=some {cls:=.type "list",data:=.seq its.toArray n}:=by
 obtain⟨z,its,n,r,e⟩:=I.bZ l _ a;exact#[z,its,n,r,r.length,e]
theorem Rp(h:n<=sizeLine):Builtin.List.listTooLong n=false:=fw Wc
def X6:V->BS->Hp->VK->Prop:=λx vs H Q=>∃l xs y,x=.ref l/\vs=[y]/\H l=some Qbv/\xs.length<sizeLine/\Q .non (upd H l (.lst (xs++[y])))
theorem qa:F1 X "list.append" X6:=by
 intro pins s U H x vs v us Q I b c h;obtain⟨l,xs,y,rfl,rfl,a,hz,q⟩:=h;cases b;obtain⟨u,rfl,d⟩:=c.one;obtain⟨z,its,n,r,f,e⟩:=I.E1 a;refine n4 F.slot_list_append #[_,e,rfl] F.entry_list_append (F.args_list_append_2 _ _) (PySem.list_append l _ n u WE) #[e,?_];refine#[.non,_,I.KI a e W2 (r.append (.cons d .nil)) ?_,rfl,q];grind
def X7:V->BS->Hp->VK->Prop:=λx vs H Q=>∃l b xs zs,x=.ref l/\vs=[.ref b]/\H l=some Qbv/\H b=some (.lst zs)/\xs.length+zs.length<=sizeLine/\Q .non (upd H l Qxy)
theorem Nu:F1 X "list.extend" X7:=by
 intro pins s U H x vs v us Q I f g h;obtain⟨l,b,xs,zs,rfl,rfl,d,m,hz,q⟩:=h;cases f;obtain⟨u,rfl,i⟩:=g.one;cases i;obtain⟨z,its,n,r,p,e⟩:=I.E1 d;obtain⟨o,c,n2,j,k,e2⟩:=I.E1 m;have hsz:its.toArray.size+c.toArray.size<=sizeLine:=by grind
 have a:¬ (!its.toArray.isEmpty&&Builtin.List.listTooLong (its.toArray.size+c.toArray.size))=true:=by
  rw[Rp hsz];grind
 refine n4 F.slot_list_extend #[_,e,rfl] F.entry_list_extend (F.args_list_extend_2 _ _)
  (AutoSeq1.list_extend_list_list_0 l _ n b _ n2 a WE Wc) #[e,e2,?_]
 refine#[.non,_,I.KI d e W2 (r.append j) ?_,rfl,q];simp_all
end L2
namespace Att
open PySem PySem.W PySem.Calls PyProof.Rows
abbrev _root_.BA:=List Int
def wj{P:Params}{h:Heap}:∀(ns:BA) (vs:B0),WellAll P h vs Qu5->IntsAre vs ns:=by
 intro ns
 induction ns with
 | nil=>
  intro vs w;cases w;exact .nil
 | cons n ns c=>
  intro vs w;cases w with
  | cons a b=>
   cases a;exact .cons _ _ (c _ b)
theorem Nv{l:OpenLaw}{n:Nat}(hn:Qoy){P:Params}{h:Heap}{args:List WData}{vals:B0}
  (e:l.row.toRowW.claim.pre args=true) (c:WellAll P h vals args) :
  ∃a vs ns,vals=[Value.ref a]/\args=[WData.list Qu5]/\h.get? a=some {cls:=.type "list",data:=.seq vs.toArray}/\IntsAre vs ns/\ns.length<=n:=by
 have Xm:=(pre_splitW e).1;have k:=(pre_splitW e).2;obtain⟨d,r,rfl,h1,h2⟩:=hasAllW_cons Xm;obtain rfl:=hasAllW_nil h2;obtain⟨xs,rfl,m⟩:=hasW_list h1;obtain⟨ns,rfl⟩:=items_int m;have hlen:ns.length<=n:=by
  have b:=by
   have b:=(holds_andW k).1;rw[hn]at b;exact b
  have o:=condW_of b (w_not (w_lt w_lit (w_len_list (w_arg rfl))));simp_all
 cases c with
 | cons i g=>
  cases g;cases i with
  | list j f=>exact#[_,_,ns,rfl,rfl,j,wj ns _ f,hlen]
def Nx(l:OpenLaw)(args:List WData):l.row.toRowW.claim.post args (.bool true) args=true:=
 postW_of
  (rfl)
  (w_eq_bool (w_res rfl) w_lit) rfl
def Ef{l:OpenLaw}{n:Nat}{q:Q1}{loose:AT}{p:Qm1}{m:Qmm}{d:DefRec}
  (hn:Qoy) (h:Qms)
  (call:∀(w:World) (ff b:Qr) (mg mb:BN) (c:Addr) (o:Obj) (pm cd doc:Value) (a:Addr) (vs:B0) (ns:BA),
   Ground q loose [] p w ff mg mb b.heap->m w b.heap →
   b.heap.get? c=some o->o.data=.func (docDef d.name d.params d.body d.scope pm cd doc)->b.heap.CodeRec cd d.name->mg d.name=some (.ref c) →
   b.heap.get? a=some {cls:=.type "list",data:=.seq vs.toArray}->IntsAre vs ns->ns.length<=n->b.gens=#[] →
   codeAny (model l.prog w) callerA (.call (.ref c) #[[.ref a],[]]) (λr s'=>r=.ok (.ret (.bool true))/\OldK b.heap s'.heap/\s'.os=b.os/\AllBare s'.gens) b) :
  WalkO q loose p m l.row.toRowW d [] Qlb:=by
 intro w ff b mg mb G Y c o pm cd doc dV kV u hd iA k g x args vals as A j s e v;obtain rfl:dV=.none:=Dflts.none k h;obtain rfl:kV=.none:=Dflts.noKw k;obtain⟨a,vs,ns,rfl,rfl,i,hints,hlen⟩:=Nv hn A e;refine enter_call (codeAny_mono (call w ff b mg mb c o pm cd doc a vs ns G Y u (fd_plain hd) iA g i hints hlen x) λr s' t=>?_);obtain⟨rfl,h2,z,y⟩:=t;exact#[.inl #[ _,_,[],rfl,λ_=>rfl,.bool true,Nx l _,λ_=>#[List.Pairwise.nil,λ_ hm=>(nomatch hm)]],h2,z,y]
noncomputable def ledger(h:Heap)(L d:Addr):At:=(List.range h.objs.size).filterMap λa=>if a=L\/a=d then none else(h.get? a).map λo=>(a,o)
end Att
namespace L2
open PySem PySem.Spec PyProof.Rows
theorem A8:∀{vs:B0} {ns:BA},IntsAre vs ns->Vals Qdk vs
 | _,_,.nil=>.nil
 | _,_,.cons n t h=>.cons #[t,rfl] (A8 h)
def o7(H:Hp):Prop:=∀b,H b=none\/∃o xs,H b=some (.dJ o Qbv)
variable{P:Q1}{w:World}{a:Addr}{x:Str}
theorem Rq{K:Frag}{mg mb:BN}{CX:Nm}{k:Nat}{B:Addr}{fd:QaK}{sp:Sp}{c:Qr}{vs:B0}{ns:BA}
  (N:K.In c.heap) (i:c.heap.Ns mainGlobals mg) (hb:c.heap.Ns builtinsNs mb) (t:∀x:Str,x≠"__name__"->mb x=bootBuiltins x) (E:c.heap.NoLimit) (W:c.gens=#[])
  (y:c.heap.get? a=some {cls:=.type "list",data:=.seq vs.toArray}) (hi:IntsAre vs ns) (J:QwD) (U:dX k callerA)
  (F:∀base:Heap,K.In base->base.Ns mainGlobals mg->e9 P w K mg base CX k B fd [x] sp) (G:∀(s:Qr) (u:Value),BindsTo s fd #[[u],[]] [(x,u)])
  (Z:∀H:Hp,o7 H->jX K H a Qdk->sp [.ref a] H QlU λ_ _ _=>False)
  (A:∀H e s',CX [] H c Ql6 e s'->False) :
  codeAny QcH callerA Qrt QpW c:=by
 have I:=A8 hi;have D:=hi.length;have core:∀H:Hp,o7 H->jX K H a Qdk->oz P w H c.heap->(∀b,H b≠none->b=a)->(H a≠none->K.lookup a=none) →
   codeAny QcH callerA Qrt QpW c:=by
  intro H L X bZ hA hK;have M:∀{b:Addr} {o:Obj},c.heap.get? b=some o->H b=none->(BP c.heap H).get? b=some o:=λe n=>QM e n;have l:∀{b:Addr} {o:Obj} {es:QgI} {ep:Nat},c.heap.get? b=some o->o.data=.dict es ep->H b=none:=λ{b o es ep} e d=>by grind
  have f:∀{b:Addr} {m:BN},c.heap.Ns b m->(BP c.heap H).Ns b m:=λ{b m} ⟨o,es,ep,e,d,r⟩=>#[o,es,ep,M e (l e d),d,r];have j:K.In QnZ:=λb o e=>M (N b o e) WE;have Y:Mod K mg QnZ:=#[j,f i,#[mb,f hb,t],let ⟨T,h1,h2⟩:=E;#[T,f h1,h2]];have e0:Ht P w K mg QnZ callerA [] c H:=#[rfl,Y,λb o e=>XA e,Nat.le_of_eq (M4 _ _),trivial,λb hb=>absurd (show b∈([]:BY) from hb) W2,bZ,.of_eq W];refine oI ((F _ j (f i)).run callerA [] c H #[[.ref a],[]] [.ref a] [.ref a] _ _ U e0 (G c Qab) (.cons rfl .nil) (Z H L X)) λr s' h=>?_;cases r with
  | error e=>exact(A H e s' h).elim
  | ok fl=>
   cases fl with
   | next=>exact False.elim h
   | brk=>exact False.elim h
   | cont=>exact False.elim h
   | ret u=>
    obtain⟨v,H',os,bare,un,C,R,q⟩:=h;have q':v=.bl true:=q;subst q';obtain rfl:u=Value.bool true:=R;refine#[rfl,OldK.of_keep λb o e=>?_,os,bare];cases q:H b with
    | none=>exact un.keep b o e q (by intro z;exact absurd (show b∈([]:BY) from z) W2) W2
    | some u=>
     obtain z|⟨S,xs,z⟩:=L b
     .rw[q]at z;cases z
     .have O:=un.dF b S _ z;obtain⟨e1,_⟩:=bZ b _ z;obtain⟨e2,_⟩:=C b _ O;rw[e]at e1;cases e1;exact e2
 cases p:K.lookup a with
 | some o=>
  have e:=N a o p;rw[y]at e;cases e;refine core (λ_=>none) (λ_=>.inl rfl) (.inr #[_,vs.toArray,_,p,rfl,rfl,rfl,by rw[List.size_toArray,D];exact J,by simpa using I]) (λb u z=>by have g:(none:Option HO)=some u:=z;cases g) (λb z=>absurd rfl z) λz=>absurd rfl z
 | none=>
  refine core (λb=>if b=a then some (.dJ {cls:=.type "list",data:=.seq vs.toArray} (.lst Qdk)) else none) (λb=>?_) (.inl (.inr #[{cls:=.type "list",data:=.seq vs.toArray},dU rfl])) (λb u z=>?_) (λb z=>?_) λ_=>p
  .by_cases hb:b=a
   .exact .inr #[_,_,dU hb]
   .exact .inl (cq hb)
  .by_cases hb:b=a
   .have g:=(dU hb).symm.trans z;cases g;subst hb;exact#[y,by rw[eu];exact J,vs,_,I,y]
   .have g:=(cq hb).symm.trans z;cases g
  .by_cases hb:b=a
   .exact hb
   .exact absurd (cq hb) z
def X9{l:Qnl}{n k:Nat}{q:Q1}{loose:AT}{J:Qm1}{y:Qmm}{d:DefRec}{K:Params->Frag}{CX:World->Nm}{sp:World->Sp}
  (hn:Qoy) (j:n<=sizeLine) (p:Qms) (A:dX k callerA)
  (C:∀(w:World) (h:Heap),y w h->(K w.params).In h)
  (F:∀(w:World) (mg:BN) (i:Addr) (h:Heap),(K w.params).In h->h.Ns mainGlobals mg->mg d.name=some (.ref i) →
   ∃fd:FuncData,(∀(s:Qr) (u:Value),BindsTo s fd #[[u],[]] [(x,u)]) ∧
    ∀base:Heap,(K w.params).In base->base.Ns mainGlobals mg->e9 l.prog w QfY mg base (CX w) k i fd [x] (sp w))
  (L:∀(w:World) (H:Hp) (a:Addr) (ns:BA),ns.length<=n->o7 H->jX QfY H a Qdk->sp w [.ref a] H QlU λ_ _ _=>False)
  (r:∀(w:World) (H:Hp) (s:Qr) (e:Value) (s':Qr),CX w [] H s Ql6 e s'->False) :
  PySem.W.WalkO q loose J y l.row.toRowW d [] Qlb:=by
 refine Att.Ef hn p λw ff c mg mb i o pm cd doc a vs ns G Y M hd iA m t hints hlen B=>?_;have z:=C w _ Y;obtain⟨fd,hb,I⟩:=F w mg i _ z G.T.g m;exact Rq z G.T.g G.T.b G.T.builtins G.T.nolimit B t hints (fg hlen j) A I hb (λH E D=>L w H a ns hlen E D) λH e s'=>r w H c e s'
noncomputable def inClass(s:Stmt)(j:Nat):Stmt:=match s with
 | .ClassDef _ _ _ body _ _ _ _ _ _ _=>body.getD j Qs9
 | _=>.Pass #[0,0,0,0]
noncomputable def gP(s:Stmt):Arguments:=match s with
 | .FunctionDef _ a _ _ _ _ _ _ _ _=>a
 | _=>{posonlyargs:=[],args:=[],vararg:=none,kwonlyargs:=[],kw_defaults:=[],kwarg:=none,defaults:=[]}
noncomputable def bW(s:Stmt):CI:=match s with
 | .FunctionDef _ _ b _ _ _ _ _ _ _=>b
 | _=>[]
noncomputable def aE(s:Stmt):Scope:=match s with
 | .FunctionDef _ _ _ _ _ _ sc _ _ _=>sc
 | _=>{kind:=.function,names:=[],isGenerator:=false,isCoroutine:=false}
abbrev uE:Nm:=λ_ _ _ _ _ _=>False
abbrev E0:XK:=λ_ _ _=>False
variable{X:Cx}
def Eg:Passes uE X E0:=λ_ _ _ _ _ _ _ h=>h.elim
structure Qz(K:Frag)(x qual:Str)(st:Stmt)(f:Addr)(fd:QaK):Prop where
 ex:∃(dV oc:Value) (od:Bi) (kV doc pm:Value) (an:Bi) (eS ct:Value) (Ed:Cc),
  fd=fnOf x qual (gP st) Qbb Qas dV kV doc pm an eS ct/\K.lookup f=some #[oc,od,.func fd,Ed]/\codeIn K eS qual=true
 kp:keepIn K Qar=true
variable{K:Frag}
theorem Qz.binds{qual:Str}{st:Stmt}{f:Addr}{fd:QaK}{ps:AT}(F:QdS)(hd:fd.defaults=.none)
  (h:∀(kV doc pm:Value) (an:Bi) (eS ct:Value) (us:B0),us.length=ps.length->bindArgs Qfl #[us,[]]=pure QcG):Binds K fd ps []:=by
 obtain⟨dV,oc,od,kV,doc,pm,an,eS,ct,Ed,rfl,lk,iA⟩:=F.ex;cases (show dV=.none from hd);exact .all (h kV doc pm an eS ct)
def Rr{qual:Str}{st:Stmt}{f:Addr}{oc:Value}{od an:Bi}{Ed:Cc}{kV doc pm eS ct:Value}(l:Qre)
  (c:Qmy) (k:Qit):Qz K x qual st f Qfl:=#[#[.none,oc,od,kV,doc,pm,an,eS,ct,Ed,rfl,l,c],k]
def bR{n:Nat}(h:n<=1000):n<sizeLine:=oC h Wp
def Hz{A B:Prop}(h:B):if false=true then A else B:=‹_›
def HB{A B:Prop}(h:A):if true=true then A else B:=‹_›
def aA(H H':Hp):Prop:=∀b o,H b=some o->H' b=some o
theorem aA.refl(H:Hp):aA H H:=λ_ _ h=>h
variable{H:Hp}
theorem aA.trans{H1 H2:Hp}(a:aA H H1)(b:aA H1 H2):aA H H2:=λc o h=>b c o (a c o h)
variable{H':Hp}
theorem aA.free(e:QbY){l:Addr}(h:H' l=Option.none):H l=Option.none:=by
 cases q:H l with
 | none=>rfl
 | some o=>
  rw[e l o q]at h;cases h
theorem aA.seq{xs:BS}(e:QbY)(h:jX K H a xs):jX K H' a xs:=by
 rcases h with(h|⟨o,h⟩)|h
 .exact .inl (.inl QdA)
 .exact .inl QtR
 .exact .inr h
section
variable{κ:Type}[DecidableEq κ]
def jo(aO:QbG)(k:κ):Option V:=(aO.find? λa=>decide Qgj).map (·.2)
noncomputable def putK(aO:QbG)(k:κ)(v:V):List (κ×V):=
 if Qfu=true then aO.map QpU else aO++[(k,v)]
def oJ{p:κ×V}{r:QbG}{k:κ}(e:p.1=k):jo (p::r) k=some p.2:=by simp[jo,mB,e]
def lV{p:κ×V}{r:QbG}{k:κ}(e:¬ p.1=k):jo (p::r) k=jo r k:=by simp[jo,mB,e]
theorem Eh(k:κ):∀aO:List (κ×V),Qfu=(jo aO k).isSome
 | []=>rfl
 | p::r=>by
  rw[lx];by_cases e:p.1=k
  .simp only[oJ e,e6 e,Bool.true_or,Option.isSome_some]
  .rw[lV e,fw e,Bool.false_or];exact Eh k r
theorem oK(aO:QbG)(k:κ)(v:V):(putK aO k v).length<=aO.length+1:=by
 unfold putK;split
 .rw[eu];lia
 .rw[eP,gv,List.length_nil];lia
theorem v7.lW{o:QgJ}{u:Dx}(r:v7 o u):o.isSome=u.isSome:=by
 cases o with
 | none=>cases u with
  | none=>rfl
  | some _=>exact(show False from r).elim
 | some _=>cases u with
  | none=>exact(show False from r).elim
  | some _=>rfl
theorem KV.val{aO:QbG}{vs:Qe6}(r:QdQ)(k:κ):v7 Qpd (valueAt vs k):=by
 unfold KV at r
 induction r with
 | nil=>exact True.intro
 | @cons p q ps qs h t c=>
  obtain⟨h1,h2⟩:=h;by_cases e:p.1=k
  .have a:q.1=k:=h1.symm.trans e;have b:valueAt Qj1 k=some q.2:=by simp[valueAt,mB,a]
   rw[oJ e,b];exact h2
  .have a:¬ q.1=k:=λz=>e QmU;have b:valueAt Qj1 k=valueAt qs k:=by simp[valueAt,mB,a]
   rw[lV e,b];exact c
theorem KV.any{aO:QbG}{vs:Qe6}(r:QdQ)(k:κ):Qfu=vs.any λa=>decide Qgj:=by
 unfold KV at r
 induction r with
 | nil=>rfl
 | cons h t b=>rw[lx,lx,b,h.1]
theorem KV.ke{aO:QbG}{vs:Qe6}(r:QdQ)(k:κ){y:V}{u:Value}(b:Qbl) :
  KV Qqp (vs.map λa=>if a.1=k then(a.1,u) else a):=by
 unfold KV at r ⊢
 induction r with
 | nil=>exact .nil
 | @cons p q ps qs h t c=>
  rw[e4,e4];refine .cons ?_ c;obtain⟨h1,h2⟩:=h;by_cases e:p.1=k
  .rw[dU e,dU QvH];exact#[h1,b]
  .rw[cq e,cq Qx5];exact#[h1,h2]
theorem KV.put{aO:QbG}{vs:Qe6}(r:QdQ)(k:κ){y:V}{u:Value}(a:Qbl):KV (putK aO k y) (stored vs k u):=by
 unfold putK stored;rw[r.any k];by_cases e:(vs.any λb=>decide (b.1=k))=true
 .rw[dU e,dU e];exact r.ke k a
 .rw[cq e,cq e];exact Paired.snoc r #[rfl,a]
theorem KV.length{aO:QbG}{vs:Qe6}(r:QdQ):aO.length=vs.length:=Paired.length r
end
variable{u:Value}
theorem A9{k:Key}(r:RelV (kV k) u):(fu P w).is k u=true:=by
 cases k with
 | inl i=>obtain⟨t,e⟩:=(show ∃t,u=Value.int i t from r);subst e;exact D5 P w i t
 | inr x=>obtain⟨t,e⟩:=(show ∃t,u=Value.str x t from r);subst e;exact D6 P w x t
theorem Ba{P:Q1}{w:World}:∀{ks:EN} {us:B0},Vals QuN us->ItemsAre QcI ks us
 | [],_,r=>by rw[List.map_nil]at r;cases r;exact .nil
 | k::ks,_,r=>by
  rw[e4]at r;cases r with
  | cons h t=>exact .cons (A9 h) (Ba t)
abbrev KT(H:Hp):B2->List QfC->Prop:=Paired λp q=>p.1=q.1/\H q.2.1=some QvB/\RelV p.2 q.2.2
variable{aO:B2}{xs:List QfC}
theorem KT.val(r:Qj7)(k:EN):v7 Qpd ((atKey xs k).map (·.2)):=by
 induction r with
 | nil=>exact True.intro
 | @cons p q ps qs h t c=>
  obtain⟨h1,_,h2⟩:=h;by_cases e:p.1=k
  .have a:q.1=k:=h1.symm.trans e;have b:atKey Qj1 k=some q.2:=by simp[atKey,mB,a]
   rw[oJ e,b];exact h2
  .have a:¬ q.1=k:=λz=>e QmU;have b:atKey Qj1 k=atKey qs k:=by simp[atKey,mB,a]
   rw[lV e,b];exact c
variable{y:V}
theorem KT.ke(r:Qj7)(k:EN)(b:Qbl) :
  KT H Qqp (xs.map (putAt k u)):=by
 induction r with
 | nil=>exact .nil
 | @cons p q ps qs h t c=>
  rw[e4,e4];refine .cons ?_ c;obtain⟨h1,h2,d⟩:=h;unfold putAt;by_cases e:p.1=k
  .rw[dU e,dU QvH];exact#[h1,h2,b]
  .rw[cq e,cq Qx5];exact#[h1,h2,d]
theorem KT.put(r:Qj7)(k:EN){b:Addr}(hb:H b=some QmO)(a:Qbl) :
  KT H (putK aO k y) (storedH xs k b u):=by
 have e:(aO.any λc=>decide (c.1=k))=(atKey xs k).isSome:=by
  rw[Eh,(r.val k).lW,sv]
 unfold putK storedH;rw[e];by_cases q:(atKey xs k).isSome=true
 .rw[dU q,dU q];exact r.ke k a
 .rw[cq q,cq q];exact Paired.snoc r #[rfl,hb,a]
theorem KT.keeps(r:Qj7)(a:∀b ys,H b=some QjG->H' b=some QjG):KT H' aO xs:=
 Paired.FF r λ_ _ z=>#[z.1,a _ _ z.2.1,z.2.2]
variable{h:Heap}
def L4{u:HO}(ok:Qbc)(e:Rd H a u):fJ P w H h a u:=e.ok ok
def Ei{aO:Cl}(ok:Qbc)(e:Rd H a Qce):aO.length<=sizeLine/\QbO=false/\∃vs,KV aO vs/\h.DictOf QcI a vs:=
 show fJ P w H h a Qce from L4 ok e
def Rt{aO:Cl}(ok:Qbc)(e:Qog):aO.length<=sizeLine/\QbO=false/\∃vs,KV aO vs/\h.DictOf QcI a vs:=Ei ok (.inl e)
def ye{ks:EN}(ok:Qbc)(e:H a=some Qym):(tupleKind QcI).is h ks a:=by
 obtain⟨_,its,r,o,h1,h2,n,b⟩:=(show fJ P w H h a Qym from ok a _ e);exact#[o,its.toArray,n,h1,h2,b,by simpa using Ba r]
def Ej(ok:Qbc)(e:∃en,Rd H a Qjw):aO.length<=sizeLine/\QbO=false ∧
  ∃xs,KT H aO xs/\h.DictOfH Qmw a xs:=by
 obtain⟨z,y,xs,r,o,es,ep,h1,h2,i,g,f⟩:=(show fJ P w H h a (.dT aO e.choose) from L4 ok e.choose_spec);refine#[z,y,xs,r,o,es,ep,h1,h2,i,g,λx b=>?_,f.1];have all:∀{l:B2} {m:List QfC},KT H l m->∀x∈m,(tupleKind QcI).is h x.1 x.2.1:=by
  intro l m q
  induction q with
  | nil=>intro x b;exact nomatch b
  | @cons p q ps qs c t d=>
   intro x b;obtain e|b:=ew.1 b
   .subst e;exact ye ok (by rw[<- c.1];exact c.2.1)
   .exact d x b
 exact all r x b
def agX{en:Nat}(ok:Qbc)(e:H a=some Qjw):aO.length<=sizeLine/\QbO=false ∧
  ∃xs,KT H aO xs/\h.DictOfH Qmw a xs:=Ej ok #[_,.inl e]
def wk(H:Hp)(a:Addr)(y:V)(r:QgJ):Prop:=
 (∃aO k,Rd H a Qce/\y=kV k/\r=jo aO k)\/∃aO k b,(∃en,Rd H a Qjw)/\y=.ref b/\H b=some QmO/\r=jo aO k
def Ru(H:Hp)(a:Addr)(y v:V)(H':Nat->Hp):Prop:=
 (∃aO k,H a=some Qce/\y=kV k/\aO.length<sizeLine/\H'=λ_=>upd H a (.dK Qn0)) ∨
 ∃aO k b,(∃en,H a=some Qjw)/\y=.ref b/\H b=some QmO/\aO.length<sizeLine/\H'=λen=>upd H a (.dT Qn0 en)
theorem wk.k{aO:Cl}{k:Key}(e:Qog):wk H a (kV k) Qpd:=.inl #[aO,k,.inl e,rfl,rfl]
theorem Ru.k{aO:Cl}{k:Key}{v:V}(e:Qog)(b:aO.length<sizeLine):Ru H a (kV k) v (λ_=>upd H a (.dK Qn0)):=.inl #[aO,k,e,rfl,b,rfl]
variable{pins:At}{U:St}{s:Qr}{v:V}{r:Value}{o:QgJ}{A:Qat}{E:BB}
theorem Inv.big(I:QF):sysModules<s.heap.objs.size:=by
 have h:mainGlobals<s.heap.objs.size:=(I.mod.glob.keeps I.bk).lt;exact Nat.lt_trans Wp h
variable{Q:BB}
def Ny(m:Qi5)(I:QF)(g:wk H a y QaU)(j:Qbl)(h:∀c s',Inv X pins U H s'->RelV v c->Q c s') :
  wpAny Qy A (getItem Qab u) Q E s:=by
 obtain⟨aO,k,e,f,l⟩|⟨aO,k,b,e,f,n,l⟩:=g
 .subst f;obtain⟨z,hd,vs,rel,dd⟩:=Ei I.bZ e;obtain⟨c,hw,i⟩:=v7.some_of (v:=v) (o:=valueAt vs k) (by rw[l];exact rel.val k);exact wpAny_getItem_of (A9 j) dd.mapOf hw (h c _ Qdv i)
 .subst f;cases (show u=Value.ref b from j);obtain⟨z,hd,xs,rel,dd⟩:=Ej I.bZ e;obtain⟨c,hw,i⟩:=v7.some_of (v:=v) (o:=(atKey xs k).map (·.2)) (by rw[l];exact rel.val k);obtain⟨p,hp,d⟩:=j1.1 hw;refine wpAny_getItem_heap (w3 m) (ye I.bZ n) dd hp ?_;rw[d];exact h c _ Qdv i
def Se(f:Qi5)(I:QF)(g:Qpe)(d:Qbl)(h:∀s',Inv X pins U H s'->Q (.bool o.isSome) s') :
  wpAny Qy A (compareOp .In u Qab) Q E s:=by
 obtain⟨aO,k,e,c,l⟩|⟨aO,k,b,e,c,i,l⟩:=g
 .subst c;obtain⟨z,hd,vs,rel,dd⟩:=Ei I.bZ e;refine wpAny_in_of (A9 d) hd dd.mapOf ?_;rw[<- (rel.val k).lW,<- l];exact h _ Qdv
 .subst c;cases (show u=Value.ref b from d);obtain⟨z,hd,xs,rel,dd⟩:=Ej I.bZ e;refine wpAny_in_heap (w3 f) (ye I.bZ i) hd dd ?_;have q:=(rel.val k).lW;rw[sv]at q;rw[<- q,<- l];exact h _ Qdv
def Yb(f:Qi5)(I:QF)(g:Qpe)(d:Qbl)(h:∀s',Inv X pins U H s'->Q (.bool (!o.isSome)) s') :
  wpAny Qy A (compareOp .NotIn u Qab) Q E s:=by
 obtain⟨aO,k,e,c,l⟩|⟨aO,k,b,e,c,i,l⟩:=g
 .subst c;obtain⟨z,hd,vs,rel,dd⟩:=Ei I.bZ e;refine wpAny_notIn_of (A9 d) hd dd.mapOf ?_;rw[<- (rel.val k).lW,<- l];exact h _ Qdv
 .subst c;cases (show u=Value.ref b from d);obtain⟨z,hd,xs,rel,dd⟩:=Ej I.bZ e;refine wpAny_notIn_heap (w3 f) (ye I.bZ i) hd dd ?_;have q:=(rel.val k).lW;rw[sv]at q;rw[<- q,<- l];exact h _ Qdv
noncomputable def B6{h':Heap}{t':Nat}{c:HO}(I:QF)(d:ui (H a))(f:Heap.SameBut a s.heap h')(he:∃q,h'.get? a=some q)(new:fJ X.prog X.w (upd H a c) h' a c) :
  Inv X pins U (upd H a c) {s with heap:=h',toks:=t'}:=
 I.write (x:=a) (e:=a) d Qay (λb q hb z=>(f.2 b hb).trans z) he new
def Rw{h':Heap}{aO:Cl}{vs:List (Key×Value)}(z:aO.length<=sizeLine)(hd:QbO=false)(rel:QdQ)(dd:h'.DictOf QcI a vs) :
  fJ P w H' h' a Qce:=#[z,hd,vs,rel,dd]
theorem Nz{H':Nat->Hp}{Q:Qgz}(x:Qi5)(I:QF)(g:Ru H a y v H')(o:Qbl)(p:RelV v r)(h:∀en s',Inv X pins U (H' en) s'->Q () s') :
  wpAny Qy A (setItem Qab u r) Q E s:=by
 obtain⟨aO,k,e,m,l,n⟩|⟨aO,k,b,e,m,t,l,n⟩:=g
 .subst m n;obtain⟨z,hd,vs,rel,dd⟩:=Rt I.bZ e;have hz:vs.length<=sizeLine:=by rw[<- rel.length];exact z
  have j:(putK aO k v).length<=sizeLine:=by have:=oK aO k v;lia
  refine wpAny_setItem_pairs (hsz:=hz) (A9 o) dd λh' f i=>h 0 _ ?_;have he:∃q,h'.get? a=some q:=let ⟨q,_,_,d,_⟩:=f;#[q,d];exact B6 I (by rw[e];exact True.intro) i he (Rw j hd (rel.put k p) f)
 .subst m n;cases (show u=Value.ref b from o);obtain⟨en,e⟩:=e;obtain⟨z,hd,xs,rel,dd⟩:=agX I.bZ e;have hz:xs.length<=sizeLine:=by rw[<- Paired.length rel];exact z
  have j:(putK aO k v).length<=sizeLine:=by have:=oK aO k v;lia
  refine wpAny_setItem_heap (hsz:=hz) (w3 x) (ye I.bZ t) dd λh' f i=>?_;obtain⟨q,es,ep,d,h2,D,C,_,B⟩:=f;refine h ep _ ?_;refine B6 I (by rw[e];exact True.intro) i #[q,d] #[j,hd,_,(rel.put k t p).keeps λc ys ec=>?_,q,es,ep,d,h2,D,C,B,rfl];rw[ay (agi ec e (λz=>nomatch z))];exact ec
def HC(i:Expr):Prop:=∀ov a,subscripted i false ov a=operate [ov,a] (getItem ov a)
def B7{prog:Q1}{env:Env}{value slice:Expr}{pos:Pos}{T id:QaP}
  (k:typeLookup QjE "__getitem__" = pure (some Qep)) (j:HC slice)
  (h:wpAny Qaa A (eval value env) (λo d=>wpAny Qaa A (eval slice env) (λi a=>a.TypeIs o T/\wpAny Qaa A (getItem o i) Q E a) E d) E s) :
  wpAny Qaa A (eval (.Subscript value slice pos) env) Q E s:=by
 refine Subscript_ (hJ h (λo d f=>hJ f (λi a b=>?_) λ_ _ x=>x) λ_ _ x=>x);obtain⟨g,b⟩:=b;unfold subscriptTail;refine eM ?_;rw[getitemInPython_of_ne g.not_modules];refine eM (wpAny_specialOf g k ?_);have fin:wpAny Qaa A (subscripted slice false o i) (λr c=>wpAny Qaa A (letTemporaryGo value o r >>= λ_=>pure r) Q E c) E a:=by
  rw[j o i];exact wpAny_operating (hJ b (λr c e=>eM (wpAny_letTemporaryGo (gL e))) λ_ _ x=>x)
 first
  | exact gL (eM fin)
  | exact eM (gL (eM fin))
  | exact eM fin
def Ek(I:QF)(g:Qpe):s.TypeIs Qab "dict":=by
 obtain⟨aO,k,e,_,_⟩|⟨aO,k,b,e,_,_,_⟩:=g
 .obtain⟨_,_,vs,_,dd⟩:=Ei I.bZ e;exact dd.typeIs
 .obtain⟨_,_,xs,_,dd⟩:=Ej I.bZ e;exact dd.typeIs
noncomputable def agY(td ty:TE):TE:=λU H Q=>td U H λx H1=>ty U H1 λy H2=>∃a v,x=.ref a/\wk H2 a y QaU/\Q v H2
noncomputable def Sa(ty td:TE):TE:=λU H Q=>ty U H λy H1=>td U H1 λx H2=>∃a o,x=.ref a/\wk H2 a y o/\Q (.bl o.isSome) H2
noncomputable def Yd(ty td:TE):TE:=λU H Q=>ty U H λy H1=>td U H1 λx H2=>∃a o,x=.ref a/\wk H2 a y o/\Q (.bl (!o.isSome)) H2
noncomputable def agZ(td ty tv:TE):TS:=λD U H=>tv U H λv H1=>td U H1 λx H2=>ty U H2 λy c=>∃a b,x=.ref a/\Ru c a y v b/\∀en,D.nx U (b en)
variable{o i value:Expr}{pos pos':Pos}{td ty tv:TE}
def Ye(j:QiI)(l:Qj8)(hi:QdT)(k:HC i):PE X Ql8 (agY td ty):=by
 intro pins s U H Q I h;refine B7 zp.lookup k (cS (l pins s U H _ I h) λu s1 zz=>?_);obtain⟨x,H1,p,d,f⟩:=zz;refine cS (hi pins s1 U H1 _ p f) λr s2 zz=>?_;obtain⟨y,H2,b,c,a,v,ex,g,e⟩:=zz;subst ex;obtain rfl:u=Value.ref a:=d;exact#[Ek b g,Ny j b g c λq s3 n m=>#[v,H2,n,m,e]]
def ads(f:QiI)(hi:QdT)(j:Qj8):PC X .In i o (Sa ty td):=by
 intro pins s U H Q I h;refine cS Qee λn s1 zz=>?_;obtain⟨y,H1,m,b,e⟩:=zz;refine cS Qt8 λu s2 zz=>?_;obtain⟨x,H2,l,c,a,ov,ex,g,d⟩:=zz;subst ex;obtain rfl:u=Value.ref a:=c;exact Se f l g b λs3 k=>#[.bl ov.isSome,H2,k,rfl,d]
def NB(f:QiI)(hi:QdT)(j:Qj8):PC X .NotIn i o (Yd ty td):=by
 intro pins s U H Q I h;refine cS Qee λn s1 zz=>?_;obtain⟨y,H1,m,b,e⟩:=zz;refine cS Qt8 λu s2 zz=>?_;obtain⟨x,H2,l,c,a,ov,ex,g,d⟩:=zz;subst ex;obtain rfl:u=Value.ref a:=c;exact Yb f l g b λs3 k=>#[.bl (!ov.isSome),H2,k,rfl,d]
def Yg(k:QiI)(m:Qj8)(hi:QdT)(hv:PE X value tv)(l:swapsWith value (some (.Subscript o i pos')) pos.line X.env=pure false) :
  PS X (.Assign [.Subscript o i pos'] value pos) (agZ td ty tv):=by
 intro pins s U H D I h;refine wpAny_Assign_Subscript (cS Qus λr s1 zz=>?_) l;obtain⟨v,H1,t,d,j⟩:=zz;refine cS (m pins s1 U H1 _ t j) λu s2 zz=>?_;obtain⟨x,H2,q,c,f⟩:=zz;refine cS (hi pins s2 U H2 _ q f) λz s3 zz=>?_;obtain⟨y,B,p,b,a,w,ex,g,e⟩:=zz;subst ex;obtain rfl:u=Value.ref a:=c;exact Nz k p g b d λen s4 n=>#[U,w en,n,e en]
noncomputable def Rx(h:Heap)(hb:sysModules<h.objs.size):fJ P w H (h.push {cls:=.type "dict",data:=.dict #[]}) h.objs.size (.dK []):=
 #[fv _,mv.2 (hV (hG hb)),[],.nil,Heap.DictOf.new h]
def adt:TE:=λ_ H Q=>∀p,H p=none->Q Qbw Qil
def Ry:PE X Qwg adt:=λpins s U H Q I h=>
 wpAny_Dict_empty #[.ref s.heap.objs.size,_,I.laid (a:=s.heap.objs.size) (o:=.dK []) (t':=s.toks) Quu (eA _) (Rx s.heap I.big),rfl,h _ Qc7]
end L2
namespace L3
open PySem PySem.Spec PyProof.Rows L2
inductive D where
 | non|bl (b:Bool)|int (i:Int)|str (x:Str)
 | tup (ds:List D)|lst (ds:List D)|ins (c:Str) (fs:List (Str×D))|jq (aO:List (Key×D))
 | dct (aO:List (EN×D))
 | any
 | val (v:V)
 | DU (w:World) (ds es:List D)
abbrev _root_.BC:=List D
abbrev _root_.CO:=List (Key×D)
inductive T where
 | sh (d:D)|tup (ts:List T)|lst (ts:List T)|ins (c:Str) (fs:List (Str×T))|jq (aO:CO)|dct (aO:List (EN×T))
 | pin (x:Addr) (t:T)
 | DU (w:World) (ds es:BC)
abbrev _root_.B1:=List (Str×T)
abbrev _root_.Bz:=List T
abbrev _root_.Cf:=List (EN×T)
abbrev _root_.Db:=List (EN×D)
abbrev _root_.ET:=List (Str×D)
mutual
def T.dJ:T->D
 | .sh d=>d
 | .tup ts=>.tup (dF ts)
 | .lst ts=>.lst (dF ts)
 | .ins c fs=>.ins c (wm fs)
 | .jq aO=>.jq aO
 | .dct aO=>.dct (Ey aO)
 | .pin _ t=>t.dJ
 | .DU w ds es=>.DU w ds es
def T.dF:Bz->BC
 | []=>[]
 | t::ts=>t.dJ::T.dF ts
def T.wm:B1->ET
 | []=>[]
 | (x,t)::fs=>(x,t.dJ)::T.wm fs
def T.Ey:Cf->Db
 | []=>[]
 | (x,t)::fs=>(x,t.dJ)::T.Ey fs
end
mutual
def D.Xm(w:World):D->Int
 | .int i=>hashInt i
 | .str x => hashStr w x
 | .tup ds=>reduceHash (Builtin.Tuple.tupleHashOf (D.Li w ds))
 | _=>0
def D.Li(w:World):BC->BA
 | []=>[]
 | d::ds=>d.Xm w::D.Li w ds
end
def N0(w:World)(a:Addr)(ds:BC)(vs us:BS)(h:Heap):Prop:=
 QbO=false/\∃(xs:List (D×Addr×Value)) (o:Obj) (es:QgI) (ep:Nat),h.get? a=some o/\o.ExactDict/\o.data=.dict es ep/\es.toList=xs.map (λx=>#[x.1.Xm w,.ref x.2.1,x.2.2])/\xs.map (·.1)=ds/\xs.map (λx=>V.ref x.2.1)=vs/\Vals us (xs.map λx=>x.2.2)
abbrev _root_.BM:=Str->Addr
variable(K:Frag)(CL:BM)
mutual
inductive bO(Z:Hp):D->V->Prop where
 | non:bO Z .non .non
 | bl (b:Bool):bO Z QdJ QdJ
 | int (i:Int):bO Z Qa5 Qa5
 | str (x:Str):bO Z Qax Qax
 | any (v:V):bO Z .any v
 | val (v:V):bO Z (.val v) v
 | tup {a:Addr} {vs:BS} {ds:BC}:lS K Z a vs->aF Z ds vs->bO Z QcJ Qab
 | lst {a:Addr} {vs:BS} {ds:BC}:jX K Z a vs->aF Z ds vs->bO Z QbC Qab
 | ins {a dx:Addr} {c:Str} {gs:CA} {fs:ET}:Z a=some QfI->sO Z fs gs->bO Z QeF Qab
 | jq {a:Addr} {gs:Cl} {fs:CO}:Z a=some Qgm->b6 Z fs gs->bO Z (.jq fs) Qab
 | dct {a:Addr} {gs:B2} {fs:Db} {en:Nat}:Rd Z a Qoz->nW Z fs gs->bO Z (.dct fs) Qab
 | DU {a:Addr} {w:World} {vs us:BS} {ds es:BC}:Z a=some Qtz->aF Z ds vs->aF Z es us->bO Z (.DU w ds es) Qab
inductive aF(Z:Hp):BC->BS->Prop where
 | nil:aF Z [] []
 | cons {d:D} {v:V} {ds:BC} {vs:BS}:bO Z d v->aF Z ds vs->aF Z (d::ds) QaS
inductive sO(Z:Hp):ET->CA->Prop where
 | nil:sO Z [] []
 | cons {x:Str} {d:D} {v:V} {ds:ET} {vs:CA}:bO Z d v->sO Z ds vs->sO Z ((x,d)::ds) ((x,v)::vs)
inductive b6(Z:Hp):CO->Cl->Prop where
 | nil:b6 Z [] []
 | cons {x:Key} {d:D} {v:V} {ds:CO} {vs:Cl}:bO Z d v->b6 Z ds vs->b6 Z ((x,d)::ds) ((x,v)::vs)
inductive nW(Z:Hp):Db->B2->Prop where
 | nil:nW Z [] []
 | cons {x:EN} {d:D} {v:V} {ds:Db} {vs:B2}:bO Z d v->nW Z ds vs->nW Z ((x,d)::ds) ((x,v)::vs)
end
mutual
inductive bJ(H Z:Hp):T->V->BY->Prop where
 | sh {d:D} {v:V}:bO K CL Z d v->bJ H Z Qhz v []
 | tup {a:Addr} {vs:BS} {ts:Bz} {fp:BY}:Z a=some (.tup vs)->aQ H Z ts vs fp->bJ H Z (.tup ts) Qab fp
 | lst {a:Addr} {vs:BS} {ts:Bz} {fp:BY}:H a=some (.lst vs)->aQ H Z ts vs fp->bJ H Z (.lst ts) Qab (a::fp)
 | ins {a dx:Addr} {c:Str} {gs:CA} {fs:B1} {fp:BY}:H a=some QfI->cL H Z fs gs fp->bJ H Z QeF Qab (a::fp)
 | jq {a:Addr} {gs:Cl} {aO:CO}:H a=some Qgm->b6 K CL Z aO gs->bJ H Z Qne Qab [a]
 | dct {a:Addr} {gs:B2} {aO:Cf} {fp:BY} {en:Nat}:H a=some Qoz->eX H Z aO gs fp->bJ H Z (.dct aO) Qab (a::fp)
 | pin {x:Addr} {t:T} {fp:BY}:bJ H Z t Qdy fp->bJ H Z (.pin x t) Qdy fp
 | DU {a:Addr} {w:World} {vs us:BS} {ds es:BC}:H a=some Qtz->aF K CL Z ds vs->aF K CL Z es us->bJ H Z (.DU w ds es) Qab [a]
inductive aQ(H Z:Hp):Bz->BS->BY->Prop where
 | nil:aQ H Z [] [] []
 | cons {t:T} {v:V} {ts:Bz} {vs:BS} {fp gp:BY}:bJ H Z t v fp->aQ H Z ts vs gp->aQ H Z QbX QaS QdG
inductive cL(H Z:Hp):B1->CA->BY->Prop where
 | nil:cL H Z [] [] []
 | cons {x:Str} {t:T} {v:V} {ts:B1} {vs:CA} {fp gp:BY}:bJ H Z t v fp->cL H Z ts vs gp->cL H Z ((x,t)::ts) ((x,v)::vs) QdG
inductive eX(H Z:Hp):Cf->B2->BY->Prop where
 | nil:eX H Z [] [] []
 | cons {x:EN} {t:T} {v:V} {ts:Cf} {vs:B2} {fp gp:BY}:bJ H Z t v fp->eX H Z ts vs gp->eX H Z ((x,t)::ts) ((x,v)::vs) QdG
end
abbrev _root_.Ap:=List (Option T)
inductive fK(H Z:Hp):Ap->L2.St->BY->Prop where
 | nil:fK H Z [] [] []
 | skip {o:QgJ} {δ:Ap} {U:L2.St} {fp:BY}:fK H Z δ U fp->fK H Z (none::δ) (o::U) fp
 | cons {t:T} {v:V} {δ:Ap} {U:L2.St} {fp gp:BY}:bJ K CL H Z t v fp->fK H Z δ U gp->fK H Z (some t::δ) (some v::U) QdG
variable{K:Frag}{CL:BM}{H H':Hp}{a:Addr}
theorem Rd.mono{u:HO}(e:QbY)(h:Rd H a u):Rd H' a u:=h.imp Qj0 λ⟨o,q⟩=>#[o,e _ _ q]
variable{xs:BS}
theorem aA.KZ(e:QbY)(h:lS K H a xs):lS K H' a xs:=by
 rcases h with(h|⟨o,h⟩)|h
 .exact .inl (.inl QdA)
 .exact .inl QtR
 .exact .inr h
variable{Z:Hp}{vs:BS}
theorem aF.ind{P:BC->BS->Prop}(n:P [] [])(c:∀{d:D} {v:V} {ds:BC} {vs:BS},bO K CL Z d v->aF K CL Z ds vs->P ds vs->P (d::ds) QaS){ds:BC}(h:QiY):P ds vs:=
 aF.rec (motive_1:=λ_ _ _=>True) (motive_3:=λ_ _ _=>True) (motive_4:=λ_ _ _=>True) (motive_5:=λ_ _ _=>True)
  trivial Qa3 Qa3 Qa3 Qa3 Qa3 Qaj Qaj Qaj Qaj Qaj Qlr n Qea trivial QaE trivial QaE trivial QaE h
theorem b6.ind{P:CO->Cl->Prop}(n:P [] [])(c:∀{x:Key} {d:D} {v:V} {ds:CO} {vs:Cl},bO K CL Z d v->b6 K CL Z ds vs->P ds vs->P ((x,d)::ds) ((x,v)::vs)){ds:CO}{vs:Cl}(h:b6 K CL Z ds vs):P ds vs:=
 b6.rec (motive_1:=λ_ _ _=>True) (motive_2:=λ_ _ _=>True) (motive_3:=λ_ _ _=>True) (motive_5:=λ_ _ _=>True)
  trivial Qa3 Qa3 Qa3 Qa3 Qa3 Qaj Qaj Qaj Qaj Qaj Qlr trivial QaE trivial QaE n Qea trivial QaE h
theorem nW.ind{P:Db->B2->Prop}(n:P [] [])(c:∀{x:EN} {d:D} {v:V} {ds:Db} {vs:B2},bO K CL Z d v->nW K CL Z ds vs->P ds vs->P ((x,d)::ds) ((x,v)::vs)){ds:Db}{vs:B2}(h:nW K CL Z ds vs):P ds vs:=
 nW.rec (motive_1:=λ_ _ _=>True) (motive_2:=λ_ _ _=>True) (motive_3:=λ_ _ _=>True) (motive_4:=λ_ _ _=>True) (motive_5:=λd v _=>P d v)
  trivial Qa3 Qa3 Qa3 Qa3 Qa3 Qaj Qaj Qaj Qaj Qaj Qlr trivial QaE trivial QaE trivial QaE n Qea h
variable{ts:Bz}{fp:BY}
theorem aQ.ind{P:Bz->BS->BY->Prop}(n:Qpf)(c:∀{t:T} {v:V} {ts:Bz} {vs:BS} {fp gp:BY},bJ K CL H Z t v fp->aQ K CL H Z ts vs gp->P ts vs gp->P QbX QaS QdG)(h:aQ K CL H Z ts vs fp):P ts vs fp:=
 aQ.rec (motive_1:=λ_ _ _ _=>True) (motive_3:=λ_ _ _ _=>True) (motive_4:=λ_ _ _ _=>True)
  (λ_=>trivial) Qaj Qaj Qaj Qei Qaj Qei Qaj n Qea trivial QaE trivial QaE h
theorem cL.ind{P:B1->CA->BY->Prop}(n:Qpf)(c:∀{x:Str} {t:T} {v:V} {ts:B1} {vs:CA} {fp gp:BY},bJ K CL H Z t v fp->cL K CL H Z ts vs gp->P ts vs gp->P ((x,t)::ts) ((x,v)::vs) QdG){ts:B1}{vs:CA}(h:cL K CL H Z ts vs fp):P ts vs fp:=
 cL.rec (motive_1:=λ_ _ _ _=>True) (motive_2:=λ_ _ _ _=>True) (motive_4:=λ_ _ _ _=>True)
  (λ_=>trivial) Qaj Qaj Qaj Qei Qaj Qei Qaj trivial QaE n Qea trivial QaE h
theorem eX.ind{P:Cf->B2->BY->Prop}(n:Qpf)(c:∀{x:EN} {t:T} {v:V} {ts:Cf} {vs:B2} {fp gp:BY},bJ K CL H Z t v fp->eX K CL H Z ts vs gp->P ts vs gp->P ((x,t)::ts) ((x,v)::vs) QdG){ts:Cf}{vs:B2}(h:eX K CL H Z ts vs fp):P ts vs fp:=
 eX.rec (motive_1:=λ_ _ _ _=>True) (motive_2:=λ_ _ _ _=>True) (motive_3:=λ_ _ _ _=>True)
  (λ_=>trivial) Qaj Qaj Qaj Qei Qaj Qei Qaj trivial QaE trivial QaE n Qea h
variable{Z':Hp}
theorem bO.mono(e:QbZ){d:D}{v:V}(h:QdU):bO K CL Z' d v:=
 bO.rec
  .non .bl .int .str .any .val (λh _ r=>.tup (aA.KZ e h) r) (λh _ r=>.lst (e.seq h) r) (λh _ r=>.ins QdA r) (λh _ r=>.jq QdA r) (λh _ r=>.dct (Rd.mono e h) r) (λh _ _ r q=>.DU QdA r q) .nil QhP .nil QhP .nil QhP .nil QhP h
theorem aF.mono(e:QbZ){d:BC}{v:BS}(h:aF K CL Z d v):aF K CL Z' d v:=aF.ind (P:=λd v=>aF K CL Z' d v) .nil QrD h
theorem b6.mono(e:QbZ){d:CO}{v:Cl}(h:b6 K CL Z d v):b6 K CL Z' d v:=b6.ind (P:=λd v=>b6 K CL Z' d v) .nil QrD h
variable{t:T}
theorem bJ.mono(e:QbZ){v:V}(k:∀a∈fp,H' a=H a)(h:QgK):bJ K CL H' Z' t v fp:=
 bJ.rec (motive_2:=λt v fp _=>(∀a∈fp,H' a=H a)->aQ K CL H' Z' t v fp) (motive_3:=λt v fp _=>(∀a∈fp,H' a=H a)->cL K CL H' Z' t v fp) (motive_4:=λt v fp _=>(∀a∈fp,H' a=H a)->eX K CL H' Z' t v fp)
  (λh _=>.sh (h.mono e)) (λh _ r k=>.tup QdA (r k)) (λh _ r k=>.lst ((k _ eB).trans h) Qd5) (λh _ r k=>.ins ((k _ eB).trans h) Qd5) (λh f k=>.jq ((k _ eB).trans h) (b6.mono e f)) (λh _ r k=>.dct ((k _ eB).trans h) Qd5) (λ_ r k=>.pin (r k)) (λh f g k=>.DU ((k _ eB).trans h) (aF.mono e f) (aF.mono e g)) Qbs Qko Qbs Qko Qbs Qko h k
theorem aQ.mono(e:QbZ){t:Bz}{v:BS}(k:∀a∈fp,H' a=H a)(h:QwE):aQ K CL H' Z' t v fp:=aQ.ind (P:=λt v fp=>(∀a∈fp,H' a=H a)->aQ K CL H' Z' t v fp) Qbs Qkn h k
theorem cL.mono(e:QbZ){t:B1}{v:CA}(k:∀a∈fp,H' a=H a)(h:QwF):cL K CL H' Z' t v fp:=cL.ind (P:=λt v fp=>(∀a∈fp,H' a=H a)->cL K CL H' Z' t v fp) Qbs Qkn h k
theorem eX.mono(e:QbZ){t:Cf}{v:B2}(k:∀a∈fp,H' a=H a)(h:QwG):eX K CL H' Z' t v fp:=eX.ind (P:=λt v fp=>(∀a∈fp,H' a=H a)->eX K CL H' Z' t v fp) Qbs Qkn h k
theorem bJ.there{v:V}(h:QgK):∀a∈fp,∃o,H a=some o:=
 bJ.rec (motive_3:=λt v fp _=>∀a∈fp,∃o,H a=some o) (motive_4:=λt v fp _=>∀a∈fp,∃o,H a=some o)
  (λ_ a b=>absurd b fo) (λ_ _ r=>r) (λh _ r a b=>(ew.1 b).elim (λq=>#[_,q▸h]) (r a)) (λh _ r a b=>(ew.1 b).elim (λq=>#[_,q▸h]) (r a)) (λh _ a b=>(ew.1 b).elim (λq=>#[_,q▸h]) QtA) (λh _ r a b=>(ew.1 b).elim (λq=>#[_,q▸h]) (r a)) (λ_ r=>r) (λh _ _ a b=>(ew.1 b).elim (λq=>#[_,q▸h]) QtA) Qd9 QkE Qd9 QkE Qd9 QkE h
theorem aQ.there{t:Bz}{v:BS}(h:QwE):∀a∈fp,∃o,H a=some o:=aQ.ind (P:=λ_ _ fp=>∀a∈fp,∃o,H a=some o) Qd9 Qky h
theorem cL.there{t:B1}{v:CA}(h:QwF):∀a∈fp,∃o,H a=some o:=cL.ind (P:=λ_ _ fp=>∀a∈fp,∃o,H a=some o) Qd9 Qky h
theorem eX.there{t:Cf}{v:B2}(h:QwG):∀a∈fp,∃o,H a=some o:=eX.ind (P:=λ_ _ fp=>∀a∈fp,∃o,H a=some o) Qd9 Qky h
theorem bJ.dJ(e:QbZ){v:V}(k:∀a∈fp,Z' a=H a)(h:QgK):bO K CL Z' t.dJ v:=
 bJ.rec (motive_2:=λt v fp _=>(∀a∈fp,Z' a=H a)->aF K CL Z' _ v) (motive_3:=λt v fp _=>(∀a∈fp,Z' a=H a)->sO K CL Z' _ v) (motive_4:=λt v fp _=>(∀a∈fp,Z' a=H a)->nW K CL Z' _ v)
  (λh _=>by exact h.mono e) (λh _ r k=>by exact .tup (lS.of QdA) (r k)) (λh _ r k=>by exact .lst (jX.of ((k _ eB).trans h)) Qd5) (λh _ r k=>by exact .ins ((k _ eB).trans h) Qd5) (λh f k=>by exact .jq ((k _ eB).trans h) (b6.mono e f)) (λh _ r k=>by exact .dct (.inl ((k _ eB).trans h)) Qd5) (λ_ r k=>by rw[T.dJ];exact r k) (λh f g k=>by exact .DU ((k _ eB).trans h) (aF.mono e f) (aF.mono e g)) (λ_=>by exact .nil) (λ_ _ h r k=>by rw[T.dF];exact .cons Qkt Qku) (λ_=>by rw[T.wm];exact .nil) (λ_ _ h r k=>by exact .cons Qkt Qku) (λ_=>by exact .nil) (λ_ _ h r k=>by rw[T.Ey];exact .cons Qkt Qku) h k
theorem aF.length{d:BC}{v:BS}(h:aF K CL Z d v):d.length=v.length:=
 aF.ind (P:=λd v=>d.length=v.length) rfl QhG h
theorem aQ.length{d:Bz}{v:BS}(h:aQ K CL H Z d v fp):d.length=v.length:=
 aQ.ind (P:=λd v _=>d.length=v.length) rfl QhG h
theorem fK.length{d:Ap}{v:L2.St}(h:fK K CL H Z d v fp):d.length=v.length:=by
 induction h with
 | nil=>rfl
 | skip _ i=>exact congrArg (· + 1) i
 | cons _ _ i=>exact congrArg (· + 1) i
theorem aF.get{Z:Hp}:∀{ds:BC} {vs:BS} {i:Nat} {d:D},aF K CL Z ds vs->ds[i]? = some d->∃v,vs[i]? = some v/\bO K CL Z d v
 | _,_,_,_,.nil,e=>by simp at e
 | _,_,0,_,.cons r _,e=>by simp_all
 | _,_,i+1,d,.cons _ t,e=>by
  obtain⟨u,h1,h2⟩:=aF.get t (‹_›);exact#[u,‹_›,h2]
theorem aF.Rz{Z:Hp}:∀{ds:BC} {vs:BS} {i:Nat} {v:V},aF K CL Z ds vs->vs[i]? = some v->∃d,ds[i]? = some d/\bO K CL Z d v
 | _,_,_,_,.nil,e=>by simp at e
 | _,_,0,_,.cons r _,e=>by simp_all
 | _,_,i+1,d,.cons _ t,e=>by
  obtain⟨u,h1,h2⟩:=aF.Rz t (‹_›);simp_all
theorem aQ.get{H Z:Hp}:∀{ds:Bz} {vs:BS} {fp:BY} {i:Nat} {d:T},aQ K CL H Z ds vs fp->ds[i]? = some d->∃v gp,vs[i]? = some v/\bJ K CL H Z d v gp/\gp.Sublist fp
 | _,_,_,_,_,.nil,e=>by simp at e
 | _,_,_,0,_,.cons r _,e=>by simp at e;subst e;exact#[_,_,rfl,r,ze _ _]
 | _,_,_,i+1,d,.cons _ t,e=>by
  obtain⟨u,gp,h1,h2,a⟩:=aQ.get (i:=i) (d:=d) t (by simpa using e);exact#[u,gp,by simpa using h1,h2,a.trans (List.sublist_append_right _ _)]
theorem fK.get:∀{δ:Ap} {U:L2.St} {fp:BY} {i:Nat} {t:T},fK K CL H Z δ U fp->δ[i]? = some QaJ →
  ∃v f1 f2 c,U[i]? = some QaU/\fp=f1++(f2++c)/\bJ K CL H Z t v f2 ∧
   (∀{H' Z':Hp} {t':T} {v':V} {g:BY},aA Z Z'->(∀a∈f1++c,H' a=H a)->bJ K CL H' Z' t' v' g->fK K CL H' Z' (δ.set i (some t')) (U.set i (some v')) (f1++(g++c))) ∧
   (∀{o:QgJ},fK K CL H Z (δ.set i none) (U.set i o) (f1++c)):=by
 intro δ U fp i t h;have mono:∀{H H' Z Z':Hp} {δ:Ap} {U:L2.St} {fp:BY},aA Z Z'->(∀a∈fp,H' a=H a)->fK K CL H Z δ U fp->fK K CL H' Z' δ U fp:=by
  intro H H' Z Z' δ U fp e k r
  induction r with
  | nil=>exact .nil
  | skip _ d=>exact .skip (d k)
  | cons r _ d=>exact .cons (r.mono e λa b=>k a (hj _ b)) (d λa b=>k a (fx _ b))
 induction h generalizing i with
 | nil=>intro e;simp at e
 | @skip o δ U fp r d=>
  cases i with
  | zero=>intro e;simp at e
  | succ i=>
   intro e;obtain⟨v,f1,f2,c,h1,h2,m,l,j⟩:=d (i:=i) (by simpa using e);exact#[v,f1,f2,c,by simpa using h1,h2,m,λe k q=>.skip (l e k q),.skip j]
 | @cons t0 v0 δ U fp gp f r d=>
  cases i with
  | zero=>
   intro e;simp at e;subst e;refine#[v0,[],fp,gp,rfl,rfl,f,λ{H' Z' t' v' g} e k q=>fK.cons (fp:=g) (gp:=gp) q (mono (fp:=gp) e (λa b=>k a (by simpa using b)) r),.skip (by simpa using r)]
  | succ i=>
   intro e;obtain⟨v,f1,f2,c,h1,h2,m,l,j⟩:=d (i:=i) (by simpa using e);refine#[v,fp++f1,f2,c,by simpa using h1,by rw[h2,List.append_assoc],m,λ{H' Z' t' v' g} e k q=>?_,λ{o}=>?_]
   .rw[fb];exact .cons (f.mono e λa b=>k a (by simp[b])) (l e (λa b=>k a (by rw[fb];exact fx _ b)) q)
   .rw[fb];exact .cons f j
variable{δ:Ap}{U:L2.St}
theorem fK.mono(e:QbZ)(k:∀a∈fp,H' a=H a)(r:QmF):fK K CL H' Z' δ U fp:=by
 induction r with
 | nil=>exact .nil
 | skip _ b=>exact .skip (b k)
 | cons r _ b=>exact .cons (r.mono e λa c=>k a (hj _ c)) (b λa c=>k a (fx _ c))
theorem fK.there(r:QmF):∀a∈fp,∃o,H a=some o:=by
 induction r with
 | nil=>intro a c;cases c
 | skip _ b=>exact b
 | cons r _ b=>exactλa c=>(eC.1 c).elim (r.there a) (b a)
theorem fK.put(r:QmF){v:V}{g:BY}(q:Qxz) :
  ∀{i:Nat},i<δ.length->∃f,fK K CL H Z (δ.set i QaJ) Qen f/\∃a,a.Sublist fp/\f.Perm (g++a):=by
 induction r with
 | nil=>intro i hi;simp at hi
 | @skip o δ U fp r b=>
  intro i hi;cases i with
  | zero=>exact#[ _,.cons q r,fp,jW _,List.Perm.refl _]
  | succ i=>
   obtain⟨f,h1,a,h2,c⟩:=b (by simpa using hi);exact#[f,.skip h1,a,h2,c]
 | @cons t0 v0 δ U fp gp d r b=>
  intro i hi;cases i with
  | zero=>exact#[ _,.cons q r,gp,tI _ _,List.Perm.refl _]
  | succ i=>
   obtain⟨f,h1,a,h2,c⟩:=b (by simpa using hi);refine#[ _,.cons d h1,_,lA (jW _) h2,?_];refine(ka fp c).trans ?_;rw[<- fb,<- fb];exact List.Perm.append_right a km
section
variable{v:V}
theorem bO.gR{ds:BC}(h:bO K CL Z QbC v):∃a vs,v=.ref a/\jX K Z a vs/\aF K CL Z ds vs:=by cases h with|lst p q=>exact#[_,_,rfl,p,q]
theorem bO.rN{ds:BC}(h:bO K CL Z QcJ v):∃a vs,v=.ref a/\lS K Z a vs/\aF K CL Z ds vs:=by cases h with|tup p q=>exact#[_,_,rfl,p,q]
theorem bO.NC{c:Str}{fs:ET}(h:bO K CL Z QeF v):∃a dx gs,v=.ref a/\Z a=some QfI/\sO K CL Z fs gs:=by cases h with|ins p q=>exact#[_,_,_,rfl,p,q]
theorem bJ.HD{d:D}(h:bJ K CL H Z Qhz v fp):fp=[]/\bO K CL Z d v:=by cases h with|sh r=>exact#[rfl,r]
theorem bJ.gR(h:bJ K CL H Z (.lst ts) v fp):∃a vs g,v=.ref a/\fp=a::g/\H a=some (.lst vs)/\aQ K CL H Z ts vs g:=by cases h with|lst p q=>exact#[_,_,_,rfl,rfl,p,q]
theorem bJ.rN(h:bJ K CL H Z (.tup ts) v fp):∃a vs,v=.ref a/\Z a=some (.tup vs)/\aQ K CL H Z ts vs fp:=by cases h with|tup p q=>exact#[_,_,rfl,p,q]
theorem bJ.NC{c:Str}{fs:B1}(h:bJ K CL H Z QeF v fp):∃a dx gs g,v=.ref a/\fp=a::g/\H a=some QfI/\cL K CL H Z fs gs g:=by cases h with|ins p q=>exact#[_,_,_,_,rfl,rfl,p,q]
theorem bJ.Le{y:Addr}(h:bJ K CL H Z (.pin y t) v fp):v=.ref y/\bJ K CL H Z t (.ref y) fp:=by cases h with|pin r=>exact#[rfl,r]
end
noncomputable def Ag(X:Cx)(e:Expr):TE:=λU H Q=>∀(pins:At) (s:Qr),Inv X pins U H s->wpAny Qy X.A QfL Qa8 X.xe s
noncomputable def Yh(X:Cx)(e:Expr):TT:=λU H Q=>∀(pins:At) (s:Qr),Inv X pins U H s->wpAny Qy X.A QtP Qer X.xe s
noncomputable def Ah(X:Cx)(es:CC):TA:=λU H Q=>∀(pos:Pos) (pins:At) (s:Qr),Inv X pins U H s->wpAny Qy X.A Qsj Qxr X.xe s
noncomputable def RA(X:Cx)(st:Stmt):TS:=λD U H=>∀(pins:At) (s:Qr),Inv X pins U H s->wpAny Qy X.A Qxs Qi8 X.xe s
noncomputable def Yi(X:Cx)(st:CI):TS:=λD U H=>∀(pins:At) (s:Qr),Inv X pins U H s->wpAny Qy X.A Qnd Qi8 X.xe s
variable{X:Cx}{e:Expr}
noncomputable def bX:PE X e (Ag X e):=λpins s _ _ _ I h=>h pins s I
noncomputable def l7:PT X e (Yh X e):=λpins s _ _ _ I h=>h pins s I
def DV{e:CC}:PA X e (Ah X e):=λpos pins s _ _ _ I h=>h pos pins s I
def yY{e:Stmt}:PS X e (RA X e):=λpins s _ _ _ I h=>h pins s I
def RB{e:CI}:Kz X e (Yi X e):=λpins s _ _ _ I h=>h pins s I
noncomputable def bU{t:TE}(h:PE X e t){Q:VK}(q:t U H Q):Ag X e U H Q:=λpins s I=>h pins s U H Q I q
variable{Q:ES}
def sP{t:TT}(h:PT X e t)(q:t U H Q):Yh X e U H Q:=λpins s I=>h pins s U H Q I q
def Ai{e:CC}{t:TA}(h:PA X e t){Q:EO}(q:t U H Q):Ah X e U H Q:=λpos pins s I=>h pos pins s U H Q I q
def mZ{e:Stmt}{t:TS}(h:PS X e t){D:Ends}(q:t D U H):RA X e D U H:=λpins s I=>h pins s U H D I q
noncomputable def RC{e:CI}{t:TS}(h:Kz X e t){D:Ends}(q:t D U H):Yi X e D U H:=λpins s I=>h pins s U H D I q
def notStar:Expr->Bool
 | .Starred _ _=>false
 | _=>true
variable{es:CC}{env:Env}
def aZ(h:Qoh):starEach Qan env=(false,eval e env)::starEach es env:=by
 cases e<;>first|rfl|(cases h)
structure Bx where
 B:Hp
 Z:Hp
def iQ:HO->Bool
 | .tup _=>true
 | .dJ _ _=>true
 | .xd _=>true
 | _=>false
noncomputable def yf(x:Str):Bool:=x.cps[0]? == some 35
def RY(x:Str):Str:=#[x.cps.extract 1 x.cps.size]
def j4(CL:BM)(Z:Hp):Prop:=∀x,yf x=true->CL x≠0->Z (CL x)=some (.tabs (RY x))
structure bP(K:Frag)(CL:BM)(b:Bx)(H Z:Hp)(δ:Ap)(U:L2.St)(ts:Bz)(vs:BS):Prop where
 rep:∃fp gp,fK K CL H Z δ U fp/\aQ K CL H Z ts vs gp/\(fp++gp).Nodup/\∀a∈fp++gp,Z a=none/\b.B a=none
 bh:aA b.B H
 zz:aA b.Z Z
 zh:aA Z H
 new:∀a o,Z a=some o->b.Z a=none->b.B a=none
 tp:∀a o,H a=some o->iQ o=true->Z a=some o
 tab:j4 CL b.Z
section
variable{b:Bx}{v:V}
theorem j4.mono{A B:Hp}(h:j4 CL A)(e:aA A B):j4 CL B:=λx a h0=>e _ _ (h x a h0)
theorem bP.Ee(S:QaQ):j4 CL Z:=S.tab.mono S.zz
theorem bP.NF(S:QaQ):j4 CL H:=S.Ee.mono S.zh
def adw{A B:Hp}(e:aA A B)(h:B a=none):A a=none:=e.free h
theorem aA.upd{p:Addr}{o:HO}(h:QgL):aA H (upd H p o):=λb u e=>ay (bz e h)▸e
theorem bP.view(S:Qb3):bO K CL H t.dJ v:=by
 obtain⟨fp,gp,_,r,_,_⟩:=S.rep;cases r with
 | cons r _=>exact r.dJ S.zh λ_ _=>rfl
theorem bP.pop(S:Qb3):bP K CL b H Z δ U ts vs:=by
 obtain⟨fp,gp,e,r,nd,k⟩:=S.rep;cases r with
 | @cons _ _ _ _ f1 f2 f c=>
  refine#[#[fp,f2,e,c,nd.sublist Qmn,λa d=>k a ?_],S.bh,S.zz,S.zh,S.new,S.tp,S.tab];obtain h|h:=eC.1 d
  .exact hj _ h
  simp_all
theorem bP.push{d:D}(S:QaQ)(r:QdU):bP K CL b H Z δ U (.sh d::ts) QaS:=by
 obtain⟨fp,gp,e,a,nd,k⟩:=S.rep;exact#[#[fp,_,e,.cons QjV a,nd,k],S.bh,S.zz,S.zh,S.new,S.tp,S.tab]
theorem bP.uF(S:Qb3):∃Z',aA Z Z'/\bP K CL b H Z' δ U (.sh t.dJ::ts) QaS:=by
 classical
 obtain⟨fp,gp,e,r,nd,k⟩:=S.rep;cases r with
 | @cons _ _ _ _ f1 f2 l j=>
  have f:=λa c=>k a (fx _ (hj _ c));have sz:aA Z _:=λa o q=>by
   by_cases c:a∈f1
   .rw[(f a c).1]at q;cases q
   .show(if a∈f1 then H a else Z a)=some o;rw[cq c];exact q
  have d:=iw.1 nd;have m:∀a∈fp++f2,a∉f1:=λa c h1=>by
   obtain h|h:=eC.1 c
   .exact d.2.2 a h a (hj _ h1) rfl
   .exact(iw.1 d.2.1).2.2 a h1 a h rfl
  refine#[ _,sz,#[#[fp,[]++f2,e.mono sz Qdi,.cons (.sh (l.dJ sz λa c=>dU c)) (j.mono sz λ_ _=>rfl),?_,λa c=>?_],S.bh,S.zz.trans sz,λa o q=>?_,λa o q z=>?_,λa o q i=>?_,S.tab]]
  .exact nd.sublist Qmn
  .have g:a∈fp++f2:=c;refine#[?_,(k a ?_).2]
   .rw[cq (m a g)];refine(k a ?_).1;obtain h|h:=eC.1 g
    .exact hj _ h
    .exact fx _ (fx _ h)
   simp_all
  .have q':=q;by_cases c:a∈f1
   .rw[dU c]at q';exact q'
   .rw[cq c]at q';exact S.zh a o q'
  .have q':=q;by_cases c:a∈f1
   .exact(f a c).2
   .rw[cq c]at q';exact S.new a o q' z
  .exact sz a o (S.tp a o q i)
theorem bP.K0{i:Nat}(S:QaQ)(hi:δ[i]? = some QaJ):∃v Z',U[i]? = some QaU/\aA Z Z'/\bP K CL b H Z' (δ.set i Qiu) U (.sh t.dJ::ts) QaS:=by
 classical
 obtain⟨fp,gp,e,r,nd,k⟩:=S.rep;obtain⟨v,f1,f2,d,hv,p,rt,put,_⟩:=e.get hi;subst p;have n:∀a∈f2,Z a=none/\b.B a=none:=λa c=>k a (by simp[c]);have sz:aA Z QkD:=λa o q=>by
  by_cases c:a∈f2
  .rw[(n a c).1]at q;cases q
  .show Qhq=some o;rw[cq c];exact q
 have s:∀a∈(f1++d)++gp,a∉f2:=λa c h2=>by
  have hp:(QfX++gp).Perm (f2++((f1++d)++gp)):=by
   rw[<- fb,<- fb];refine(List.perm_append_right_iff gp).2 ?_;rw[<- fb];exact(List.perm_append_right_iff d).2 km
  exact(iw.1 QfD).2.2 a h2 a c rfl
 have m:bO K CL QkD t.dJ v:=rt.dJ sz λa c=>dU c;have f:U.set i QaU=U:=by
  apply kv;intro j;rw[xf];split
  .rename_i h;subst h;split
   .exact hv.symm
   .rename_i h2;rw[v3 Wc]
  .rfl
 have e2:fK K CL H QkD (δ.set i Qiu) U (f1++([]++d)):=by
  have:=put (H':=H) (t':=.sh t.dJ) (v':=v) (g:=[]) sz Qdi (.sh m)
  rwa [f]at this
 refine#[v,λa=>if a∈f2 then H a else Z a,hv,sz,#[#[f1++([]++d),[]++gp,e2,.cons (.sh m) (r.mono sz λ_ _=>rfl),?_,λa c=>?_],S.bh,S.zz.trans sz,λa o q=>?_,λa o q z=>?_,λa o q i=>sz a o (S.tp a o q i),S.tab]]
 .exact nd.sublist (lA Qmn (jW _))
 .have l:a∈(f1++d)++gp:=c;have hm:a∈QfX++gp:=by
   simp only[eC]at l ⊢;rcases l with(h|h)|h
   .exact .inl QdE
   .exact .inl (.inr (.inr h))
   .exact .inr h
  refine#[?_,(k a hm).2];show Qhq=none;rw[cq (s a l)];exact(k a hm).1
 .have q':Qhq=some o:=q;by_cases c:a∈f2
  .rw[dU c]at q';exact q'
  .rw[cq c]at q';exact S.zh a o q'
 .have q':Qhq=some o:=q;by_cases c:a∈f2
  .exact(n a c).2
  .rw[cq c]at q';exact S.new a o q' z
theorem bP.move{i:Nat}(S:QaQ)(hi:δ[i]? = some QaJ):∃v,U[i]? = some QaU/\bP K CL b H Z (δ.set i none) U QbX QaS:=by
 obtain⟨fp,gp,e,r,nd,k⟩:=S.rep;obtain⟨v,f1,f2,c,hv,f,rt,_,del⟩:=e.get hi;subst f;have d:U.set i QaU=U:=by
  apply kv;intro j;rw[xf];split
  .rename_i h;subst h;split
   .exact hv.symm
   simp_all
  .rfl
 have hp:((f1++(f2++c))++gp).Perm ((f1++c)++(f2++gp)):=by
  have h1:(f2++c).Perm _:=km;have h2:=(ka f1 h1).append_right gp;simp_all
 refine#[v,hv,#[#[ _,_,?_,.cons rt r,hp.nodup_iff.1 nd,λa g=>k a (hp.mem_iff.2 g)],S.bh,S.zz,S.zh,S.new,S.tp,S.tab]];have:=del (o:=some v)
 rwa [d]at this
theorem bP.look{i:Nat}(S:QaQ)(hi:δ[i]? = some QaJ):∃v,U[i]? = some QaU/\bO K CL H t.dJ v:=by
 obtain⟨fp,gp,e,r,nd,k⟩:=S.rep;obtain⟨v,f1,f2,c,hv,a,rt,_,_⟩:=e.get hi;exact#[v,hv,rt.dJ S.zh λ_ _=>rfl]
theorem bP.RD{i:Nat}{d:D}(S:QaQ)(hi:δ[i]? = some Qca):∃v,U[i]? = some QaU/\bO K CL Z d v:=by
 obtain⟨fp,gp,e,r,nd,k⟩:=S.rep;obtain⟨v,f1,f2,c,hv,a,rt,_,_⟩:=e.get hi;obtain⟨rfl,h⟩:=rt.HD;exact#[v,hv,h]
theorem bP.set{i:Nat}(S:Qb3)(hi:i<δ.length):bP K CL b H Z (δ.set i QaJ) Qen ts vs:=by
 obtain⟨fp,gp,e,r,nd,k⟩:=S.rep;cases r with
 | @cons _ _ _ _ f1 f2 h g=>
  obtain⟨f,h1,c,h2,l⟩:=e.put h hi;have hp:(f++f2).Perm (c++(f1++f2)):=by
   refine(l.append_right f2).trans ?_;rw[<- fb];exact km.append_right f2
  have d:(c++(f1++f2)).Sublist _:=lA h2 (jW _);exact#[#[f,f2,h1,g,hp.nodup_iff.2 (nd.sublist d),λa j=>k a (d.subset (hp.mem_iff.1 j))],S.bh,S.zz,S.zh,S.new,S.tp,S.tab]
end
mutual
def D.iV:D->Bool
 | .tup ds=>D.bC ds
 | .lst _=>false
 | .ins _ _=>false
 | .jq _=>false
 | .dct _=>false
 | .any=>false
 | .DU _ _ _=>false
 | _=>true
def D.bC:BC->Bool
 | []=>true
 | d::ds=>d.iV&&D.bC ds
end
mutual
def T.clean:T->Bool
 | .sh d=>d.iV
 | .tup ts=>T.cA ts
 | .lst ts=>T.cA ts
 | .ins _ fs=>T.cC fs
 | .jq aO=>D.bC (aO.map (·.2))
 | .dct aO=>T.B8 aO
 | .pin _ t=>t.clean
 | .DU _ _ _=>false
def T.cA:Bz->Bool
 | []=>true
 | t::ts=>t.clean&&T.cA ts
def T.cC:B1->Bool
 | []=>true
 | (_,t)::ts=>t.clean&&T.cC ts
def T.B8:Cf->Bool
 | []=>true
 | (_,t)::ts=>t.clean&&T.B8 ts
end
def bG(X:Cx)(CL:BM)(b:Bx)(e:Expr)(δ:Ap)(t:T)(δ':Ap):Prop:=
 ∀(H Z:Hp) (U:L2.St) (ts:Bz) (vs:BS) (Q:VK),bP X.K CL b H Z δ U ts vs->(∀v H' Z',aA Z Z'->aA H H'->bP X.K CL b H' Z' δ' U QbX QaS->Q v H')->Ag X e U H Q
def b5(X:Cx)(CL:BM)(b:Bx)(e:Expr)(δ:Ap)(d:D)(δ':Ap):Prop:=
 ∀(H Z:Hp) (U:L2.St) (ts:Bz) (vs:BS) (Q:VK),bP X.K CL b H Z δ U ts vs->(∀v H' Z',aA Z Z'->aA H H'->bP X.K CL b H' Z' δ' U ts vs->bO X.K CL H' d v->Q v H')->Ag X e U H Q
def m5(X:Cx)(CL:BM)(b:Bx)(e:Expr)(δ:Ap)(p:Bool)(δ':Ap):Prop:=
 ∀(H Z:Hp) (U:L2.St) (ts:Bz) (vs:BS) (Q:ES),bP X.K CL b H Z δ U ts vs->(∀H' Z',aA Z Z'->aA H H'->bP X.K CL b H' Z' δ' U ts vs->Q p H')->Yh X e U H Q
def Bb(X:Cx)(CL:BM)(b:Bx)(es:CC)(δ:Ap)(tl:Bz)(δ':Ap):Prop:=
 ∀(H Z:Hp) (U:L2.St) (ts:Bz) (vs:BS) (Q:EO),bP X.K CL b H Z δ U ts vs →
  (∀us H' Z',us.length=tl.length->aA Z Z'->aA H H'->bP X.K CL b H' Z' δ' U QlO QfF->Q us H')->Ah X es U H Q
def GZ(X:Cx)(CL:BM)(b:Bx)(es:CC)(δ:Ap)(ds:BC)(δ':Ap):Prop:=
 ∀(H Z:Hp) (U:L2.St) (ts:Bz) (vs:BS) (Q:EO),bP X.K CL b H Z δ U ts vs →
  (∀us H' Z',aA Z Z'->aA H H'->bP X.K CL b H' Z' δ' U ts vs->aF X.K CL H' ds us->Q us H')->Ah X es U H Q
structure cM where
 nx:Ap->Prop
 rt:T->Ap->Prop
 bk:Ap->Prop:=λ_=>False
 ct:Ap->Prop:=λ_=>False
structure Meets(K:Frag)(CL:BM)(b:Bx)(Z:Hp)(ts:Bz)(vs:BS)(D:cM)(E:Ends):Prop where
 nx:∀δ' U' H' Z',aA Z Z'->bP K CL b H' Z' δ' U' ts vs->D.nx δ'->E.nx U' H'
 rt:∀t v H' Z' δ' U',aA Z Z'->bP K CL b H' Z' δ' U' QbX QaS->D.rt t δ'->E.rt v H'
 bk:∀δ' U' H' Z',aA Z Z'->bP K CL b H' Z' δ' U' ts vs->D.bk δ'->E.bk U' H'
 ct:∀δ' U' H' Z',aA Z Z'->bP K CL b H' Z' δ' U' ts vs->D.ct δ'->E.ct U' H'
def RH(X:Cx)(CL:BM)(b:Bx)(st:Stmt)(δ:Ap)(D:cM):Prop:=
 ∀(H Z:Hp) (U:L2.St) (ts:Bz) (vs:BS) (E:Ends),bP X.K CL b H Z δ U ts vs->Meets X.K CL b Z ts vs D E->RA X st E U H
def cK(X:Cx)(CL:BM)(b:Bx)(st:CI)(δ:Ap)(D:cM):Prop:=
 ∀(H Z:Hp) (U:L2.St) (ts:Bz) (vs:BS) (E:Ends),bP X.K CL b H Z δ U ts vs->Meets X.K CL b Z ts vs D E->Yi X st E U H
section
variable{b:Bx}{v:V}
theorem Meets.mono{D:cM}{E:Ends}(M:Qt9)(e:QbZ):Meets K CL b Z' ts vs D E:=
 #[λ_ _ _ _ s=>M.nx _ _ _ _ Qjp,λ_ _ _ _ _ _ s=>M.rt _ _ _ _ _ _ Qjp,λ_ _ _ _ s=>M.bk _ _ _ _ Qjp,λ_ _ _ _ s=>M.ct _ _ _ _ Qjp]
def Yj(zh:∀a o,H a=some o->iQ o=true->Z a=some o)(h:lS K H a xs):lS K Z a xs:=by
 rcases h with(h|⟨o,h⟩)|h
 .exact .inl (.inl (zh _ _ h rfl))
 .exact .inl (.inr #[o,zh _ _ h rfl])
 .exact .inr h
theorem bO.iV(zh:∀a o,H a=some o->iQ o=true->Z a=some o){d:D}(k:d.iV=true)(h:bO K CL H d v):bO K CL Z d v:=
 bO.rec (motive_2:=λd v _=>D.bC d=true->aF K CL Z d v) (motive_3:=λd v _=>True) (motive_4:=λd v _=>True) (motive_5:=λd v _=>True)
  (λ_=>.non) (λb _=>.bl b) (λb _=>.int b) (λb _=>.str b) (λ_ k=>by cases k) (λb _=>.val b) (λh _ r k=>.tup (Yj zh h) (r (‹_›))) (λ_ _ _ k=>by cases k) (λ_ _ _ k=>by cases k) (λ_ _ _ k=>by cases k) (λ_ _ _ k=>by cases k) (λ_ _ _ _ _ k=>by rw[D.iV]at k;cases k) Qbs (λ_ _ h r k=>by rw[D.bC,fD]at k;exact .cons Qj2 Qj3) trivial QaE trivial QaE trivial QaE h k
theorem aF.iV(zh:∀a o,H a=some o->iQ o=true->Z a=some o){d:BC}{v:BS}(k:D.bC d=true)(h:aF K CL H d v):aF K CL Z d v:=aF.ind (P:=λd v=>D.bC d=true->aF K CL Z d v) Qbs (λr _ i k=>by rw[D.bC,fD]at k;exact .cons (r.iV zh k.1) (i k.2)) h k
theorem b6.clean{Z1:Hp}(a:∀{d:D} {v:V},d.iV=true->bO K CL Z1 d v->bO K CL Z d v){aO:CO}{gs:Cl}(k:D.bC (aO.map (·.2))=true)(h:b6 K CL Z1 aO gs):b6 K CL Z aO gs:=
 b6.ind (P:=λaO gs=>D.bC (aO.map _)=true->b6 K CL Z aO gs) Qbs (λh _ i k=>by rw[e4,D.bC,fD]at k;exact .cons (a k.1 h) (i k.2)) h k
theorem bJ.clean{Z1:Hp}(zh:∀a xs,Z1 a=some QaV->Z a=some QaV)(b:∀{d:D} {v:V},d.iV=true->bO K CL Z1 d v->bO K CL Z d v)(k:t.clean=true)(h:bJ K CL H Z1 t v fp):bJ K CL H Z t v fp:=
 bJ.rec (motive_2:=λt v fp _=>T.cA t=true->aQ K CL H Z t v fp) (motive_3:=λt v fp _=>T.cC t=true->cL K CL H Z t v fp) (motive_4:=λt v fp _=>T.B8 t=true->eX K CL H Z t v fp)
  (λh k=>.sh (b (‹_›) h)) (λh _ r k=>.tup (zh _ _ h) (r (‹_›))) (λh _ r k=>.lst h (r (‹_›))) (λh _ r k=>.ins h (r (‹_›))) (λh f k=>.jq h (b6.clean b (‹_›) f)) (λh _ r k=>.dct h (r (‹_›))) (λ_ r k=>.pin (r (‹_›))) (λ_ _ _ k=>by rw[T.clean]at k;cases k) Qbs (λ_ _ h r k=>by rw[T.cA,fD]at k;exact .cons Qj2 Qj3) Qbs (λ_ _ h r k=>by rw[T.cC,fD]at k;exact .cons Qj2 Qj3) Qbs (λ_ _ h r k=>by rw[T.B8,fD]at k;exact .cons Qj2 Qj3) h k
theorem bP.back{W W':Hp}(S:QaQ)(p:QbY)(s:aA Z W)(ww:aA W W')(m:aA W' H')(new:∀a o,W' a=some o->W a=none->H a=none)
  (tp:∀a o,H' a=some o->iQ o=true->W' a=some o) (r:bJ K CL H' W' t v fp) (nd:fp.Nodup) (own:∀a∈fp,W' a=none/\H a=none) (c:W=Z\/t.clean=true) :
  ∃Z',aA Z Z'/\bP K CL b H' Z' δ U QbX QaS:=by
 classical
 let Z':Hp:=λa=>if (H a).isSome=true then Z a else W' a
 have zs:∀{a:Addr} {o:HO},H a=some o->Z' a=Z a:=λ{a o} e=>by
  show QqF=Z a;rw[dU (by rw[e];rfl)]
 have zn:∀{a:Addr},H a=none->Z' a=W' a:=λ{a} e=>by
  show QqF=W' a;rw[cq (by rw[e];simp)]
 have sz:aA Z Z':=λa o q=>by rw[zs (S.zh a o q)];exact q
 have l:∀a o,Z' a=some o->W' a=some o:=λa o q=>by
  cases e:H a with
  | none=>rw[zn e]at q;exact q
  | some u=>rw[zs e]at q;exact ww a o (s a o q)
 have g:∀a o,H' a=some o->iQ o=true->Z' a=some o:=λa o q i=>by
  cases e:H a with
  | none=>rw[zn e];exact tp a o q i
  | some u=>
   rw[zs e];have:=p a u e;rw[q]at this;cases this;exact S.tp a o e i
 have x:bJ K CL H' Z' t v fp:=by
  obtain c|c:=c
  .have:Z'=W':=by
    funext a;cases e:H a with
    | none=>exact zn e
    | some u=>
     rw[zs e];cases q:W' a with
     | none=>
      cases j:Z a with
      | none=>rfl
      | some o=>rw[ww a o (s a o j)]at q;cases q
     | some o=>
      cases j:W a with
      | none=>rw[new a o q j]at e;cases e
      | some y=>
       have:=ww a y j;rw[q]at this;cases this;rw[<- c];exact j
   rw[this];exact r
  .refine bJ.clean (λa xs h=>?_) (λ{d v} k h=>?_) c r
   .exact g a _ (m a _ h) rfl
   .exact bO.iV (H:=H') g k (h.mono m)
 obtain⟨f0,g0,e0,w,n,k0⟩:=S.rep;have old:∀a∈f0++g0,∃o,H a=some o:=λa f=>(eC.1 f).elim (e0.there a) (w.there a);have keep:∀a∈f0++g0,H' a=H a:=λa f=>by
  obtain⟨o,e⟩:=old a f;rw[e];exact p a o e
 refine#[Z',sz,#[#[f0,fp++g0,e0.mono sz (λa f=>keep a (hj _ f)),.cons x (w.mono sz λa f=>keep a (fx _ f)),?_,λa f=>?_],S.bh.trans p,S.zz.trans sz,λa o q=>m a o (l a o q),λa o q z=>?_,g,S.tab]]
 .have hp:(f0++(fp++g0)).Perm (fp++(f0++g0)):=by
   rw[<- fb,<- fb];exact km.append_right g0
  refine hp.nodup_iff.2 (iw.2 #[nd,n,λa f c A e=>?_]);subst e;obtain⟨o,q⟩:=old a A;rw[(own a f).2]at q;cases q
 .have:a∈f0++g0\/a∈fp:=by
   simp only[eC]at f ⊢;obtain h|h|h:=f
   .exact .inl QdE
   .exact .inr h
   .exact .inl (.inr h)
  obtain h|h:=this
  .obtain⟨o,q⟩:=old a h;exact#[by rw[zs q];exact(k0 a h).1,(k0 a h).2]
  .exact#[by rw[zn (own a h).2];exact(own a h).1,S.bh.free (own a h).2]
 .cases e:H a with
  | none=>exact S.bh.free e
  | some u=>rw[zs e]at q;exact S.new a o q z
end
section
variable{b:Bx}{δ1 δ2:Ap}{e1 e2:Expr}{pos:Pos}{d d1 d2:D}
noncomputable def LU(h:Qaw):b5 X CL b e δ t.dJ δ1:=λH Z U ts vs Q S k=>h H Z U ts vs Q S λv H' Z' z s a=>k v H' Z' z s a.pop a.view
def ak(h:Qlv):b5 X CL b e δ d δ1:=by have:=LU h;rwa [T.dJ]at this
noncomputable def aB(h:Qe9)(i:d.iV=true):bG X CL b e δ (.sh d) δ1:=λH Z U ts vs Q S k=>h H Z U ts vs Q S λv H' Z' z s a r=>k v H' Z' z s (a.push (bO.iV a.tp i r))
def yg(h:Qaw):bG X CL b e δ (.sh t.dJ) δ1:=λH Z U ts vs Q S k=>h H Z U ts vs Q S λv H' Z' z s d=>by
 obtain⟨Z2,a,c⟩:=d.uF;exact k v H' Z2 (z.trans a) s c
def uG{i:Int}{j:Nat}:bG X CL b QlC δ (.sh Qa5) δ:=λH Z U ts vs Q S k=>bU acH (k _ _ Z QA QA (S.push Qa5))
def gy{i:Bool}{j:Nat}:bG X CL b (.Constant (.bool i) j pos) δ (.sh (.bl i)) δ:=λH Z U ts vs Q S k=>bU agn (k _ _ Z QA QA (S.push (.bl i)))
def RJ{j:Nat}:bG X CL b QtQ δ (.sh .non) δ:=λH Z U ts vs Q S k=>bU acI (k _ _ Z QA QA (S.push .non))
def bQ{x:Str}{j:Nat}:bG X CL b QlI δ (.sh Qax) δ:=λH Z U ts vs Q S k=>bU acJ (k _ _ Z QA QA (S.push Qax))
section
variable{x:Str}(i:Nat)(hi:X.N[i]? = some x:=by rfl)(hv:Qnt:=by first|exact Or.inl rfl|exact Or.inr (Or.inl rfl)|exact Or.inr (Or.inr rfl))(hd:AD x:=by decide)(iA:AE x:=by decide)
include hi hv hd iA
def ady(h:δ[i]? = some Qca:=by rfl):bG X CL b QaA δ (.sh d) δ:=λH Z U ts vs Q S k=>by
 obtain⟨v,e,r⟩:=S.RD h;exact bU QfP #[v,e,k v H Z QA QA (S.push r)]
def Yk(h:δ[i]? = some QaJ:=by rfl):bG X CL b QaA δ (.sh t.dJ) (δ.set i Qiu):=λH Z U ts vs Q S k=>by
 obtain⟨v,Z',e,z,a⟩:=S.K0 h;exact bU QfP #[v,e,k v H Z' z QA a]
def Yl(h:δ[i]? = some QaJ:=by rfl):bG X CL b QaA δ t (δ.set i none):=λH Z U ts vs Q S k=>by
 obtain⟨v,e,a⟩:=S.move h;exact bU QfP #[v,e,k v H Z QA QA a]
def adz(h:δ[i]? = some QaJ:=by rfl):b5 X CL b QaA δ t.dJ δ:=λH Z U ts vs Q S k=>by
 obtain⟨v,e,r⟩:=S.look h;exact bU QfP #[v,e,k v H Z QA QA S r]
end
noncomputable def Ym:D->Option V
 | .non=>some .non
 | .bl b=>some QdJ
 | .int i=>some Qa5
 | .str x => some Qax
 | _=>none
theorem bO.sc{d:D}{v w:V}(r:QdU)(h:Ym d=some w):v=w:=by
 cases r<;>first|(exact fO h)|(cases h)
def Yn{d:D}{w:V}(h:Ym d=some w):bO K CL Z d w:=by
 cases d<;>first|(cases h;constructor)|(cases h)
def oM{op:Qj6}{r:R2}{c a w:V}(j:QvE)(h1:QgM)(h2:QgN)(s1:Ym d1=some c)(s2:Ym d2=some a)(s3:Ym d=some w)
  (i:∀(H:Hp) (Q:VK),Q w H->r c a H Q):bG X CL b (.BinOp e1 op e2 pos) δ (.sh d) δ2:=λH Z U ts vs Q S k=>by
 refine bU (A3 j bX bX) (h1 H Z U ts vs _ S λv1 H1 Z1 f k1 m h=>h2 H1 Z1 U ts vs _ m λv2 H2 Z2 e k2 l g=>?_);rw[h.sc s1,g.sc s2];exact i H2 Q (k w H2 Z2 (f.trans e) Qaf (l.push (Yn s3)))
def cW{i j:Int}(h1:Qbf)(h2:Qbp):bG X CL b Qc4 δ (.sh (.int (i+j))) δ2:=oM ac2 h1 h2 rfl rfl rfl λ_ _ q=>#[i,j,rfl,rfl,q]
def j5{i j:Int}(h1:Qbf)(h2:Qbp):bG X CL b (.BinOp e1 .Sub e2 pos) δ (.sh (.int (i-j))) δ2:=oM ac3 h1 h2 rfl rfl rfl λ_ _ q=>#[i,j,rfl,rfl,q]
def m7{i j:Int}(h1:Qbf)(h2:Qbp)(c:XM i j):bG X CL b QtB δ (.sh (.int (i*j))) δ2:=oM ac4 h1 h2 rfl rfl rfl λ_ _ q=>#[i,j,rfl,rfl,c,q]
def bK{i j:Int}(h1:Qbf)(h2:Qbp)(c:0<j):bG X CL b (.BinOp e1 .Mod e2 pos) δ (.sh (.int (i % j))) δ2:=oM ac5 h1 h2 rfl rfl rfl λ_ _ q=>#[i,j,rfl,rfl,c,q]
def dG{i j:Int}(h1:Qbf)(h2:Qbp)(c:KY i j):bG X CL b (.BinOp e1 .FloorDiv e2 pos) δ (.sh (.int (i / j))) δ2:=oM XO h1 h2 rfl rfl rfl λ_ _ q=>#[i,j,rfl,rfl,c,q]
def B9{i j:Int}(h1:Qbf)(h2:Qbp)(c:KU i j):bG X CL b (.BinOp e1 .Pow e2 pos) δ (.sh (.int (i ^ j.toNat))) δ2:=oM ac6 h1 h2 rfl rfl rfl λ_ _ q=>#[i,j,rfl,rfl,c,q]
def fB{x y:Str}(h1:Qc0)(h2:b5 X CL b e2 δ1 (.str y) δ2)(c:x.length+y.length<=sizeLine):bG X CL b Qc4 δ (.sh (.str (x++y))) δ2:=oM Hl h1 h2 rfl rfl rfl λ_ _ q=>#[x,y,rfl,rfl,c,q]
def qO{op:CmpOp}{r:R2}{p:Bool}{i h:V}(l:QgC)(h1:QgM)(h2:QgN)(s1:Ym d1=some i)(s2:Ym d2=some h)
  (j:∀(H:Hp) (Q:VK),Q (.bl p) H->r i h H Q) (hm:QuO):m5 X CL b QhE δ p δ2/\bG X CL b QhE δ (.sh (.bl p)) δ2:=by
 constructor
 .intro H Z U ts vs Q S k;refine sP (p8 l bX bX hm) (h1 H Z U ts vs _ S λv1 H1 Z1 c k1 g e=>h2 H1 Z1 U ts vs _ g λv2 H2 Z2 a k2 f d=>?_);rw[e.sc s1,d.sc s2];exact j H2 _ #[p,rfl,k H2 Z2 Qdq Qaf f]
 .intro H Z U ts vs Q S k;refine bU (p7 l bX bX hm) (h1 H Z U ts vs _ S λv1 H1 Z1 c k1 g e=>h2 H1 Z1 U ts vs _ g λv2 H2 Z2 a k2 f d=>?_);rw[e.sc s1,d.sc s2];exact j H2 _ (k _ H2 Z2 Qdq Qaf (f.push (.bl p)))
def ag3{c a:V}(h1:QgM)(h2:QgN)(s1:Ym d1=some c)(s2:Ym d2=some a)(sc:FK c a=true) :
  m5 X CL b Qco δ (decide (c=a)) δ2/\bG X CL b Qco δ (.sh (.bl (decide (c=a)))) δ2:=qO QZ h1 h2 s1 s2 (λ_ _ q=>#[sc,q]) (mX _)
theorem bH{i j:Int}(h1:Qbf)(h2:Qbp):m5 X CL b Qco δ (decide (i=j)) δ2/\bG X CL b Qco δ (.sh QuP) δ2:=
 qO QZ h1 h2 rfl rfl (λ_ _ q=>#[rfl,by simp_all ]) (mX _)
theorem iC{i j:Int}(h1:Qbf)(h2:Qbp):m5 X CL b Qht δ (!decide (i=j)) δ2/\bG X CL b Qht δ (.sh Qu6) δ2:=
 qO Md h1 h2 rfl rfl (λ_ _ q=>#[rfl,by simp_all ]) (mX _)
theorem bV{i j:Str}(h1:QhA)(h2:Qhx):m5 X CL b Qco δ (decide (i=j)) δ2/\bG X CL b Qco δ (.sh QuP) δ2:=
 qO QZ h1 h2 rfl rfl (λ_ _ q=>#[rfl,by simp_all ]) (mX _)
theorem uH{i j:Str}(h1:QhA)(h2:Qhx):m5 X CL b Qht δ (!decide (i=j)) δ2/\bG X CL b Qht δ (.sh Qu6) δ2:=
 qO Md h1 h2 rfl rfl (λ_ _ q=>#[rfl,by simp_all ]) (mX _)
def El{i j:Int}(h1:Qbf)(h2:Qbp):m5 X CL b QsW δ (decide (i<j)) δ2/\bG X CL b QsW δ (.sh (.bl (decide (i<j)))) δ2:=qO KL h1 h2 rfl rfl Qfr (mX _)
def ag4{i j:Int}(h1:Qbf)(h2:Qbp):m5 X CL b QsF δ (decide (i<=j)) δ2/\bG X CL b QsF δ (.sh (.bl (decide (i<=j)))) δ2:=qO KN h1 h2 rfl rfl Qfr (mX _)
def qP{i j:Int}(h1:Qbf)(h2:Qbp):m5 X CL b QsX δ (decide (j<i)) δ2/\bG X CL b QsX δ (.sh (.bl (decide (j<i)))) δ2:=qO agG h1 h2 rfl rfl Qfr (mX _)
end
theorem aQ.split:∀{as bs:Bz} {us ws:BS} {gp:BY},as.length=us.length->aQ K CL H Z (as++bs) QjR gp->∃g1 g2,gp=g1++g2/\aQ K CL H Z as us g1/\aQ K CL H Z bs ws g2
 | [],_,[],_,gp,_,r=>#[[],gp,rfl,.nil,r]
 | [],_,_::_,_,_,h,_=>by simp at h
 | _::_,_,[],_,_,h,_=>by simp at h
 | a::as,bs,u::us,ws,gp,h,r=>by
  cases r with
  | @cons _ _ _ _ f1 f2 c b=>
   obtain⟨g1,g2,e,h1,h2⟩:=aQ.split WA b;exact#[ _,g2,WA,.cons c h1,h2]
variable{us:BS}
theorem aQ.app{as bs:Bz}{ws:BS}{g1 g2:BY}(h:aQ K CL H Z as us g1)(q:aQ K CL H Z bs ws g2):aQ K CL H Z (as++bs) QjR QjS:=
 aQ.ind (P:=λas us g1=>aQ K CL H Z (as++bs) QjR QjS) q (λr _ i=>by rw[fb];exact .cons r i) h
theorem aQ.rev:∀{as:Bz} {us:BS} {g:BY},aQ K CL H Z as.reverse us.reverse g->∃g',aQ K CL H Z as us g'/\g'.Perm g
 | [],[],g,r=>by grind
 | [],u::us,g,r=>by have:=r.length;simp at this
 | a::as,[],g,r=>by have:=r.length;simp at this
 | a::as,u::us,g,r=>by
  rw[q5,q5]at r;have i:=r.length;obtain⟨g1,g2,e,c,b⟩:=aQ.split WA r;subst e;obtain⟨g',d,p⟩:=aQ.rev c;cases b with
  | @cons _ _ _ _ f1 f2 h f=>
   cases f;refine#[ _,.cons h d,?_];rw[ft];exact(ka f1 p).trans km
theorem aQ.Pd{ds:BC}:aF K CL Z ds us->aQ K CL H Z Qby us []:=
 aF.ind (P:=λds us=>aQ K CL H Z Qby us []) .nil λr _ i=>.cons QjV i
theorem aQ.toF:∀{ds:BC} {us:BS} {g:BY},aQ K CL H Z Qby us g->aF K CL Z ds us/\g=[]
 | [],_,_,r=>by
  have a:=r;cases a;exact#[.nil,rfl]
 | d::ds,_,_,r=>by
  have a:=r;cases a with
  | cons c b=>
   obtain⟨rfl,h⟩:=c.HD;obtain⟨q,e⟩:=aQ.toF b;exact#[.cons h q,‹_› ]
theorem fS:∀(ds:BC),T.dF Qby=ds
 | []=>rfl
 | d::ds=>by rw[e4,T.dF,fS ds,T.dJ]
variable{b:Bx}{tl:Bz}{p:Addr}
theorem bP.rO(S:Qsc)(n:QmG)(hp:QgL) :
  aA Z Qpz/\aA H QpA/\bP K CL b QpA Qpz δ U (.tup tl::ts) QoA:=by
 obtain⟨fp,gp,e,r,nd,k⟩:=S.rep;obtain⟨g1,g2,m,j,g⟩:=aQ.split WE r;subst m;obtain⟨g',l,pm⟩:=j.rev;have f:=S.zh.free hp;have sz:aA Z Qpz:=aA.upd f;have sh:aA H QpA:=aA.upd hp;have keep:∀a∈fp++QjS,a≠p:=λa c=>by
  have:∃o,H a=some o:=by
   obtain h|h:=eC.1 c
   .exact e.there a h
   .exact r.there a h
  obtain⟨o,q⟩:=this;exact bz q hp
 have d:=(pm.append_right g2).append_left fp;have kk:=λa c=>keep a QiC;refine#[sz,sh,#[#[fp,_,e.mono sz QkY,.cons (.tup aM (l.mono sz λa c=>ay (kk a (by simp[c])))) (g.mono sz λa c=>ay (keep a (by simp[c]))),d.nodup_iff.2 nd,λa c=>?_],S.bh.trans sh,S.zz.trans sz,λa o q=>?_,λa o q z=>?_,λa o q i=>?_,S.tab]]
 .exact#[ ay (kk a c)▸(k a QiC).1,(k a QiC).2]
 .by_cases c:a=p
  .subst c;rw[aM]at q ⊢;exact q
  .rw[ay c]at q ⊢;exact S.zh a o q
 .by_cases c:a=p
  .subst c;exact S.bh.free hp
  .rw[ay c]at q;exact S.new a o q z
 .by_cases c:a=p
  .subst c;rw[aM]at q ⊢;exact q
  .rw[ay c]at q ⊢;exact S.tp a o q i
theorem bP.rP{g0:BY}(S:Qsc)(s:QmG)(hp:QgL) :
  aA H Qnf/\bP K CL b Qnf Z δ U (.lst tl::ts) QoA:=by
 obtain⟨fp,gp,e,r,nd,k⟩:=S.rep;obtain⟨g1,g2,n,l,j⟩:=aQ.split WE r;subst n;obtain⟨g',m,pm⟩:=l.rev;have g:=S.zh.free hp;have sh:aA H Qnf:=aA.upd hp;have keep:∀a∈fp++QjS,a≠p:=λa c=>by
  have:∃o,H a=some o:=by
   obtain h|h:=eC.1 c
   .exact e.there a h
   .exact r.there a h
  obtain⟨o,q⟩:=this;exact bz q hp
 have d:=(pm.append_right g2).append_left fp;have kk:=λa c=>keep a QiC;have f:(fp++((p::g')++g2)).Perm (p::(fp++(g'++g2))):=by simp
 refine#[sh,#[#[fp,_,e.mono QA QkY,.cons (.lst aM (m.mono QA λa c=>ay (kk a (by simp[c])))) (j.mono QA λa c=>ay (keep a (by simp[c]))),?_,λa c=>?_],S.bh.trans sh,S.zz,S.zh.trans sh,S.new,λa o q i=>?_,S.tab]]
 .refine f.nodup_iff.2 (iq.2 #[λh=>kk p h rfl,d.nodup_iff.2 nd])
 .obtain h|h:=ew.1 (f.mem_iff.1 c)
  .subst h;exact#[g,S.bh.free hp]
  .exact k a (d.mem_iff.1 h)
 .by_cases c:a=p
  .subst c;rw[aM]at q;cases q;cases i
  .rw[ay c]at q;exact S.tp a o q i
section
variable{δ1 δ2:Ap}{e1 e2:Expr}{p q:Bool}{pos:Pos}{d:D}{ds:BC}
def cj:Bb X CL b [] δ [] δ:=λH Z U ts vs Q S k=>Ai cT (k [] H Z rfl QA QA S)
theorem bF(h1:Qaw)(h2:Bb X CL b es δ1 tl δ2)(d:Qaz:=by exact aZ rfl):Bb X CL b Qan δ (t::tl) δ2:=λH Z U ts vs Q S k=>
 Ai (bE bX DV d) (h1 H Z U ts vs _ S λv H1 Z1 c k1 g=>h2 H1 Z1 U _ _ _ g λus H2 Z2 f a k2 h=>k _ H2 Z2 (by simp[f]) Qdq Qaf WA)
def ao:GZ X CL b [] δ [] δ:=λH Z U ts vs Q S k=>Ai cT (k [] H Z QA QA S .nil)
def ah(h1:Qe9)(h2:Quv)(h:Qaz:=by exact aZ rfl):GZ X CL b Qan δ (d::ds) δ2:=λH Z U ts vs Q S k=>
 Ai (bE bX DV h) (h1 H Z U ts vs _ S λv H1 Z1 c k1 j g=>h2 H1 Z1 U _ _ _ j λus H2 Z2 a k2 i f=>k _ H2 Z2 Qdq Qaf i Quw)
def HF{j:Nat}(h:QlZ)(f:Qim):bG X CL b Qiy δ (.tup tl) δ1:=λH Z U ts vs Q S k=>
 bU (Ra DV) (h H Z U ts vs _ S λus H1 Z1 d e k1 i=>#[ d▸f,λp hp=>by
  obtain⟨a,c,g⟩:=i.rO d hp;exact k _ _ _ (e.trans a) QfZ g])
theorem aV{j:Nat}(h:QkZ)(a:QaR):bG X CL b Qiy δ (.sh QcJ) δ1:=by
 have:=yg (HF (pos:=pos) (j:=j) h WA)
 rwa [T.dJ,fS]at this
def cQ(h:QlZ)(e:Qim):bG X CL b Qi0 δ (.lst tl) δ1:=λH Z U ts vs Q S k=>
 bU (adb DV) (h H Z U ts vs _ S λus H1 Z1 a d k1 g=>#[ a▸e,λp hp=>by
  obtain⟨c,f⟩:=g.rP (g0:=[]) a hp;exact k _ _ _ d QfZ f])
def fh(h:Qk3)(he:∀whole,isTrue e X.env whole=(do let v ← whole;standAt e.pos;holding [v] Qf8):=by intro _;rfl):m5 X CL b e δ p δ1:=λH Z U ts vs Q S k=>
 sP (acK bX he) (h H Z U ts vs _ S λv H1 Z1 c k1 a=>#[p,by have:=a.view;exact this.sc rfl,k H1 Z1 c k1 a.pop])
def dO(h:Qck):m5 X CL b (.UnaryOp .Not e pos) δ (!p) δ1:=λH Z U ts vs Q S k=>sP (acN l7) Qh6
noncomputable def FA(X:Cx)(e:Expr):TT:=λU H Q=>∀(whole:Sem Value) (pins:At) (s:Qr),Inv X pins U H s->wpAny Qy X.A Qt3 Qer X.xe s
def Hd:PW X e (FA X e):=λwhole pins s _ _ _ I h=>h _ pins s I
def oT(X:Cx)(CL:BM)(b:Bx)(e:Expr)(δ:Ap)(p:Bool)(δ':Ap):Prop:=
 ∀(H Z:Hp) (U:L2.St) (ts:Bz) (vs:BS) (Q:ES),bP X.K CL b H Z δ U ts vs->(∀H' Z',aA Z Z'->aA H H'->bP X.K CL b H' Z' δ' U ts vs->Q p H')->FA X e U H Q
def Yo{t:TT}(h:PW X e t)(q:t U H Q):FA X e U H Q:=λwhole pins s I=>h _ pins s U H Q I q
noncomputable def iz(h:oT X CL b e δ p δ1):m5 X CL b e δ p δ1:=λH Z U ts vs Q S k pins s I=>h H Z U ts vs Q S k _ pins s I
def iD(h:Qck):oT X CL b (.BoolOp .And [e] pos) δ p δ1:=λH Z U ts vs Q S k=>Yo (XF l7) Qh6
def lC(h:Qck):oT X CL b (.BoolOp .Or [e] pos) δ p δ1:=λH Z U ts vs Q S k=>Yo (acL l7) Qh6
theorem fC(h:Qck)(h2:p=true->oT X CL b QsY δ1 q δ1):oT X CL b QsZ δ (p&&q) δ1:=λH Z U ts vs Q S k=>
 Yo (acM l7 Hd) (h H Z U ts vs _ S λH1 Z1 a k1 c=>by
  cases p with
  | true=>exact HB Qp9
  | false=>exact Hz QwH)
theorem jr(h:Qck)(h2:p=false->oT X CL b Qta δ1 q δ1):oT X CL b Qtb δ (p || q) δ1:=λH Z U ts vs Q S k=>
 Yo (ago l7 Hd) (h H Z U ts vs _ S λH1 Z1 a k1 c=>by
  cases p with
  | true=>exact HB QwH
  | false=>exact Hz Qp9)
def jD{op:BoolOp}(h:Qaw):bG X CL b (.BoolOp op [e] pos) δ t δ1:=λH Z U ts vs Q S k=>bU (acO bX) Qh6
def jE(h:Qk3)(h2:p=true->bG X CL b QsY δ1 (.sh (.bl q)) δ1):bG X CL b QsZ δ (.sh (.bl (p&&q))) δ1:=λH Z U ts vs Q S k=>
 bU (acP bX bX) (h H Z U ts vs _ S λv H1 Z1 c k1 a=>by
  have hv:=by have:=a.view;exact this.sc rfl
  refine#[p,hv,?_];cases p with
  | true=>exact HB Qp0
  | false=>exact Hz (k _ H1 Z1 c k1 (a.pop.push Qcg)))
def LS(h:Qk3)(h2:p=false->bG X CL b Qta δ1 (.sh (.bl q)) δ1):bG X CL b Qtb δ (.sh (.bl (p || q))) δ1:=λH Z U ts vs Q S k=>
 bU (agq bX bX) (h H Z U ts vs _ S λv H1 Z1 c k1 a=>by
  have hv:=by have:=a.view;exact this.sc rfl
  refine#[p,hv,?_];cases p with
  | true=>exact HB (k _ H1 Z1 c k1 (a.pop.push QaG))
  | false=>exact Hz Qp0)
theorem m8(h:Qck)(h1:p=true->bG X CL b e1 δ1 t δ2)(h2:p=false->bG X CL b e2 δ1 t δ2):bG X CL b (.IfExp e e1 e2 pos) δ t δ2:=λH Z U ts vs Q S k=>
 bU (QV l7 bX bX) (h H Z U ts vs _ S λH1 Z1 d k1 f=>by
  cases p with
  | true=>exact HB (h1 rfl H1 Z1 U ts vs _ f λv H2 Z2 a k2 c=>k v H2 Z2 Qor Qaf c)
  | false=>exact Hz (h2 rfl H1 Z1 U ts vs _ f λv H2 Z2 a k2 c=>k v H2 Z2 Qor Qaf c))
theorem xg{k:Int}(r:QiY)(h:QgO):∃v,sA vs k=some v/\bO K CL Z d v:=by
 unfold sA at h ⊢;rw[<- r.length];cases e:GY _ k with
 | none=>rw[e]at h;cases h
 | some j=>
  rw[e]at h;exact r.get h
def au{k:Int}(h1:b5 X CL b e1 δ (.tup ds) δ1)(h2:QgP)(m:QgO)(j:kU e2:=by exactλ_ _=>rfl):b5 X CL b Qeb δ d δ2:=λH Z U ts vs Q S kk=>
 bU (yc Rm bX bX j) (h1 H Z U ts vs _ S λv1 H1 Z1 e k1 o i=>h2 H1 Z1 U ts vs _ o λv2 H2 Z2 c k2 n h=>by
  have a:=i.mono k2;obtain⟨_,_,rfl,l,g⟩:=a.rN;obtain⟨v,hv,f⟩:=xg g m;exact#[_,_,k,v,rfl,h.sc rfl,l,hv,kk v H2 Z2 Qjq Qaf n f])
def aH{k:Int}(h1:QsG)(h2:QgP)(m:QgO)(j:kU e2:=by exactλ_ _=>rfl):b5 X CL b Qeb δ d δ2:=λH Z U ts vs Q S kk=>
 bU (yc w9 bX bX j) (h1 H Z U ts vs _ S λv1 H1 Z1 e k1 o i=>h2 H1 Z1 U ts vs _ o λv2 H2 Z2 c k2 n h=>by
  have a:=i.mono k2;obtain⟨_,_,rfl,l,g⟩:=a.gR;obtain⟨v,hv,f⟩:=xg g m;exact#[_,_,k,v,rfl,h.sc rfl,l,hv,kk v H2 Z2 Qjq Qaf n f])
def yh{k:Int}{x:Str}{c:Nat}(h1:Qc0)(h2:QgP)(h:Qb5)(i:sA x.cps.toList k=some c)(g:kU e2:=by exactλ_ _=>rfl):bG X CL b Qeb δ (.sh (.str #[(List.toArray [c])])) δ2:=λH Z U ts vs Q S kk=>
 bU (yc adi bX bX g) (h1 H Z U ts vs _ S λv1 H1 Z1 d k1 l f=>h2 H1 Z1 U ts vs _ l λv2 H2 Z2 a k2 j e=>
  #[x,k,c,f.sc rfl,e.sc rfl,h,i,kk _ H2 Z2 Qor Qaf (j.push QcK)])
def rQ{k:Int}(h1:Qhp)(h2:QgP)(l:QgO)(i:kU e2:=by exactλ_ _=>rfl):bG X CL b Qeb δ (.sh d) δ2:=λH Z U ts vs Q S kk=>
 bU (yc Rm bX bX i) (h1 H Z U ts vs _ S λv1 H1 Z1 e k1 m=>h2 H1 Z1 U _ _ _ m λv2 H2 Z2 c k2 a h=>by
  obtain⟨fp,gp,_,r,_,_⟩:=a.rep;cases r with
  | cons r _=>
   replace r:=r.HD;obtain⟨rfl,r⟩:=r;obtain⟨_,_,rfl,j,g⟩:=r.rN;obtain⟨v,hv,f⟩:=xg g l;exact#[_,_,k,v,rfl,h.sc rfl,aA.KZ a.zh j,hv,kk v H2 Z2 Qjq Qaf QxA])
def RK{k:Int}(h1:Qk4)(h2:QgP)(l:QgO)(i:kU e2:=by exactλ_ _=>rfl):bG X CL b Qeb δ (.sh d) δ2:=λH Z U ts vs Q S kk=>
 bU (yc w9 bX bX i) (h1 H Z U ts vs _ S λv1 H1 Z1 e k1 m=>h2 H1 Z1 U _ _ _ m λv2 H2 Z2 c k2 a h=>by
  obtain⟨fp,gp,_,r,_,_⟩:=a.rep;cases r with
  | cons r _=>
   replace r:=r.HD;obtain⟨rfl,r⟩:=r;obtain⟨_,_,rfl,j,g⟩:=r.gR;obtain⟨v,hv,f⟩:=xg g l;exact#[_,_,k,v,rfl,h.sc rfl,a.zh.seq j,hv,kk v H2 Z2 Qjq Qaf QxA])
end
theorem bP.nX:∀{ds:BC} {us:BS} {ts:Bz} {vs:BS},aF K CL Z ds us->bP K CL b H Z δ U ts vs->bP K CL b H Z δ U ((ds.map T.sh).reverse++ts) QfF
 | _,_,_,_,.nil,S=>S
 | _,_,ts,vs,.cons r t,S=>by
  rw[e4,q5,q5,fb,fb];exact bP.nX t (S.push r)
theorem bP.drops(S:bP K CL b H Z δ U (tl++ts) (us++vs))(a:QmG):bP K CL b H Z δ U ts vs:=by
 induction tl generalizing us with
 | nil=>
  cases us with
  | nil=>exact S
  | cons _ _=>simp at a
 | cons t tl c=>
  cases us with
  | nil=>simp at a
  | cons u us=>exact c S.pop WA
theorem bP.Yp{ds:BC}(S:bP K CL b H Z δ U ((ds.map T.sh).reverse++ts) QfF)(d:us.length=ds.length):aF K CL Z ds us:=by
 obtain⟨fp,gp,e,r,nd,k⟩:=S.rep;obtain⟨g1,g2,g,a,f⟩:=aQ.split (by simp[d]) r;obtain⟨g',c,pm⟩:=a.rev;exact c.toF.1
section
variable{δ1:Ap}{p q:Bool}{pos pp:Pos}{ds:BC}
def K1(hm:Qi1)(h:Qfa)(g:Qj9:=by rfl)(a:QaD:=by exact aZ rfl)(hpl:(backTo pos (starEach ([]:CC) X.env)).any (·.1)=false:=by rfl):bG X CL b QkR δ (.sh (.int ds.length)) δ1:=λH Z U ts vs Q S k=>
 bU (oG BZ g hm PySem.boot_len Qjg (he:=a)) (h H Z U ts vs _ S λv H1 Z1 c k1 i r=>by
  obtain⟨_,_,rfl,f,d⟩:=r.gR;exact#[_,_,rfl,.inl f,d.length▸k _ H1 Z1 c k1 (i.push QbU) ])
def qb{x:Str}(hm:Qi1)(h:Qlp)(d:Qb5)(f:Qj9:=by rfl)(a:QaD:=by exact aZ rfl):bG X CL b QkR δ (.sh (.int x.length)) δ1:=λH Z U ts vs Q S k=>
 bU (oG B3 f hm PySem.boot_len Qjg (he:=a)) (h H Z U ts vs _ S λv H1 Z1 c k1 g r=>#[x,by rw[r.sc rfl],d,k _ H1 Z1 c k1 QwI])
def di(hm:X.mg "list" = none)(h:Qfa)(hi:QgQ)(m:Gl X "list":=by rfl)(hv:bootBuiltins "list" = some Qnu:=by rfl)(d:QaD:=by exact aZ rfl):bG X CL b (.Call (.Name "list" pp) [e] [] pos) δ (.lst Qby) δ1:=λH Z U ts vs Q S k=>
 bU (lU B4 m hm hv Qoi (he:=d)) (h H Z U ts vs _ S λv H1 Z1 g k1 f r=>by
  obtain⟨_,_,rfl,i,a⟩:=r.gR;refine#[_,_,rfl,.inl i,λl j=>?_];obtain⟨c,n⟩:=(bP.nX (aF.iV f.tp hi a) f).rP (g0:=[]) (by simp[a.length]) j;exact k _ _ _ g QfZ n)
def vO(X:Cx)(CL:BM)(b:Bx)(e:Expr)(δ:Ap)(P:Qfb)(δ':Ap):Prop:=
 ∀(H Z:Hp) (U:L2.St) (ts:Bz) (vs:BS) (Q:VK),bP X.K CL b H Z δ U ts vs->(∀t v H' Z',P t->aA Z Z'->aA H H'->bP X.K CL b H' Z' δ' U QbX QaS->Q v H')->Ag X e U H Q
theorem bG.tq(h:Qaw):vO X CL b e δ (· = t) δ1:=λH Z U ts vs Q S k=>h H Z U ts vs Q S λv H' Z'=>k t v H' Z' rfl
theorem vO.v(h:vO X CL b e δ (· = t) δ1):bG X CL b e δ t δ1:=λH Z U ts vs Q S k=>h H Z U ts vs Q S λ_ v H' Z' q=>q▸k v H' Z'
def u6(K:Frag)(CL:BM){A:Type}(n:Nat)(arg:Qae)(Pre:Q4)(R:Qn7):Sp:=λvs H Q _=>
 ∃(W:Hp) (a:A),aA W H/\(∀c o,H c=some o->iQ o=true->W c=some o)/\aF K CL W Qdm vs/\(arg a).length=n/\Pre a/\j4 CL W ∧
  ∀t v H' W' fp,R a t->aA H H'->aA W W'->aA W' H'->(∀c o,W' c=some o->W c=none->H c=none)->(∀c o,H' c=some o->iQ o=true->W' c=some o) →
   bJ K CL H' W' t v fp->fp.Nodup->(∀c∈fp,W' c=none/\H c=none)->Q v H'
def G0(K:Frag)(CL:BM){A:Type}(n:Nat)(arg:Qae)(Pre:Q4)(res:QaM):Sp:=λvs H Q _=>
 ∃(W:Hp) (a:A),aA W H/\(∀c o,H c=some o->iQ o=true->W c=some o)/\aF K CL W Qdm vs/\(arg a).length=n/\Pre a/\j4 CL W ∧
  ∀v H' W' fp,aA H H'->aA W W'->aA W' H'->(∀c o,W' c=some o->W c=none->H c=none)->(∀c o,H' c=some o->iQ o=true->W' c=some o) →
   bJ K CL H' W' QdC v fp->fp.Nodup->(∀c∈fp,W' c=none/\H c=none)->Q v H'
def ag5{A:Type}{n:Nat}{arg:Qae}{Pre:Q4}{res:QaM}(vs:BS)(H:Hp)(Q:VK)(E:XK)(h:G0 K CL n arg Pre res vs H Q E):u6 K CL n arg Pre Qu7 vs H Q E:=by
 obtain⟨W,a,h1,h2,e,d,c,b,k⟩:=h;exact#[W,a,h1,h2,e,d,c,b,λt v H' W' fp q=>q▸k v H' W' fp]
def ag6{A:Type}{n:Nat}{arg:Qae}{Pre:Q4}{res:QaM}(vs:BS)(H:Hp)(Q:VK)(E:XK)(h:u6 K CL n arg Pre Qu7 vs H Q E):G0 K CL n arg Pre res vs H Q E:=by
 obtain⟨W,a,h1,h2,e,d,c,b,k⟩:=h;exact#[W,a,h1,h2,e,d,c,b,λv H' W' fp=>k _ v H' W' fp rfl]
variable{A:Type}{k n:Nat}{f:Addr}{fd:QaK}{ps:AT}{x:Str}{arg:Qae}{Pre:Q4}{res:QaM}
def Yq(a:A)(F:QqK)(m:QcT)(hm:Qe7)(o:Qe8)(hb:Qiv)
  (h:QgR) (hn:Qb0) (hp:Pre a) (s:Qm2) (p:Qad)
  (l:AD x:=by decide) (he:Qaz:=by exact aZ rfl) (hpl:QaY:=by rfl) :
  bG X CL b Qbn δ (res a) δ1:=λH Z U ts vs Q S kk=>
 bU (wZ F m p hm o hb .nil Eg DV l he hpl) (h H Z U ts vs _ S λus H1 Z1 g k1 c r=>by
  rw[ft];refine#[H1,a,.refl _,λ_ _ q _=>q,r,hn,hp,c.NF,λv H' W' fp d ww j nw tp rt nd own=>?_];obtain⟨Z',i,t⟩:=c.back d c.zh ww j nw tp rt nd own (.inr s);exact kk v H' Z' (g.trans i) (k1.trans d) t)
theorem NK{R:Qn7}(a:A)(F:e9 X.prog X.w X.K X.mg X.base uE k f fd ps (u6 X.K CL n arg Pre R))(p:QcT)(hm:Qe7)(q:Qe8)(hb:Qiv)
  (h:QkK) (hn:Qb0) (hp:Pre a) (r:Qad)
  (m:AD x:=by decide) (he:Qaz:=by exact aZ rfl) (hpl:QaY:=by rfl) :
  vO X CL b Qbn δ (R a) δ1:=λH Z U ts vs Q S kk=>
 bU (wZ F p r hm q hb .nil Eg DV m he hpl) (h H Z U ts vs _ S λus H1 Z1 y i k1 d=>by
  rw[ft];have c:us.length=(arg a).length:=by simp_all
  have s:=d.drops (by simp[c]);refine#[Z1,a,d.zh,d.tp,d.Yp c,hn,hp,d.Ee,λt v H' W' fp o g ww l nw tp rt nd own=>?_];obtain⟨Z',j,u⟩:=s.back g QA ww l nw tp rt nd own Qay;exact kk t v H' Z' o (i.trans j) (k1.trans g) u)
def RL(a:A)(F:QqK)(d:QcT)(hm:Qe7)(g:Qe8)(hb:Qiv)
  (h:QkK) (hn:Qb0) (hp:Pre a) (i:Qad)
  (c:AD x:=by decide) (he:Qaz:=by exact aZ rfl) (hpl:QaY:=by rfl) :
  bG X CL b Qbn δ (res a) δ1:=(NK a (F.imp λvs H Q E h=>ag6 vs H Q E h) d hm g hb h hn hp i c he hpl).v
variable{D D':cM}{st:Stmt}{dm ag7:CI}
theorem Meets.to{E:Ends}(M:Qt9)(h1:∀δ,D'.nx δ->D.nx δ)(h2:∀t δ,D'.rt t δ->D.rt t δ)(c:∀δ,D'.bk δ->D.bk δ)(a:∀δ,D'.ct δ->D.ct δ):Meets K CL b Z ts vs D' E:=
 #[λ_ _ _ _ s S k=>M.nx _ _ _ _ s S (h1 _ k),λ_ _ _ _ _ _ s S k=>M.rt _ _ _ _ _ _ s S (h2 _ _ k),λ_ _ _ _ s S k=>M.bk _ _ _ _ s S (c _ k),λ_ _ _ _ s S k=>M.ct _ _ _ _ s S (a _ k)]
def aj(h:D.nx δ):cK X CL b [] δ D:=λH Z U ts vs E S M=>RC KC (M.nx δ U H Z QA S h)
def bI(h:RH X CL b st δ {D with nx:=λδ1=>cK X CL b dm δ1 D}):cK X CL b (st::dm) δ D:=λH Z U ts vs E S M=>
 RC (xZ yY RB) (h H Z U ts vs _ S #[λδ' U' H' Z' s a k=>k H' Z' U' ts vs E a (M.mono s),M.rt,M.bk,M.ct])
def adD(h:Qaw)(k:D.rt t δ1):RH X CL b Qt4 δ D:=λH Z U ts vs E S M=>mZ (Hf bX) (h H Z U ts vs _ S λv H1 Z1 a k1 c=>M.rt t v H1 Z1 δ1 U a c k)
theorem ag8(h:Qck)(h1:p=true->cK X CL b dm δ1 D)(h2:p=false->cK X CL b ag7 δ1 D):RH X CL b (.If e dm ag7 pos) δ D:=λH Z U ts vs E S M=>
 mZ (agt l7 RB RB) (h H Z U ts vs _ S λH1 Z1 a k1 c=>by
  cases p with
  | true=>exact HB (h1 rfl H1 Z1 U ts vs E c (M.mono a))
  | false=>exact Hz (h2 rfl H1 Z1 U ts vs E c (M.mono a)))
def xh{P:Qfb}(i:Nat){pos':Pos}(h:Qih)(k:∀t,P t->D.nx (δ1.set i QaJ))(f:QbH:=by decide)(g:Qbd:=by assumption)(hi:X.N[i]? = some x:=by rfl)(c:QdO:=by first|exact .inl rfl|exact .inr rfl)
  (d:Qcn:=by rfl) (hf:QdP:=by first|exact .inl rfl|exact .inr rfl|assumption):RH X CL b Qld δ D:=λH Z U ts vs E S M=>
 mZ (Hg g hi c bX d hf) (h H Z U ts vs _ S λt v H1 Z1 p a k1 j=>M.nx _ _ H1 Z1 a (j.set f) (k t p))
def RM(i:Nat){pos':Pos}(h:Qaw)(k:D.nx (δ1.set i QaJ))(d:QbH:=by decide)(f:Qbd:=by assumption)(hi:X.N[i]? = some x:=by rfl)(a:QdO:=by first|exact .inl rfl|exact .inr rfl)
  (c:Qcn:=by rfl) (hf:QdP:=by first|exact .inl rfl|exact .inr rfl|assumption):RH X CL b Qld δ D:=xh i (bG.tq h) (λ_ q=>q▸k) d f hi a c hf
end
noncomputable def entry(N:AT)(ds:BC):Ap:=ds.map QhT++List.replicate (N.length-ds.length) none
theorem j6{K:Frag}{CL:BM}{H Z:Hp}:∀{ds:BC} {vs:BS} (n:Nat),aF K CL Z ds vs->fK K CL H Z (ds.map QhT++List.replicate n none) QkU []
 | _,_,0,.nil=>.nil
 | _,_,n+1,.nil=>.skip (j6 n .nil)
 | _,_,n,.cons r t=>.cons QjV (j6 n t)
variable{P:Q1}{w:World}{mg:BN}{base:Heap}{x qual:Str}{st:Stmt}{f:Addr}{fd:QaK}{N ps:AT}{k:Nat}
def K2{sp:Sp}(F:QdS)(S:QcU)(len:∀vs H Q E,sp vs H Q E->vs.length=ps.length)
  (c:∀(eS:Value) (A:Qat) (outer:Cn) (s:Qr) (H:Hp) (vs:BS) (Q:VK) (E:XK),fd.code=eS->dX k (A.deeper Qfm)->sp vs H Q E →
   ∃t,Kz (mY uE P w K mg base N qual Qas f eS A outer s H E).Xl Qbb t/\t {nx:=λ_ H'=>Q .non H',rt:=Q} (L2.start N vs) H):e9 P w K mg base uE Qac f fd ps sp:=by
 obtain⟨dV,oc,od,kV,doc,pm,an,eS,ct,Ed,rfl,lk,iA⟩:=F.ex;refine Rh lk iA S len λA outer s H vs Q E a b=>?_;obtain⟨t,h,q⟩:=c eS A _ s H vs Q E rfl a b;exact#[t,h.Xl,q]
variable{A:Type}
theorem RN{arg:Qae}{Pre:Q4}{R:Qn7}(F:QdS)(S:QcU)
  (hb:∀(eS:Value) (g:Qat) (outer:Cn) (s:Qr) (H:Hp) (E:XK) (b:Bx) (a:A),fd.code=eS->dX k (g.deeper Qfm)->Pre a →
   cK (mY uE P w K mg base N qual Qas f eS g outer s H E).Xl CL b Qbb Qdb {nx:=λ_=>R a QeJ,rt:=λt _=>R a t}) :
  e9 P w K mg base uE Qac f fd ps (u6 K CL ps.length arg Pre R):=by
 refine K2 F S (λvs H Q E h=>?_) (λeS g outer s H vs Q E iA n h=>?_)
 .obtain⟨W,a,_,_,r,i,_⟩:=h;rw[<- r.length];exact i
 .obtain⟨W,a,j,tp,r,i,hp,tb,kk⟩:=h;refine#[_,RB,hb eS g _ s H E #[H,W] a iA n hp H W _ [] [] _ #[#[[],[],?_,.nil,mx,λa d=>by cases d],.refl _,.refl _,j,λa o q z=>?_,tp,tb] #[λδ' U' H' Z' s' c e=>?_,λt v H' Z' δ' U' s' c e=>?_,λ_ _ _ _ _ _ e=>e.elim,λ_ _ _ _ _ _ e=>e.elim]]
  .unfold entry L2.start;rw[<- r.length];exact j6 _ r
  .grind
  .exact kk _ .non H' Z' [] e c.bh c.zz c.zh c.new c.tp QeJ mx λa d=>by cases d
  .obtain⟨fp,gp,_,m,nd,own⟩:=c.rep;cases m with
   | @cons _ _ _ _ f1 f2 l p=>
    have h1:=(iw.1 nd).2.1;exact kk t v H' Z' f1 e c.bh c.zz c.zh c.new c.tp l (iw.1 h1).1 λa d=>own a (fx _ (hj _ d))
def yi{arg:Qae}{Pre:Q4}{res:QaM}(F:QdS)(S:QcU)
  (hb:∀(eS:Value) (c:Qat) (outer:Cn) (s:Qr) (H:Hp) (E:XK) (b:Bx) (a:A),fd.code=eS->dX k Qwh->Pre a →
   cK (mY uE P w K mg base N qual Qas f eS c outer s H E).Xl CL b Qbb Qdb {nx:=λ_=>res a=.sh .non,rt:=λt _=>t=res a}) :
  e9 P w K mg base uE Qac f fd ps QrQ:=(RN F S λeS c outer s H E b a e d hp=>λH1 Z U ts vs g S M=>hb eS c outer s H E b a e d hp H1 Z U ts vs g S (M.to (λ_ q=>q.symm) Qm3 QbA QbA)).imp λvs H Q E h=>ag5 vs H Q E h
variable{prog:Q1}{A:Qat}{R:Qh1}{s:Qr}{elt iter:Expr}{ifs:CC}{scope:Scope}{pos:Pos}
theorem Ca{target:Expr}{it acc:Value}{E:BB}(I:Nat->Shared->Prop)(ex:∀ev s,E ev s->notedBy Qaa A env (λx s'=>R (.error x) s') ev s)
  (turn:∀n s,I n s->wpAny Qaa A (pyNext it) (λr d=>match r with
   | none=>R Qjr d
   | some v=>wpAny Qaa A (letOwnedTupleGo target it v) (λ_ b=>wpAny Qaa A (assign target env v) (λ_ g=>
     wpAny Qaa A (forIn ifs true λc r=>if r=true then do let ok ← isTrue c env (eval c env);pure Qux else pure Qmo) (λok a=>
      if ok=true then wpAny Qaa A (eval elt env) (λx f=>
       wpAny Qaa A (call (.builtin "list.append") [acc,x]) (λ_ e=>∃m,m<n/\I m e) E f) E a
      else ∃m,m<n/\I m a) E g) E b) E d) E s)
  (n:Nat) (h:I n s) :
  codeAny Qaa A (.compLoop (.ListComp elt [#[target,iter,ifs,0]] scope pos) 0 it acc env) R s:=by
 refine codeAny_loop rfl I (λn s q=>?_) n h;refine wpAny_noted ?_;rw[compTurn_list];refine eM (qr (eM (hJ (turn n s q) (λr d j=>?_) ex)));cases r with
 | none=>exact gL j
 | some v=>
  refine eM (hJ j (λ_ b k=>?_) ex);refine eM (hJ k (λ_ g p=>eM (hJ p (λok a i=>?_) ex)) ex);cases ok with
  | false=>exact gL #[rfl,i]
  | true=>
   exact eM (eM (hJ i (λx f o=>eM (hJ o (λ_ e l=>gL (gL #[rfl,l])) ex)) ex))
abbrev _root_.Co:=List (Str×NameKind)
abbrev _root_.D1:=List (Str×Addr)
noncomputable def fZ(env:Env):Co->D1->D1
 | [],cs=>cs
 | (n,k)::r,cs=>fZ env r (if k == .free then(n,(env.cells.lookup n).getD 0)::cs else cs)
theorem Aj(h:∀x∈scope.names,x.2=.free->∃c,env.cells.lookup x.1=some c):closureFor scope env=pure (fZ env scope.names []):=by
 have go:∀(l:List _) (cs:List _),(∀x∈l,x.2=.free->∃c,env.cells.lookup x.1=some c) →
   (forIn l cs λx r=>match x with|(name,kind)=>if (kind==NameKind.free)=true then do let a ← cellOf env name;pure (ForInStep.yield ((name,a)::r)) else pure Qmo:Sem _)=pure (fZ env l cs):=by
  intro l
  induction l with
  | nil=>intro cs _;rfl
  | cons x r f=>
   intro cs d;obtain⟨n,k⟩:=x;rw[List.forIn_cons];by_cases i:k=.free
   .subst i;obtain⟨c,g⟩:=d _ eB rfl;have e:cellOf env n=pure c:=by unfold cellOf;rw[g]
    simp only[beq_self_eq_true,if_true,e,pure_bind];rw[f _ λy b=>d y QbF];simp[fZ,if_true];rw[g];rfl
   .have hb:QmH=false:=by grind
    simp only[hb,Bool.false_eq_true,if_false,pure_bind];rw[f _ λy b=>d y QbF];simp[fZ,hb,Bool.false_eq_true,if_false]
 unfold closureFor;have:=go _ [] h;simp only[bind_pure]at this ⊢;exact this
theorem rR{env:Env}:∀{l:Co} {cs:D1} {y:Str} {c:Addr},(∀x∈l,x.2=.free->∃c,env.cells.lookup x.1=some c)->(∀y c,cs.lookup y=some c->env.cells.lookup y=some c) →
  (fZ env l cs).lookup y=some c->env.cells.lookup y=some c
 | [],cs,y,c,_,h,e=>h y c e
 | (n,k)::r,cs,y,c,a,h,e=>by
  refine rR (λz hz=>a z (eD _ hz)) (λz d hz=>?_) e;by_cases b:k=.free
  .subst b;obtain⟨g,f⟩:=a _ eB rfl;grind
  simp_all
theorem vP{env:Env}{y:Str}:∀{l:Co} {cs:D1},(∃c,cs.lookup y=some c)->∃c,(fZ env l cs).lookup y=some c
 | [],cs,h=>h
 | (n,k)::r,cs,h=>by
  refine vP (l:=r) ?_;by_cases a:QmH=true
  .rw[dU a,h7];by_cases b:(y==n)=true
   .rw[b];simp_all
   .have:(y==n)=false:=by simp_all
    rw[this];exact h
  .rw[cq a];exact h
theorem rS{env:Env}{y:Str}:∀{l:Co} {cs:D1},l.lookup y=some .free->∃c,(fZ env l cs).lookup y=some c
 | [],_,h=>by simp at h
 | (n,k)::r,cs,h=>by
  rw[h7]at h;by_cases a:(y==n)=true
  .refine vP (l:=r) ?_;simp_all
  .have:(y==n)=false:=by simp_all
   rw[this]at h;exact rS (l:=r) h
def aX(X:Cx)(scope:Scope)(Nc:AT)(C:Addr)(s:Qr)(H:Hp)(fp:BY):Cx where
 prog:=X.prog
 w:=X.w
 K:=X.K
 mg:=X.mg
 base:=X.base
 A:=X.A
 N:=Nc
 ff:=s
 j2:=H
 env:=compEnvC scope Qfp C X.env
 outer:=X.stack
 stack:=X.stack
 ex:=fp
 fn:=λ_=>false
 calm:=X.calm
 pn:=[]
 xe:=λ_ _=>False
abbrev _root_.Ch:=List Nat
structure gX(X:Cx)(scope:Scope)(x:Str)(Nc:AT)(ix:Ch):Prop where
 kind:scope.kind=.function
 Cb:∀y∈scope.names,y.2 ≠ .cell
 nd:Nc.Nodup
 names:∀y∈scope.names,y.2=.local->scope.names.lookup y.1=some .local
 own:scope.names.lookup x=some .local
 frees:∀y∈scope.names,y.2=.free->scope.names.lookup y.1=some .free/\QqM
 hd:Nc=x::ix.filterMap (X.N[·]?)
 r8:∀i∈ix,∃y,X.N[i]? = some y/\scope.names.lookup y=some .free
theorem f6{env:Env}:∀{names:Co} {x:Str} {k:NameKind},names.lookup x=some k ->
  (names.map λ(n,k)=>if (k==NameKind.free&&env.scope.kind == .function&&env.kindOf n==some .cell) then(n,NameKind.cell) else(n,k)).lookup x=some (if (k==NameKind.free&&env.scope.kind == .function&&env.kindOf x==some .cell) then .cell else k)
 | [],_,_,h=>by simp at h
 | (n,b)::r,x,k,h=>by
  have c:=@f6 env r x k;show List.lookup x (QpJ::_)=_;cases a:x==n with
  | true=>
   simp[h7,a]at h;cases h;have e:x=n:=by grind
   subst e;split<;>simp
  | false=>
   simp[h7,a]at h;split
   .simp only[h7,a];exact c h
   .simp only[h7,a];exact c h
theorem jL{env:Env}:∀{names:Co} {x:Str},names.lookup x=none ->
  (names.map λ(n,k)=>if (k==NameKind.free&&env.scope.kind == .function&&env.kindOf n==some .cell) then(n,NameKind.cell) else(n,k)).lookup x=none
 | [],_,_=>rfl
 | (n,b)::r,x,h=>by
  have c:=@jL env r x;show List.lookup x (QpJ::_)=_;cases a:x==n with
  | true=>simp only[h7,a]at h;cases h
  | false=>
   simp only[h7,a]at h;split
   .simp only[h7,a];exact c h
   .simp only[h7,a];exact c h
variable{Nc:AT}{pins:At}
theorem Bc{k:At}{U':L2.St}{s':Qr}{h'':Heap}(I:QF)(f:∀b∈fp,oF X pins H b)
  (J:Inv QkL k U' H' s') (h:Heap.SameBut s.heap.objs.size s'.heap h''):Inv X pins U H' {s' with heap:=h''}:=by
 have un:Un QhN fp H H' s.heap _:=J.base;have i:Un QhN fp H H' s.heap h'':=by
  have ne:∀b o,s.heap.get? b=some o->b≠s.heap.objs.size:=λb o e=>hG (fA e);refine#[λb o e n hb a=>(h.2 b QoU).trans (un.keep b o e n hb a),λb o e n hb a=>?_,un.free,λb o e a=>?_,un.n6,un.dF,un.n8]
  .obtain⟨sl,q⟩:=un.slot b o e n hb a;exact#[sl,(h.2 b QoU).trans q]
  .obtain⟨o',q⟩:=un.there b o e a;exact#[o',(h.2 b QoU).trans q]
 have l:H' s.heap.objs.size=none:=J.free;have bZ:=λb u e=>by
  refine(J.bZ b u e).rL (λc v p q=>(h.2 c ?_).trans q) QbA λ_ _ q=>q;rintro rfl;grind
 obtain⟨m,g,d,t,j⟩:=s';obtain rfl:j=s.os:=J.os;exact I.call i bZ J.bare λb hb=>#[(f b hb).2.2.2.1,(f b hb).2.1,(f b hb).2.2.2.2.1,(f b hb).2.2.2.2.2]
def Fu(X:Cx):CC->TT
 | []=>λ_ H Q=>Q true H
 | [c]=>Yh X c
 | _=>λ_ _ _=>False
def RP(I:QF)(h:Fu X ifs U H Q) :
  wpAny Qy X.A (forIn ifs true λc r=>if r=true then do let ok ← isTrue c X.env (eval c X.env);pure Qux else pure Qmo) Qer X.xe s:=by
 match ifs,h with
 | [],h=>exact wpAny_tests_nil #[H,I,h]
 | [c],h=>
  exact wpAny_tests_one (h pins s I)
def ri(X:Cx)(CL:BM)(b:Bx)(ifs:CC)(δ:Ap)(p:Bool):Prop:=
 match ifs with
 | []=>p=true
 | [c]=>m5 X CL b c δ p δ
 | _=>False
theorem ri.OR{p:Bool}(h:ri X CL b ifs δ p)(S:bP X.K CL b H Z δ U [] [])
  (k:∀H' Z',aA Z Z'->aA H H'->bP X.K CL b H' Z' δ U [] []->Q p H'):Fu X ifs U H Q:=by
 match ifs,h with
 | [],h=>
  have e:=h;subst e;exact k H Z QA QA S
 | [c],h=>exact(h) H Z U [] [] Q S k
def gY:(T.lst ts).clean=T.cA ts:=rfl
theorem yj{g:D->T}:∀{ds:BC},(∀d∈ds,(g d).clean=true)->T.cA (ds.map g)=true
 | [],_=>rfl
 | d::ds,h=>by
  rw[e4,T.cA,h d eB,yj λe he=>h e QjH];rfl
variable{v:V}
theorem aQ.at:∀{tl:Bz} {us:BS} {fp:BY} {j:Nat} {t:T},aQ K CL H Z tl us fp->tl[j]? = some t->∃v f1 f2 b,us[j]? = some v/\fp=f1++(f2++b)/\bJ K CL H Z t v f2 ∧
  ∀{H':Hp} {t':T} {v':V} {g:BY},(∀a∈f1++b,H' a=H a)->bJ K CL H' Z t' v' g->aQ K CL H' Z (tl.set j t') (us.set j v') Qos
 | _,_,_,_,_,.nil,e=>by simp at e
 | _,_,_,0,_,.cons (fp:=fp) (gp:=gp) r q,e=>by
  simp at e;subst e;exact#[_,[],fp,gp,rfl,rfl,r,λ{H' t' v' g} k c=>aQ.cons (fp:=g) c (aQ.mono QA (λa d=>k a (‹_›)) q)]
 | _,_,_,j+1,t,.cons (fp:=fp) r q,e=>by
  obtain⟨v,f1,f2,b,h1,h2,h,f⟩:=aQ.at q (‹_›);refine#[v,fp++f1,f2,b,‹_›,WA,h,λk c=>?_];rw[fb];exact .cons (r.mono QA λa d=>k a (by simp[d])) (f (λa d=>k a WA) c)
variable{α:Type}{i:Nat}
theorem iE{l:QR}{x:α}(h:l[i]? = some x):l.set i x=l:=by
 apply kv;intro j;rw[xf];split
 .rename_i e;subst e;split
  .exact h.symm
  grind
 .rfl
variable{δ2:Ap}
theorem bP.write{f1 f2 d g gp f:BY}(S:QaQ)(nd:(QfX++gp).Nodup)(own:∀c∈QfX++gp,Z c=none/\b.B c=none)(k:a∈f2)
  (m:∃o,H a=some o) (l:fK K CL Qng Z δ2 U Qjm) (j:aQ K CL Qng Z tl us f) (pm:(Qjm++f).Nodup) (sub:∀c∈Qjm++f,c∈QfX++gp) :
  bP K CL b Qng Z δ2 U tl us:=by
 have h:=own a (by simp[k]);refine#[#[_,_,l,j,pm,λc e=>own c (sub c e)],λc o q=>?_,S.zz,λc o q=>?_,S.new,λc o q i=>?_,S.tab]
 .rw[ay (bz q h.2)];exact S.bh c o q
 .rw[ay (bz q h.1)];exact S.zh c o q
 .by_cases e:c=a
  .subst e;rw[aM]at q;cases q;cases i
  .rw[ay e]at q;exact S.tp c o q i
theorem bP.append(S:Qb3)(hi:δ[i]? = some QfU) :
  ∃a us,U[i]? = some Qn8/\H a=some Qdr/\us.length=tl.length/\bP K CL b QhJ Z (δ.set i QnR) U ts vs:=by
 obtain⟨fp,gp,e,r,nd,k⟩:=S.rep;obtain⟨v0,f1,f2,l,hv,q,rt,put,_⟩:=e.get hi;subst q;obtain⟨a,us,g,rfl,rfl,m,rs⟩:=rt.gR;cases r with
 | @cons _ _ _ _ j f p o=>
  have ne:∀c∈(f1++(g++l))++(j++f),c≠a:=λc d e=>by
   subst e;have hp:((f1++((c::g)++l))++(j++f)).Perm (c::((f1++(g++l))++(j++f))):=by simp
   exact(iq.1 QfD).1 d
  refine#[a,us,hv,m,rs.length.symm,?_];have n:bJ K CL _ Z _ Qab _:=
   .lst aM (aQ.app (rs.mono QA λc d=>ay (ne c (by simp[d]))) (.cons (p.mono QA λc d=>ay (ne c (by simp[d]))) .nil))
  have e2:=put QA (λc d=>ay (ne c (by
   obtain h|h:=eC.1 d
   .simp[h]
   .simp[h]))) n
  rw[iE hv]at e2;have hp:((f1++((a::(g++(j++[])))++l))++f).Perm ((f1++((a::g)++l))++(j++f)):=by
   simp only[ft,iu,fb];refine ka f1 (List.Perm.cons a (ka g ?_));rw[<- fb,<- fb];exact km.append_right f
  exact S.write nd k (eB) #[_,m] e2 (o.mono QA λc d=>ay (ne c (by simp[d]))) Qua λc d=>hp.mem_iff.1 d
section
variable{δ1:Ap}{Yr:Bz}{D:cM}{pp pa pb:Pos}
def adF(i:Nat)(h0:δ[i]? = some Qm4)(h:Qaw)(h1:δ1[i]? = some QfU)(p:tl.length<sizeLine)(k:D.nx (δ1.set i QnR))
  (hi:X.N[i]? = some x:=by rfl) (hv:Qnt:=by first|exact Or.inl rfl|exact Or.inr (Or.inl rfl)|exact Or.inr (Or.inr rfl)) (hd:AD x:=by decide) (iA:AE x:=by decide)
  (r:Qqf:=by rfl)
  (m:QgS:=by rfl)
  (c:QgT:=by rfl) (d:QaD:=by exact aZ rfl) (j:Qq2:=by rfl) :
  RH X CL b (.Expr Qkp pos) δ D:=λH Z U ts vs E S M=>
 mZ (p6 (qN xp zd y8 qa QfP Qoi r m c d rfl) j) (by
  obtain⟨v0,e0,l⟩:=S.look h0;refine#[v0,e0,?_,?_]
  .obtain⟨_,_,rfl,o,_⟩:=l.gR;exact .inl #[rfl,_,o]
  .refine h H Z U ts vs _ S λv H1 Z1 g k1 u=>?_;obtain⟨a,us,f,q,n,s⟩:=u.append h1;rw[e0]at f;cases f;exact#[a,us,v,rfl,rfl,q,n▸p,M.nx _ U _ Z1 g s k])
end
def IT:Option QlR->Option T
 | some (some t)=>some (.sh t.dJ)
 | _=>none
noncomputable def Ha:Option QlR->Option T
 | some (some (T.sh d))=>some Qhz
 | _=>none
def sR(δ:Ap)(ix:Ch):Ap:=ix.map λi=>IT δ[i]?
def sS(δ:Ap)(ix:Ch):Ap:=ix.map λi=>Ha δ[i]?
theorem Em(S:QaQ):∀(ix:Ch) (H':Hp),fK K CL H' H (sR δ ix) (ix.map λi=>(U[i]?).getD none) []
 | [],_=>.nil
 | i::r,H'=>by
  have a:=Em S r H';show fK K CL H' H (IT _::sR δ r) (((U[i]?).getD none)::r.map _) [];cases e:δ[i]? with
  | none=>exact .skip a
  | some o=>
   cases o with
   | none=>exact .skip a
   | some t=>
    obtain⟨v,hv,c⟩:=S.look e;rw[hv];exact .cons (.sh c) a
theorem En(S:QaQ):∀(ix:Ch) (H':Hp),fK K CL H' Z (sS δ ix) (ix.map λi=>(U[i]?).getD none) []
 | [],_=>.nil
 | i::r,H'=>by
  have a:=En S r H';show fK K CL H' Z (Ha _::sS δ r) (((U[i]?).getD none)::r.map _) [];cases e:δ[i]? with
  | none=>exact .skip a
  | some o=>
   cases o with
   | none=>exact .skip a
   | some t=>
    cases t with
    | sh d=>
     obtain⟨v,hv,c⟩:=S.RD e;rw[hv];exact .cons (.sh c) a
    | tup _=>exact .skip a
    | lst _=>exact .skip a
    | ins _ _=>exact .skip a
    | jq _=>exact .skip a
    | dct _=>exact .skip a
    | pin _ _=>exact .skip a
    | DU _ _ _=>exact .skip a
section
variable{δ1:Ap}{ds:BC}
structure Comes(X:Cx)(CL:BM)(b:Bx)(δ1:Ap)(U:L2.St)(ts:Bz)(vs:BS)(Z H:Hp)(ds:BC)(J:It)(H1:Hp):Prop where
 ex:∃Z1 us,aA Z Z1/\aA H H1/\bP X.K CL b H1 Z1 δ1 U ts vs/\aF X.K CL Z1 ds us/\(∀i H2,aA Z1 H2->i<ds.length->J.go i H2) ∧
  (∀i H2 x H',aA Z1 H2->i<ds.length->J.l5 i H2 x H'->H'=H2/\us[i]? = some x)/\(∀H2,aA Z1 H2->J.stop ds.length H2)
def QB(X:Cx)(CL:BM)(b:Bx)(tg e:Expr)(δ:Ap)(ds:BC)(δ1:Ap):Prop:=
 ∃a,PI X tg e a/\∀(H Z:Hp) (U:L2.St) (ts:Bz) (vs:BS) (R:QgB),bP X.K CL b H Z δ U ts vs->(∀J H1,Comes X CL b δ1 U ts vs Z H ds J H1->R J H1)->a U H R
theorem ck{tg:Expr}(h:bG X CL b iter δ (.sh QbC) δ1):QB X CL b tg iter δ ds δ1:=by
 refine#[_,XH bX,λH Z U ts vs R S k=>h H Z U ts vs _ S λv H1 Z1 g k1 e=>?_];obtain⟨fp,gp,_,r,_,_⟩:=e.rep;cases r with
 | cons r _=>
  replace r:=r.HD;obtain⟨rfl,r⟩:=r;obtain⟨a,us,rfl,c,d⟩:=r.gR;refine#[a,rfl,#[us,e.zh.seq c],k _ _ #[Z1,us,g,k1,e.pop,d,λi H2 s hi=>?_,λi H2 y H' s hi f=>#[f.1,f.2 us (s.seq c)],λH2 s=>#[us,s.seq c,by rw[d.length];grind]]];have j:=d.length▸hi;exact#[us,us[i],s.seq c,W2]
theorem uI{tg:Expr}(h:bG X CL b iter δ (.sh QcJ) δ1):QB X CL b tg iter δ ds δ1:=by
 refine#[_,acY bX,λH Z U ts vs R S k=>h H Z U ts vs _ S λv H1 Z1 g k1 e=>?_];obtain⟨fp,gp,_,r,_,_⟩:=e.rep;cases r with
 | cons r _=>
  replace r:=r.HD;obtain⟨rfl,r⟩:=r;obtain⟨a,us,rfl,c,d⟩:=r.rN;refine#[a,rfl,#[us,aA.KZ e.zh c],k _ _ #[Z1,us,g,k1,e.pop,d,λi H2 s hi=>?_,λi H2 y H' s hi f=>#[f.1,f.2 us (aA.KZ s c)],λH2 s=>#[us,aA.KZ s c,by rw[d.length];grind]]];have j:=d.length▸hi;exact#[us,us[i],aA.KZ s c,W2]
def cX(lo:Int)(n:Nat):BC:=(List.range n).map λ(i:Nat)=>D.int (lo+i)
def Eo(lo:Int)(n:Nat):aF K CL Z (cX lo n) ((List.range n).map λ(i:Nat)=>V.int (lo+i)):=by
 unfold cX;generalize List.range n=l
 induction l with
 | nil=>exact .nil
 | cons i r a=>exact .cons QbU a
theorem lX{tg:Expr}{pr pc:Pos}{n:Int}(hm:Qe5)(h:b5 X CL b iter δ (.int n) δ1)(hn:-(2 ^ 62)<=n/\n<2 ^ 62)(f:Qe4)(e:starEach [iter] X.env=[(false,eval iter X.env)]:=by rfl)(j:AC X iter []:=by exact aZ rfl) :
  QB X CL b tg (.Call Qmz [iter] [] pc) δ (cX 0 n.toNat) δ1:=by
 refine#[_,M9 f hm Qoj e,λH Z U ts vs R S k=>h H Z U ts vs _ S λv H1 Z1 d k1 g r=>#[n,by rw[r.sc rfl],hn.1,hn.2,k _ _ #[Z1,_,d,k1,g,Eo 0 _,λi H2 s hi=>?_,λi H2 y H' s hi c=>?_,λH2 s=>?_]]]
 .show i<n.toNat;have:(cX 0 n.toNat).length=n.toNat:=by simp[cX]
  lia
 .have a:i<n.toNat:=by simpa [cX] using hi
  refine#[c.1,?_];rw[fT,hW a,c.2];rfl
 .show n.toNat<=(cX 0 _).length;simp[cX]
theorem NP{tg:Expr}{pr pc:Pos}{e1 e2:Expr}{m n:Int}(hm:Qe5)(h1:b5 X CL b e1 δ (.int m) δ1)(h2:Qtc)(hn:-(2 ^ 62)<=m/\m<2 ^ 62 /\ -(2 ^ 62)<=n/\n<2 ^ 62)(l:Qe4)
  (j:AR X e1 e2:=by rfl) (q:QrI:=by rfl) (d:Qkv:=by rfl) (c:AC X e2 []:=by rfl) :
  QB X CL b tg (.Call Qmz [e1,e2] [] pc) δ (cX m (n-m).toNat) δ2:=by
 refine#[_,Nb l hm (bE bX Qjh d) j q,λH Z U ts vs R S k=>h1 H Z U ts vs _ S λv H1 Z1 g k1 p r=>h2 H1 Z1 U ts vs _ p λv2 H2 Z2 f k2 o h=>#[m,n,by rw[r.sc rfl,h.sc rfl],hn,k _ _ #[Z2,_,g.trans f,k1.trans k2,o,Eo m _,λi H2 s hi=>?_,λi H2 y H' s hi e=>?_,λH2 s=>?_]]]
 .show i<(n-m).toNat;have:(cX m (n-m).toNat).length=(n-m).toNat:=by simp[cX]
  lia
 .have a:i<(n-m).toNat:=by simpa [cX] using hi
  refine#[e.1,?_];rw[fT,hW a,e.2];rfl
 .show(n-m).toNat<=(cX m _).length;simp[cX]
def Block(X:Cx)(CL:BM)(scope:Scope)(Nc:AT)(ifs:CC)(elt:Expr)(δc:Ap)(ds:BC)(p:QdV)(g:D->T):Prop:=
 ∀C s0 b f0 a d,d∈ds->ri Qtd CL a ifs Qej (p d)/\(p d=true->bG Qtd CL a elt Qej (g d) Qej)
variable{δc:Ap}{p:QdV}{g:D->T}
end
variable{δ1:Ap}
def Ep:L3.D->String->Option Bool
 | .non,n=>if n="int" \/ n="str" \/ n="list" \/ n="tuple" \/ n="bool" \/ n="dict" then some false else none
 | .bl _,n=>if n="int" \/ n="bool" then some true else if n="str" \/ n="list" \/ n="tuple" \/ n="dict" then some false else none
 | .int _,n=>if n="int" then some true else if n="str" \/ n="list" \/ n="tuple" \/ n="bool" \/ n="dict" then some false else none
 | .str _, n => if n = "str" then some true else if n = "int" \/ n = "list" \/ n = "tuple" \/ n = "bool" \/ n = "dict" then some false else none
 | .lst _,n=>if n="list" then some true else if n="int" \/ n="str" \/ n="tuple" \/ n="bool" \/ n="dict" then some false else none
 | .tup _,n=>if n="tuple" then some true else if n="int" \/ n="str" \/ n="list" \/ n="bool" \/ n="dict" then some false else none
 | _,_=>none
noncomputable def Fs(t n:QaP):Option Bool:=if (Value.type t==Value.type n)=true then some true else if PySem.W.kitMeta n=true then(fastBuiltinMro t).map (·.contains Qo1) else none
def lY{t n:QaP}:kitOne K (.type t) Qo1=Fs t n:=rfl
def RT:(["NoneType","bool","int","str","list","tuple"].all λt=>["int","str","list","tuple","bool","dict"].all λn=>Fs t n==some (t==n || Qk0))=true:=by decide +kernel
def qc{t n:QaP}(a:t∈["NoneType","bool","int","str","list","tuple"])(hn:Qqt):Fs t n=some (t==n || Qk0):=by
 have:=RT;rw[hB]at this;have h:=this t a;rw[hB]at h;simpa using h n hn
noncomputable def yA:L3.D->Option String
 | .non=>some "NoneType"
 | .bl _=>some "bool"
 | .int _=>some "int"
 | .str _ => some "str"
 | .lst _=>some "list"
 | .tup _=>some "tuple"
 | _=>none
theorem NQ:nU X (.builtin "isinstance") (λxs H Q=>∃y n d t,xs=[y,.ty n]/\bO X.K CL H d y/\yA d=some t/\n∈["int","str","list","tuple","bool","dict"]/\Q Quy H):=by
 intro pins s U H xs us Q I r h;obtain⟨y,n,d,t,rfl,l,b,hn,q⟩:=h;obtain⟨u,u2,rfl,f,g⟩:=r.two;cases (show u2=Value.type n from g);have fin:∀tk,EP X pins U Q _ {s with toks:=tk}:=λtk=>#[.bl _,H,I.tok tk,rfl,q];cases l with
 | non=>cases b;cases (show u=Value.none from f);exact pE PySem.W.kitx_none I.nS True.intro (lY.trans (qc Wp hn)) (λz=>nomatch z) fin
 | bl c=>cases b;cases (show u=Value.bool c from f);exact pE PySem.W.kitx_bool I.nS True.intro (lY.trans (qc Wp hn)) (λz=>nomatch z) fin
 | int c=>cases b;obtain⟨tt,e⟩:=(show ∃t,u=Value.int c t from f);cases e;exact pE PySem.W.kitx_int I.nS True.intro Qif (λz=>nomatch z) fin
 | str c=>cases b;obtain⟨tt,e⟩:=(show ∃t,u=Value.str c t from f);cases e;exact pE PySem.W.kitx_str I.nS True.intro Qif (λz=>nomatch z) fin
 | @lst a ws _ j k=>
  cases b;cases (show u=Value.ref a from f);obtain⟨its,_,i,_⟩:=I.list j;obtain⟨o,m,e,c,_⟩:=i;exact pE PySem.W.kitx_list I.nS #[o,e,c] Qif (λz=>nomatch z) fin
 | @tup a ws _ j k=>
  cases b;cases (show u=Value.ref a from f);obtain⟨its,_,i,_⟩:=I.tuple j;obtain⟨o,e,c,_⟩:=i;exact pE PySem.W.kitx_tuple I.nS #[o,e,c] Qif (λz=>nomatch z) fin
 | ins _ _=>cases b
 | any _=>cases b
 | val _=>cases b
 | jq _ _=>cases b
 | dct _ _=>cases b
 | DU _ _ _=>cases b
variable{d:L3.D}{pp:Pos}
def Ys{t n:QaP}{nm:Str}{pq:Pos}(hm:Qu8)(f:X.mg nm=none)(o:QwJ)(g:Gl X nm)(i:bootBuiltins nm=some Qo1)(a:nm≠"__name__")(c:AD nm)(h:Qe9)(m:yA d=some t)(hn:Qqt)
  (j:starEach [e,.Name nm pq] X.env=(false,eval e X.env)::starEach [.Name nm pq] X.env:=by exact aZ rfl) :
  bG X CL b (.Call QtC [e,.Name nm pq] [] pos) δ (.sh Quy) δ1:=λH Z U ts vs Q S k=>
 bU (oG (NQ) o hm boot_isinstance (bE bX (bE (XD g f i (v:=.ty n) rfl a c) cT) j) (he:=j)) (h H Z U ts vs _ S λv H1 Z1 l k1 p r=>
  #[v,n,d,t,rfl,r,m,hn,k _ H1 Z1 l k1 (p.push Qcg)])
variable{n:Nat}
def gZ(h:Nat.ble n 1000=true):n<=sizeLine:=hS (bR (eL h))
structure Vn(X:Cx)(i:Nat)(x:Str):Prop where
 hi:X.N[i]? = some x
 hv:QN X.env.scope x
 hd:QhY=false
 iA:Qsz=false
structure Ln(X:Cx)(i:Nat)(x:Str):Prop extends Vn X i x where
 loc:Loc X.env.scope x
 hf:X.fn x=true\/X.env.scope.names.lookup x=some .local
structure Gx(X:Cx):Prop where
 nd:X.N.Nodup
 calm:X.calm=true
 xe:PassesOwn Qy X.A X.env X.xe
structure Fc(X:Cx)(CL:BM)(x:Str)(k n:Nat){A:Type}(arg:Qae)(Pre:Q4)(res:QaM):Prop where
 ex:∃f fd ps,e9 X.prog X.w X.K X.mg X.base uE k f fd ps QkM/\X.mg x=some Qar/\keepIn X.K Qar=true/\Binds X.K fd ps []
 room:dX k X.A
section
variable{D:cM}{dm:CI}{ds:BC}
def v_(n:QaZ)(h:δ[i]? = some Qca:=by rfl):bG X CL b QaA δ (.sh d) δ:=ady i n.hi n.hv n.hd n.iA h
def vF(n:QaZ)(h:δ[i]? = some QaJ:=by rfl):bG X CL b QaA δ (.sh t.dJ) (δ.set i Qiu):=Yk i n.hi n.hv n.hd n.iA h
def vM(n:QaZ)(h:δ[i]? = some QaJ:=by rfl):bG X CL b QaA δ t (δ.set i none):=Yl i n.hi n.hv n.hd n.iA h
def vB(n:QaZ)(h:δ[i]? = some QaJ:=by rfl):b5 X CL b QaA δ t.dJ δ:=adz i n.hi n.hv n.hd n.iA h
def cJ{k:Int}(h:Qte):bG X CL b (.UnaryOp .USub e pos) δ (.sh (.int (-k))) δ1:=λH Z U ts vs Q S kk=>
 bU (agC ac7 bX) (h H Z U ts vs _ S λv H1 Z1 a k1 c r=>#[k,r.sc rfl,kk _ H1 Z1 a k1 (c.push QbU)])
def vL(n:QaZ)(h:δ[i]? = some Qyn:=by rfl):b5 X CL b QaA δ (.lst ds) δ:=by
 have:=vB (CL:=CL) (b:=b) (pos:=pos) n h
 rwa [T.dJ,fS]at this
def c_{A:Type}{arg:Qae}{Pre:Q4}{res:QaM}(a:A)(F:QhQ)(d:Qad)(h:QgR)(hp:Pre a)(g:Qm2)(hn:Qb0:=by rfl)
  (c:AD x:=by decide) (he:Qaz:=by exact aZ rfl) (hpl:QaY:=by rfl) :
  bG X CL b Qbn δ (res a) δ1:=by
 obtain⟨f,fd,ps,i,m,k,b⟩:=F.ex;exact Yq a i F.room m k b h hn hp g d c he hpl
def cF{A:Type}{arg:Qae}{Pre:Q4}{res:QaM}(a:A)(F:QhQ)(d:Qad)(h:QkK)(hp:Pre a)(hn:Qb0:=by rfl)
  (c:AD x:=by decide) (he:Qaz:=by exact aZ rfl) (hpl:QaY:=by rfl) :
  bG X CL b Qbn δ (res a) δ1:=by
 obtain⟨f,fd,ps,g,m,k,b⟩:=F.ex;exact RL a g F.room m k b h hn hp d c he hpl
def az{pos':Pos}(g:Gx X)(n:Qa0)(h:Qaw)(k:Qsd)(c:QbH:=by exact eL rfl)(a:Qcn:=by rfl) :
  cK X CL b Qfs δ D:=bI (RM i h k c g.nd n.hi n.loc a n.hf)
def aG(h:Qaw)(k:D.rt t δ1):cK X CL b QhK δ D:=bI (adD h k)
def aN{p:Bool}{a c:CI}(h:Qck)(h1:p=true->cK X CL b a δ1 {D with nx:=λδ2=>cK X CL b dm δ2 D})(h2:p=false->cK X CL b c δ1 {D with nx:=λδ2=>cK X CL b dm δ2 D}):cK X CL b QwK δ D:=bI (ag8 h h1 h2)
theorem cK.to{D':cM}(h:cK X CL b dm δ D')(h1:∀δ,D'.nx δ->D.nx δ)(h2:∀t δ,D'.rt t δ->D.rt t δ)(c:∀δ,D'.bk δ->D.bk δ)(a:∀δ,D'.ct δ->D.ct δ):cK X CL b dm δ D:=λH Z U ts vs E S M=>h H Z U ts vs E S (M.to h1 h2 c a)
def Er{p:Bool}{a c:CI}(J:Ap->Prop)(h:Qck)(h1:p=true->cK X CL b a δ1 {D with nx:=J})(h2:p=false->cK X CL b c δ1 {D with nx:=J})(k:∀δ2,J δ2->cK X CL b dm δ2 D):cK X CL b QwK δ D:=
 aN h (λhp=>cK.to (h1 hp) k Qm3 QbA QbA) (λhp=>cK.to (h2 hp) k Qm3 QbA QbA)
def fL{o:QdR}{l:Nat}(h:∃c,swapsWith e o l env=pure c):swapsWith e o l env=pure true\/swapsWith e o l env=pure false:=by
 obtain⟨c,h⟩:=h;cases c
 .exact .inr h
 .exact .inl h
def RV{C:Addr}(h1:Nc[i]? = some x)(h2:Qk9)(hd:AD x:=by decide)(iA:AE x:=by decide):Vn Qbg i x:=
 #[h1,.inl Qls,hd,iA]
def adH{C:Addr}(h1:Nc[i]? = some x)(h2:Qtf)(hd:AD x:=by decide)(iA:AE x:=by decide):Vn Qbg i x:=by
 refine#[h1,?_,hd,iA];have q:=f6 (env:=X.env) h2;show(relabel _ _).names.lookup x=some _\/(relabel _ _).names.lookup x=some _\/(relabel _ _).names.lookup x=some _;rw[show(relabel _ _).names.lookup x=_ from q];split
 .exact .inr Qay
 .exact .inr Qam
def Yt{C:Addr}(h2:Qrn):Gl Qbg x:=by
 have q:=f6 (env:=X.env) h2;show(relabel _ _).names.lookup x=some _;rw[show(relabel _ _).names.lookup x=_ from q];rfl
def m9{C:Addr}{A:Type}{arg:Qae}{Pre:Q4}{res:QaM}(F:QhQ):Fc Qbg CL x k n arg Pre res:=#[F.ex,F.room]
end
variable{ds:BC}
def Yu(h:QkZ)(a:QaR:=by exact gZ rfl):bG X CL b Qi0 δ (.sh QbC) δ1:=by
 have:=yg (cQ (pos:=pos) h (by simpa using a))
 rwa [T.dJ,fS]at this
variable{t:QaP}{pq:Pos}
def NR:bootBuiltins "int" = some QxB:=by decide +kernel
def NS:bootBuiltins "str" = some QnI:=by decide +kernel
def Hx(hm:Qu8)(a:X.mg "str" = none)(i:QwJ)(c:Gl X "str")(h:Qe9)(f:yA d=some t:=by rfl)(g:starEach [e,.Name "str" pq] X.env=(false,eval e X.env)::starEach [.Name "str" pq] X.env:=by exact aZ rfl) :
  bG X CL b (.Call QtC [e,.Name "str" pq] [] pos) δ (.sh (.bl (t=="str" || (t=="bool" && "str" == "int")))) δ1:=Ys hm a i c NS Wp Wp h f Wp g
def b7:bootBuiltins "list" = some Qnu:=by decide +kernel
def Es:bootBuiltins "tuple" = some Qwf:=by decide +kernel
def pl(sc:Scope)(l:Co):Bool:=l.all λp=>sc.names.lookup p.1==some p.2
def Yv{sc:Scope}{l:Co}(h:pl sc l=true)(i:Nat){k:NameKind}(hi:l[i]? = some (x,k)):sc.names.lookup x=some k:=by
 unfold pl at h;rw[hB]at h;exact i3.1 (h _ (gc hi))
inductive RX(X:Cx):Ch->AT->Prop where
 | nil:RX X [] []
 | cons {i:Nat} {y:Str} {ix:Ch} {ys:AT} (n:Vn X i y) (k:X.env.kindOf y=some .cell\/X.env.kindOf y=some .free) (r:RX X ix ys):RX X (i::ix) (y::ys)
noncomputable def RZ(scope:Scope)(x:Str)(a:AT):Bool:=
 scope.kind == .function&&scope.names.lookup x==some .local&&a.all QqY&&decide ((x::a).Nodup) &&
  scope.names.all λy=>y.2 != .cell&&(y.2 != .local || scope.names.lookup y.1==some .local)&&(y.2 != .free || QqN)
variable{ix:Ch}
theorem bu{d:AT}(c:RX X ix d)(ok:RZ scope x d=true):gX X scope x (x::d) ix:=by
 unfold RZ at ok;simp only[fD,hB,hq,i3]at ok;obtain⟨⟨⟨⟨h1,h2⟩,h⟩,g⟩,b⟩:=ok;have j:∀y∈d,X.env.kindOf y=some .cell\/X.env.kindOf y=some .free:=by
  clear h g b
  induction c with
  | nil=>intro y a;cases a
  | cons n k r f=>
   intro y a;obtain e|a:=ew.1 a
   .subst e;exact k
   simp_all
 refine#[h1,λy a e=>?_,g,λy a e=>?_,h2,λy a e=>?_,?_,λi hi=>?_]
 .have:=(b y a).1.1;rw[e]at this;simp at this
 .have:=(b y a).1.2;rw[e]at this;simpa using this
 .have:=(b y a).2;simp_all
 .congr 1;clear h g b j
  induction c with
  | nil=>rfl
  | cons n k r f=>rw[kz,n.hi,<- f]
 .clear g b j
  induction c with
  | nil=>cases hi
  | @cons l y ix ys n k r f=>
   obtain e|hi:=ew.1 hi
   .subst e;exact#[y,n.hi,h y eB]
   .exact f QsH hi
def D.jF:D->Int
 | .int i=>i
 | _=>0
noncomputable def D.toS:D->Str
 | .str x => x
 | _=>Str.empty
theorem gC{bs:BA}{k:Int}(h0:0<=k)(h1:k<bs.length):sA QxC k=some (.int (bs.getD k.toNat 0)):=by
 obtain⟨j,rfl⟩:∃j:Nat,k=j:=#[k.toNat,Wc];refine gq ?_;simp_all
theorem ez:∀(bs:BA),D.bC QxC=true
 | []=>rfl
 | i::r=>by rw[e4,D.bC,ez r];rfl
variable{j:Nat}
theorem oO{lo:Int}{d:D}(h:(cX lo n)[j]? = some d):d=.int (lo+j)/\j<n:=by
 have a:=by
  have:=(hR.1 h).1;simpa [cX] using this
 refine#[?_,a];unfold cX at h;rw[fT,hW a]at h;simp_all
def cG(l:QR):l.filter (λ_=>true)=l:=by simp
theorem Et{K:Frag}{CL:BM}{Z:Hp}:∀(ns:BA),aF K CL Z QxD Qdk
 | []=>.nil
 | n::r=>.cons QcL (Et r)
def adI{arg:BA->BC}{pre:BA->Prop}{res:BA->T}{ns:BA}(b:arg ns=[.lst QxD])(hp:pre ns)(d:res ns=.sh QaG)(f:jX K H a Qdk)(h0:∀x,yf x=true->CL x=0:=by intros;rfl) :
  G0 K CL 1 arg pre res [.ref a] H QlU λ_ _ _=>False:=
 #[H,ns,.refl _,λ_ _ q _=>q,by rw[b];exact .cons (.lst f (Et ns)) .nil,by rw[b];rfl,hp,λx c e=>absurd (h0 x c) e,λv H' W' fp _ _ _ _ _ r _ _=>by
  rw[d]at r;replace r:=r.HD;obtain⟨rfl,r⟩:=r;exact r.sc rfl]
mutual
def D.toPy:D->PyData
 | .non=>.none
 | .bl b=>.bool b
 | .int i=>.int i
 | .str x => .str x
 | .tup ds=>.tuple Qge
 | .lst ds=>.list Qge
 | .ins _ _=>.none
 | .jq _=>.none
 | .dct _=>.none
 | .any=>.none
 | .val _=>.none
 | .DU _ _ _=>.none
def D.oQ:BC->List PyData
 | []=>[]
 | d::ds=>d.toPy::D.oQ ds
end
inductive qH:Nat->D->Prop where
 | non (n:Nat):qH n .non
 | bl (n:Nat) (b:Bool):qH n QdJ
 | int (n:Nat) (i:Int):qH n Qa5
 | str (n:Nat) (x:Str) (h:QxE):qH n Qax
 | tup {n:Nat} {ds:BC} (h:∀d∈ds,qH n d):qH Qap QcJ
 | lst {n:Nat} {ds:BC} (h:∀d∈ds,qH n d):qH Qap QbC
def R0(a b:D):Bool:=PyData.eqv a.toPy b.toPy
theorem qH.Fn{n:Nat}:∀{ds:BC},(∀d∈ds,d.toPy.canLay0=true/\d.toPy.depth<=n)->PyData.canLayAll0 Qge=true/\PyData.depthAll Qge<=n
 | [],_=>#[ rfl,fv _ ]
 | d::ds,h=>by
  have h1:=h d eB;have h2:=qH.Fn λe he=>h e QjH;rw[D.oQ,PyData.canLayAll0,h1.1,h2.1];exact#[rfl,Nat.max_le.2 #[h1.2,h2.2]]
theorem qH.lay{d:D}(h:qH n d):d.toPy.canLay0=true/\d.toPy.depth<=n:=by
 induction h with
 | non n=>exact#[ rfl,fv _ ]
 | bl n b=>exact#[ rfl,fv _ ]
 | int n i=>exact#[ rfl,fv _ ]
 | str n x c=>exact#[ ‹_›,fv _ ]
 | @tup n ds _ a=>
  have:=qH.Fn a;rw[D.toPy,PyData.canLay0,PyData.depth];simp_all
 | @lst n ds _ a=>
  have:=qH.Fn a;rw[D.toPy,PyData.canLay0,PyData.depth];simp_all
def R1(I:QgU){d:D}{u:Value}(hd:qH n d)(q:bO X.K CL H d v)(r:Qe3):∃as,Reads s.heap u d.toPy as:=by
 refine bO.rec
  (motive_2:=λds vs _=>∀(n:Nat) (us:List _),(∀d∈ds,qH n d)->Vals vs us->∃as,ReadsAll s.heap us Qge as) (motive_3:=λ_ _ _=>True) (motive_4:=λ_ _ _=>True) (motive_5:=λ_ _ _=>True)
  (λ_ _ _ r=>?non) (λb _ _ _ r=>?bl) (λi _ _ _ r=>?int) (λx _ _ _ r=>?str) (λ_ _ _ hd _=>by cases hd) (λ_ _ _ hd _=>by cases hd) (λl _ a n u hd r=>?tup) (λl _ a n u hd r=>?lst) (λ_ _ _ _ _ hd _=>by cases hd) (λ_ _ _ _ _ hd _=>by cases hd) (λ_ _ _ _ _ hd _=>by cases hd) (λ_ _ _ _ _ _ _ hd _=>by cases hd)
  (λ_ _ _ r=>?nil) (λ_ _ a j n us h r=>?cons) trivial QaE trivial QaE trivial QaE q n u hd r
 case non=>cases r;exact#[[],.none]
 case bl=>cases r;exact#[[],.bool b]
 case int=>obtain⟨t,rfl⟩:=r;exact#[[],.int i t]
 case str=>obtain⟨t,rfl⟩:=r;exact#[[],.str x t]
 case tup=>
  cases hd with
  | tup hd=>
   cases r;obtain⟨its,f,⟨o,e,c,k,m⟩,_⟩:=I.tuple l;obtain⟨as,g⟩:=a _ _ hd f;exact#[as,.tuple e c m (‹_›)]
 case lst=>
  cases hd with
  | lst hd=>
   cases r;obtain⟨its,f,⟨o,k,e,c,_,m⟩,_⟩:=I.list l;obtain⟨as,g⟩:=a _ _ hd f;exact#[_,.list e c m (‹_›)]
 case nil=>cases r;exact#[[],.nil]
 case cons=>
  cases r with
  | cons r rs=>
   obtain⟨as,g⟩:=a n _ (h _ eB) r;obtain⟨bs,p⟩:=j n _ (λe he=>h e QjH) rs;exact#[ _,.cons g p]
variable{δ3:Ap}{e1 e2:Expr}{p2:Pos}{t:T}{dm:CI}{DD:cM}{d1 d2:D}{ds:BC}
theorem adK(k:Qfc):n9 X QwB (λx y H Q=>∃a c,bO X.K CL H a x/\bO X.K CL H c y/\qH 60 a/\qH 60 c/\Q (.bl (R0 a c)) H):=by
 intro pins s U H x y v u Q I f e h;obtain⟨a,c,g,rc,b,d,q⟩:=h;obtain⟨as,j⟩:=R1 I b g f;obtain⟨bs,i⟩:=R1 I d rc e;exact SeqAt.rcAt_reads j i b.lay.1 d.lay.1 (by have:=b.lay.2;lia) _ X.w X.xe _ #[.bl _,H,I,rfl,q]
def SS{op:CmpOp}{f:Bool->Bool}(n:n9 X Qp7 (λx y H Q=>∃a c,bO X.K CL H a x/\bO X.K CL H c y/\qH 60 a/\qH 60 c/\Q (.bl (f (R0 a c))) H))(h1:QgM)(h2:QgN)(k1:qH 60 d1)(k2:qH 60 d2)
  (hm:QuO):m5 X CL b QhE δ (f QoV) δ2/\bG X CL b QhE δ (.sh (.bl (f QoV))) δ2:=by
 constructor
 .intro H Z U ts vs Q S k;refine sP (p8 n bX bX hm) (h1 H Z U ts vs _ S λv1 H1 Z1 h e m j=>h2 H1 Z1 U ts vs _ m λv2 H2 Z2 g d l i=>?_);exact#[d1,d2,j.mono d,i,k1,k2,_,rfl,k H2 Z2 Qf4 (e.trans d) l]
 .intro H Z U ts vs Q S k;refine bU (p7 n bX bX hm) (h1 H Z U ts vs _ S λv1 H1 Z1 h e m j=>h2 H1 Z1 U ts vs _ m λv2 H2 Z2 g d l i=>?_);exact#[d1,d2,j.mono d,i,k1,k2,k _ H2 Z2 Qf4 (e.trans d) QwL]
def R3(a:Qfc)(h1:QgM)(h2:QgN)(k1:qH 60 d1)(k2:qH 60 d2):m5 X CL b Qco δ (R0 d1 d2) δ2/\bG X CL b Qco δ (.sh (.bl QoV)) δ2:=
 SS (f:=λb=>b) (adK a) h1 h2 k1 k2 (mX _)
def cutD(xs:QR)(lo hi:Bn):List α:=(xs.drop Qt6).take Qqy
theorem aF.drop{K:Frag}{Z:Hp}:∀{ds:BC} {vs:BS} (n:Nat),aF K CL Z ds vs->aF K CL Z (ds.drop n) (vs.drop n)
 | _,_,0,r=>r
 | _,_,_+1,.nil=>.nil
 | _,_,n+1,.cons _ t=>aF.drop n t
theorem aF.take{K:Frag}{Z:Hp}:∀{ds:BC} {vs:BS} (n:Nat),aF K CL Z ds vs->aF K CL Z (ds.take n) (vs.take n)
 | _,_,0,_=>.nil
 | _,_,_+1,.nil=>.nil
 | _,_,n+1,.cons r t=>.cons r (aF.take n t)
theorem aF.cut{ds:BC}(r:QiY)(lo hi:Bn):aF K CL Z (cutD ds lo hi) (Nr vs lo hi):=by
 unfold cutD Nr;rw[r.length];exact(r.drop _).take _
theorem oR:∀{ds:BC},D.bC ds=true->∀d∈ds,d.iV=true
 | [],_,_,h=>by cases h
 | d::ds,k,e,h=>by
  rw[D.bC,fD]at k;obtain h|h:=ew.1 h
  .subst h;exact k.1
  .exact oR k.2 e h
theorem fE:∀{ds:BC},(∀d∈ds,d.iV=true)->D.bC ds=true
 | [],_=>rfl
 | d::ds,h=>by rw[D.bC,h d eB,fE λe he=>h e QjH];rfl
def Yw{xs:QR}{lo hi:Bn}{x:α}(h:x∈cutD xs lo hi):x∈xs:=List.mem_of_mem_drop (tj h)
def mN(X:Cx)(CL:BM)(b:Bx)(e:QdR)(δ:Ap)(k:Bn)(δ':Ap):Prop:=
 ∃t,PO X e t/\∀(H Z:Hp) (U:L2.St) (ts:Bz) (vs:BS) (Q:Qxx),bP X.K CL b H Z δ U ts vs->(∀H' Z',aA Z Z'->aA H H'->bP X.K CL b H' Z' δ' U ts vs->Q k H')->t U H Q
def cH:mN X CL b none δ none δ:=#[_,XZ,λH Z U ts vs Q S k=>k H Z QA QA S]
def bS{k:Int}(h:Qte):mN X CL b (some e) δ (some k) δ1:=#[_,X3 bX,λH Z U ts vs Q S kk=>h H Z U ts vs _ S λv H1 Z1 a k1 c r=>#[k,r.sc rfl,kk H1 Z1 a k1 c]]
def dz{lo hi:QdR}{l h:Bn}(h1:Qfa)(g:QgQ)(h2:Ql0)(w:Ql1):bG X CL b Qhi δ (.lst ((cutD ds l h).map T.sh)) δ3:=λH Z U ts vs Q S k=>by
 obtain⟨t2,f,q⟩:=h2;obtain⟨t3,a,o⟩:=w;refine bU (yb X4 bX f a) (h1 H Z U ts vs _ S λv H1 Z1 n k1 z r=>q H1 Z1 U ts vs _ z λH2 Z2 m k2 y=>o H2 Z2 U ts vs _ y λA Z3 j k3 i=>?_);have t:=r.mono (k2.trans k3);obtain⟨_,_,rfl,u,s⟩:=t.gR;refine#[_,_,rfl,u,λp hp=>?_];have rc:=aF.iV i.tp (fE λd hd=>oR g d (Yw hd)) (s.cut l h);obtain⟨c,x⟩:=(bP.nX rc i).rP (g0:=[]) (by simp[rc.length]) hp;exact k _ _ _ (n.trans (m.trans j)) Qro x
def lZ(hm:X.mg "tuple" = none)(h:Qfa)(hi:QgQ)(p:Gl X "tuple")(f:QaD:=by exact aZ rfl):bG X CL b (.Call (.Name "tuple" pp) [e] [] pos) δ (.sh QcJ) δ1:=λH Z U ts vs Q S k=>
 bU (lU Af p hm Es Qok (he:=f)) (h H Z U ts vs _ S λv H1 Z1 m k1 i r=>by
  obtain⟨_,_,rfl,n,d⟩:=r.gR;refine#[_,_,rfl,.inl #[n,λl o=>?_]];obtain⟨a,c,q⟩:=(bP.nX (aF.iV i.tp hi d) i).rO (by simp[d.length]) o;obtain⟨Z3,j,g⟩:=q.uF;rw[T.dJ,fS]at g;exact k _ _ Z3 (m.trans (a.trans j)) QfZ g)
def gA{Yr:Bz}{pa pb:Pos}(n:QaZ)(h0:δ[i]? = some Qm4)(h:Qaw)(h1:δ1[i]? = some QfU)(g:Qm5)(k:cK X CL b dm (δ1.set i QnR) DD)
  (j:Qqf:=by rfl)
  (d:QgS:=by rfl)
  (a:QgT:=by rfl) (f:QaD:=by exact aZ rfl) (c:Qq2:=by rfl) :
  cK X CL b (.Expr Qkp pos::dm) δ DD:=
 bI (adF i h0 h h1 (oC g Wp) k n.hi n.hv n.hd n.iA j d a f c)
def aP(hn:ds.length=n)(hm:Qi1)(h:Qfa)(c:Qj9)(a:QaD:=by exact aZ rfl):bG X CL b QkR δ (.sh QcL) δ1:=by
 subst hn;exact K1 hm h c a
def aT(h:Qse):b5 X CL b e δ (.lst ds) δ1:=by
 have:=LU h
 rwa [T.dJ,fS]at this
theorem gE{f:α->D}{l:QR}{k:Int}(z:α)(h0:0<=k)(h1:QgV):sA QbD k=some (f QvI):=by
 obtain⟨j,rfl⟩:∃j:Nat,k=j:=#[k.toNat,Wc];refine gq ?_;simp_all
theorem Eu{β:Type}{f:Qka}{l:QR}{lo hi:Bn}:cutD QbD lo hi=(cutD l lo hi).map f:=by
 unfold cutD;simp_all
theorem cR{α:Type}{f:α->D}(h:∀a,(f a).iV=true):∀(l:QR),D.bC QbD=true
 | []=>rfl
 | a::l=>by rw[e4,D.bC,h a,cR h l];rfl
variable{d:D}
def Yx{k:Int}{u:Tok}(hm:X.mg x=some (.int k u))(a:Qad)(hd:AD x:=by decide):bG X CL b QaA δ (.sh QeK) δ:=λH Z U ts vs Q S kk=>
 bU (BQ (v:=.int k) a hm #[u,rfl] hd) (kk _ H Z QA QA (S.push QeK))
def aJ{k:Int}(hm:∃u,X.mg x=some (.int k u))(a:Qad)(hd:AD x:=by decide):bG X CL b QaA δ (.sh QeK) δ:=by
 obtain⟨u,hm⟩:=hm;exact Yx hm a hd
def vE(n:QaZ)(h:δ[i]? = some QaJ)(e:t.dJ=d):b5 X CL b QaA δ d δ:=e▸vB n h
theorem ng(x:Str):∀l:AT,nu Qax Qcz=decide QbS
 | []=>by simp[nu]
 | y::l=>by
  have b:=ng x l;unfold nu at b ⊢;have e:∀a c,X5 (.str a) (.str c)=(a==c):=λ_ _=>rfl;grind
theorem aF.strs{K:Frag}{Z:Hp}:∀{l:AT} {vs:BS},aF K CL Z (l.map D.str) vs->vs=l.map V.str
 | [],_,r=>by
  have a:=r;cases a;rfl
 | y::l,_,r=>by
  have a:=r;cases a with
  | cons c b=>rw[c.sc rfl,aF.strs b];rfl
theorem fF:∀l:AT,(l.map V.str).all qM=true
 | []=>rfl
 | y::l=>by rw[e4,n3,fF l];rfl
variable{l:AT}
def mh(h1:Qc0)(h2:b5 X CL b e2 δ1 QnS δ2)(hm:QhR) :
  m5 X CL b Qc1 δ (decide QbS) δ2/\bG X CL b Qc1 δ (.sh QlW) δ2:=by
 constructor
 .intro H Z U ts vs Q S k;refine sP QwM (h1 H Z U ts vs _ S λv1 H1 Z1 d k1 j a=>h2 H1 Z1 U ts vs _ j λv2 H2 Z2 c k2 i g=>?_);obtain⟨_,_,rfl,h,f⟩:=g.rN;have e:=f.strs;subst e;refine#[_,_,rfl,.inr h,by rw[a.sc rfl];rfl,fF l,_,rfl,?_];rw[cq gm,a.sc rfl,ng];exact k H2 Z2 QeE Qaf i
 .intro H Z U ts vs Q S k;refine bU QwN (h1 H Z U ts vs _ S λv1 H1 Z1 d k1 j a=>h2 H1 Z1 U ts vs _ j λv2 H2 Z2 c k2 i g=>?_);obtain⟨_,_,rfl,h,f⟩:=g.rN;have e:=f.strs;subst e;refine#[_,_,rfl,.inr h,by rw[a.sc rfl];rfl,fF l,?_];rw[cq gm,a.sc rfl,ng];exact k _ H2 Z2 QeE Qaf QwO
def gF(h1:Qc0)(h2:Bb X CL b es δ1 ((l.map D.str).map T.sh) δ2)(a:(l.map D.str).length<=sizeLine:=by exact gZ rfl) :
  m5 X CL b Qrp δ (decide QbS) δ2/\bG X CL b Qrp δ (.sh QlW) δ2:=mh h1 (ak (aV h2 a)) rfl
noncomputable def yk:Expr->Option Str
 | .Constant (.str x) _ _=>some x
 | _=>none
def uJ:CC->Option AT
 | []=>some []
 | e::es=>(yk e).bind λx=>(uJ es).map (x::·)
theorem Ew(h:yk e=some x):∃j p,e=.Constant Qax j p:=by
 unfold yk at h;split at h
 .cases h;grind
 .cases h
theorem eF:∀{es:CC} {l:AT},uJ es=some l->Bb X CL b es δ ((l.map D.str).map T.sh) δ
 | [],l,h=>by
  have e:=(fO h).symm;subst e;exact cj
 | e::es,l,h=>by
  rw[uJ]at h;obtain⟨x,a,h⟩:=Option.bind_eq_some_iff.1 h;obtain⟨d,c,rfl⟩:=j1.1 h;obtain⟨j,p,rfl⟩:=Ew a;exact bF bQ (eF c)
def SO{a:Stmt}(J:Ap->Prop)(k:∀δ2,J δ2->cK X CL b dm δ2 DD)(h:(∀δ2,J δ2->cK X CL b dm δ2 DD)->cK X CL b (a::dm) δ DD):cK X CL b (a::dm) δ DD:=h k
theorem ym{l:QR}{k:Int}(z:α)(h0:0<=k)(h1:QgV):sA l k=some QvI:=by
 obtain⟨j,rfl⟩:∃j:Nat,k=j:=#[k.toNat,Wc];refine gq ?_;have a:j<l.length:=by lia
 rw[gh a];simp[List.getD,a]
def str_len(x y:Str):(x++y).length=x.length+y.length:=by
 show(x.cps++y.cps).size=_;rw[Array.size_append];rfl
def adL(x y:Str)(h1:QxE)(h2:PyData.strOk y=true):PyData.strOk (x++y)=true:=by
 unfold PyData.strOk at *;show(x.cps++y.cps).all _=true;rw[Array.all_append,h1,h2];rfl
def vQ(l:BA):T.cA ((l.map D.int).map T.sh)=true:=by
 rw[ey]
 induction l with
 | nil=>rfl
 | cons i r a=>rw[e4,T.cA,a];rfl
variable{ds:BC}
def G2(n:QaZ)(h:δ[i]? = some Qyn):bG X CL b QaA δ (.sh QbC) (δ.set i (some (.sh QbC))):=by
 have:=vF (CL:=CL) (b:=b) (pos:=pos) n h
 rwa [T.dJ,fS]at this
theorem sO.get:∀{fs:ET} {gs:CA} {f:Str} {d:D},sO K CL Z fs gs->fs.lookup f=some d->∃v,gs.lookup f=some v/\bO K CL Z d v
 | _,_,_,_,.nil,e=>by simp at e
 | _,_,f,d,.cons (x:=x) r t,e=>by
  rw[h7]at e ⊢;cases h:f==x with
  | true=>rw[h]at e;grind
  | false=>rw[h]at e;exact sO.get t e
def Ak(f:Str)(t:T):B1->B1
 | []=>[(f,t)]
 | (g,x)::r=>if g=f then(g,t)::r else(g,x)::Ak f t r
theorem cL.length{fs:B1}{gs:CA}(h:cL K CL H Z fs gs fp):fs.length=gs.length:=
 cL.ind (P:=λd v _=>d.length=v.length) rfl QhG h
theorem cL.put{f:Str}{g:BY}{fs:B1}{gs:CA}(q:Qxz):cL K CL H Z fs gs fp →
  ∃b a,cL K CL H Z QoB (lB f v gs) b/\a.Sublist fp/\b.Perm (g++a):=
 cL.ind (P:=λfs gs fp=>∃b a,cL K CL H Z QoB (lB f v gs) b/\a.Sublist fp/\b.Perm (g++a)) #[ _,[],.cons q .nil,jW _,List.Perm.refl _] λ{x _ _ _ _ fp gp} r rs i=>by
  rw[Ak,lB];by_cases h:x=f
  .rw[dU h,dU h];exact#[ _,gp,.cons q rs,tI _ _,List.Perm.refl _]
  .rw[cq h,cq h];obtain⟨p,p',h1,h2,c⟩:=i;refine#[ _,_,.cons r h1,lA (jW _) h2,(ka fp c).trans ?_];rw[<- fb,<- fb];exact km.append_right p'
theorem bP.R4{o:HO}{f gp e:BY}(hm:iQ o=false)(S:QaQ)(own:∀c∈fp++gp,Z c=none/\b.B c=none)(j:a∈fp++gp)
  (k:fK K CL Qa4 Z δ2 U f) (h:aQ K CL Qa4 Z tl us e) (pm:(f++e).Nodup) (sub:∀c∈f++e,c∈fp++gp) :
  bP K CL b Qa4 Z δ2 U tl us:=by
 have g:=own a j;refine#[#[_,_,k,h,pm,λc d=>own c (sub c d)],λc u q=>?_,S.zz,λc u q=>?_,S.new,λc u q i=>?_,S.tab]
 .rw[ay (bz q g.2)];exact S.bh c u q
 .rw[ay (bz q g.1)];exact S.zh c u q
 .by_cases d:c=a
  .subst d;rw[aM]at q;grind
  .rw[ay d]at q;exact S.tp c u q i
variable{c f:Str}{d:D}{fs:ET}
def bL(j:Qol)(n:QnK)(h:b5 X CL b e δ (.ins c fs) δ1)(i:fs.lookup f=some d)(hb:AS X e f:=by rfl) :
  b5 X CL b Qic δ d δ1:=λH Z U ts vs Q S k=>
 bU (Q9 bX hb) (h H Z U ts vs _ S λv H' Z' z s m r=>by
  obtain⟨a,dx,gs,rfl,l,g⟩:=r.NC;obtain⟨w,hw,o⟩:=g.get i;exact#[a,CL c,dx,gs,w,rfl,l,j,n,hw,k w H' Z' z s m o])
def nh(l:Qol)(n:QnK)(h:bG X CL b e δ (.sh QeF) δ1)(j:fs.lookup f=some d)(hb:AS X e f:=by rfl) :
  bG X CL b Qic δ (.sh d) δ1:=λH Z U ts vs Q S k=>
 bU (Q9 bX hb) (h H Z U ts vs _ S λv H' Z' z s g=>by
  obtain⟨fp,gp,_,r,_,_⟩:=g.rep;cases r with
  | cons r _=>
   replace r:=r.HD;obtain⟨rfl,r⟩:=r;obtain⟨a,dx,gs,rfl,m,i⟩:=r.NC;obtain⟨w,hw,o⟩:=i.get j;exact#[a,CL c,dx,gs,w,rfl,g.zh _ _ m,l,n,hw,k w H' Z' z s (g.pop.push o)])
def rx(K:Frag)(CL:BM){A:Type}(c:Str)(n:Nat)(arg:Qae)(Pre:Q4)(res:Qfd):Sp:=λvs H Q _=>
 ∃(W b:Hp) (a:A) (x dx:Addr) (us:BS),vs=.ref x::us/\b x=none/\b dx=none/\dx≠x/\H=upd (upd b dx Qf6) x Qu9 ∧
  aA W b/\(∀c o,b c=some o->iQ o=true->W c=some o)/\aF K CL W Qdm us/\(arg a).length+1=n/\Pre a/\j4 CL W ∧
  ∀H' W' fp,aA b H'->aA W W'->aA W' H'->(∀c o,W' c=some o->W c=none->b c=none)->(∀c o,H' c=some o->iQ o=true->W' c=some o) →
   bJ K CL H' W' Qyo Qdy fp->fp.Nodup->(∀c∈fp,W' c=none/\b c=none)->Q .non H'
variable{A:Type}{f:Addr}{arg:Qae}{Pre:Q4}
def Yy{res:Qfd}(a:A)(M:Mk X.K (CL c) f)(F:e9 X.prog X.w X.K X.mg X.base uE k f fd ps (rx X.K CL c n arg Pre res))(s:Qjd)(hm:X.mg x=some Qdn)(hb:Qiv)
  (h:QgR) (hn:(arg a).length+1=n) (hp:Pre a) (v:T.cC QdC=true) (t:Qad)
  (o:AD x:=by decide) (he:Qaz:=by exact aZ rfl) (hpl:QaY:=by rfl) :
  bG X CL b Qbn δ (.ins c QdC) δ1:=λH Z U ts vs Q S kk=>
 bU (KQ M F s t hm hb .nil Eg DV o he hpl) (h H Z U ts vs _ S λus H1 Z1 j k1 g r x dx p d ne=>by
  rw[ft];refine#[H1,H1,a,x,dx,us,rfl,p,d,ne,rfl,.refl _,λ_ _ q _=>q,r,hn,hp,g.NF,λH' W' fp i ww m nw tp rt nd own=>#[rfl,?_]];obtain⟨Z',l,u⟩:=g.back i g.zh ww m nw tp rt nd own (.inr (‹_›));exact kk _ H' Z' (j.trans l) (k1.trans i) u)
def K4{arg:Qae}{Pre:Q4}{res:Qfd}(F:QdS)(S:QcU)
  (hb:∀(eS:Value) (l:Qat) (outer:Cn) (s:Qr) (H:Hp) (E:XK) (b:Bx) (a:A) (y:Addr),dX k (l.deeper Qfm)->Pre a →
   cK (mY uE P w K mg base N qual Qas f eS l outer s H E).Xl CL b Qbb (some Qva::((arg a).map QhT++List.replicate (N.length-((arg a).length+1)) none))
    {nx:=λδ=>δ[0]? = some (some (.pin y Qyo)),rt:=λ_ _=>False}) :
  e9 P w K mg base uE Qac f fd ps (rx K CL c ps.length arg Pre res):=by
 refine K2 F S (λvs H Q E h=>?_) (λeS l outer s H vs Q E _ D h=>?_)
 .obtain⟨W,j,a,y,dx,us,rfl,_,_,_,_,_,_,r,B,_⟩:=h;rw[gv,<- r.length];exact B
 .obtain⟨W,j,a,y,dx,us,rfl,m,n,ne,rfl,u,tp,r,B,hp,tb,kk⟩:=h;have old:∀{d:Addr} {o:HO},j d=some o->upd (upd j dx (.own y)) y Qu9 d=some o:=λ{d o} q=>by
   rw[ay (bz q m),ay (bz q n)];exact q
  refine#[_,RB,hb eS l outer s _ E #[j,W] a y D hp _ W _ [] [] _ #[#[[y]++[],[],?_,.nil,W2,λd hd=>?_],λd o q=>old q,.refl _,λd o q=>old (u d o q),λd o q z=>?_,λd o q i=>?_,tb] #[λδ' U' H' Z' s' g e=>?_,λt v H' Z' δ' U' s' g e=>e.elim,λ_ _ _ _ _ _ e=>e.elim,λ_ _ _ _ _ _ e=>e.elim]]
  .unfold L2.start;rw[e4,gv,iu,<- r.length];exact .cons (.pin (.ins aM .nil)) (j6 _ r)
  .have:d=y:=by simpa using hd
   subst this;exact#[adw u m,m]
  .have q':W d=some o:=q;have p:W d=none:=z;rw[q']at p;cases p
  .by_cases h1:d=y
   .subst h1;rw[aM]at q;cases q;cases i
   .rw[ay h1]at q;by_cases h2:d=dx
    .subst h2;rw[aM]at q;cases q;cases i
    .rw[ay h2]at q;exact tp d o q i
  .obtain⟨fp,gp,G,_,nd,own⟩:=g.rep;obtain⟨v,f1,f2,I,hv,C,rt,_,_⟩:=G.get e;subst C;replace rt:=rt.Le;obtain⟨rfl,rt⟩:=rt;refine kk H' Z' f2 g.bh g.zz g.zh g.new g.tp rt ?_ λd hd=>own d (by simp[hd]);have h1:=(iw.1 nd).1;exact(iw.1 (iw.1 h1).2.1).1
variable{body:CI}{ds rT:BC}
theorem Cd(g:Gx X)(P:QiJ)(m:Nat)(h0:P m δ)
  (k:∀m δ,P m δ->∃p δ1,m5 X CL b e δ p δ1 ∧
   (p=true->cK X CL b body δ1 {nx:=λδ2=>∃a,a<m/\P a δ2,rt:=DD.rt,bk:=λδ2=>cK X CL b dm δ2 DD,ct:=λδ2=>∃a,a<m/\P a δ2})/\(p=false->cK X CL b dm δ1 DD)) :
  cK X CL b (.While e body [] pos::dm) δ DD:=bI λH Z U ts vs E S M=>
 mZ (QX g.xe l7 RB) (by
  refine#[λm U H=>∃Z2 δ2,aA Z Z2/\bP X.K CL b H Z2 δ2 U ts vs/\P m δ2,#[m,Z,δ,.refl _,S,h0],?_];rintro m U H ⟨Z2,δ2,f,n,p2⟩;obtain⟨p,δ3,j,h1,h2⟩:=k m δ2 p2;refine j H Z2 U ts vs _ n λi Z3 d k3 h=>?_;cases p with
  | true=>
   refine#[ _,λU' H' q=>q,?_];refine h1 rfl i Z3 U ts vs _ h #[λδ' U' H' Z' s' c ⟨a,l,q⟩=>#[a,l,Z',δ',f.trans QmV,c,q],λt v H' Z' δ' U' s' c q=>M.rt t v H' Z' δ' U' Qye c q,
    λδ' U' H' Z' s' c q=>M.nx δ' U' H' Z' Qye c q,λδ' U' H' Z' s' c ⟨a,l,q⟩=>#[a,l,Z',δ',f.trans QmV,c,q]]
  | false=>
   exact M.nx δ3 U i Z3 Qf5 h (h2 rfl))
def YU(K:Frag):R2:=λx y H Q=>∃l b xs zs,x=.ref l/\y=.ref b/\jX K H l xs/\jX K H b zs/\xs.length+zs.length<=sizeLine/\∀p,H p=none->Q Qbw (upd H p Qxy)
theorem K5:n9 X Qeo (YU X.K):=by
 intro pins s U H x y v u Q I j i h;obtain⟨l,b,xs,zs,rfl,rfl,o,p,hz,q⟩:=h;cases j;cases i;obtain⟨its,r,k,_⟩:=I.list o;obtain⟨d,e,a,_⟩:=I.list p;have e1:=r.length;have e2:=e.length;obtain⟨⟨c1,dd,z,sl⟩,f,m,n,hd⟩:=k.isList;obtain⟨⟨c2,c,w,A⟩,g,B,n2,hd2⟩:=a.isList;cases m;cases B;cases hd;cases hd2;refine concat_meets #[_,f,rfl] #[_,g,rfl] noFill_list_add seq_list_add PySem.F.slot_list_add PySem.F.entry_list_add (PySem.F.args_list_add_2 _ _)
  (list_addW l b _ _ n n2 dd c sl A WE) #[f,g,?_]
 have t:its.toArray++d.toArray=(its++d).toArray:=by simp
 rw[t];exact#[.ref _,_,I.Ro (r.append e) WA,rfl,q _ I.fresh]
theorem aF.app{ds rT:BC}{a:BS}(h:QiY)(b:aF K CL Z rT a):aF K CL Z (ds++rT) (vs++a):=
 aF.ind (P:=λds vs=>aF K CL Z (ds++rT) (vs++a)) b (λr _ i=>.cons r i) h
def gQ(h1:QsG)(h2:b5 X CL b e2 δ1 (.lst rT) δ2)(i1:QgQ)(i2:D.bC rT=true)(hz:QgW) :
  bG X CL b Qc4 δ (.lst ((ds++rT).map T.sh)) δ2:=λH Z U ts vs Q S k=>
 bU (A3 K5 bX bX) (h1 H Z U ts vs _ S λv1 H1 Z1 h k1 n j=>h2 H1 Z1 U ts vs _ n λv2 H2 Z2 g k2 d i=>by
  have a:=j.mono k2;obtain⟨_,_,rfl,o,f⟩:=a.gR;obtain⟨_,_,rfl,l,e⟩:=i.gR;refine#[_,_,_,_,rfl,rfl,o,l,by rw[<- f.length,<- e.length];exact hz,λp hp=>?_];have rc:=aF.app (aF.iV d.tp i1 f) (aF.iV d.tp i2 e);obtain⟨c,m⟩:=(bP.nX rc d).rP (g0:=[]) (by simp[f.length,e.length]) hp;exact k _ _ _ Qf4 Qd8 m)
def boot_min:bootBuiltins "min" = some QvG:=by decide +kernel
def boot_str:bootBuiltins "str" = some QnI:=by decide +kernel
def Yz{i j:Int}(g:Gx X)(hm:X.mg "min" = none)(f:Gl X "min")(h:GZ X CL b [e1,e2] δ [.int i,.int j] δ1)(e:Qkv:=by exact aZ rfl)(hpl:(backTo pos (starEach [e2] X.env)).any (·.1)=false:=by rfl) :
  bG X CL b (.Call (.Name "min" pp) [e1,e2] [] pos) δ (.sh Qq1) δ1:=λH Z U ts vs Q S k=>
 bU (oG (Nh g.calm) f hm boot_min DV (he:=e) (hpl:=hpl)) (h H Z U ts vs _ S λus H1 Z1 a k1 l r=>by
  cases r with
  | cons d r=>
   cases r with
   | cons c r=>
    cases r;rw[d.sc rfl,c.sc rfl];exact#[i,j,rfl,k _ H1 Z1 a k1 (l.push QbU)])
def Ce{i:Int}(hm:X.mg "str" = none)(d:Gl X "str")(h:Qtg)(hi:QwP)(a:QaD:=by exact aZ rfl) :
  bG X CL b (.Call (.Name "str" pp) [e] [] pos) δ (.sh (.str QiH)) δ1:=λH Z U ts vs Q S k=>
 bU (lU BV d hm boot_str Qjg (he:=a)) (h H Z U ts vs _ S λv H1 Z1 c k1 f r=>r.sc rfl▸#[i,rfl,hi,k _ H1 Z1 c k1 (f.push QcK)])
structure Fm(X:Cx)(CL:BM)(x:Str)(k n:Nat){A:Type}(arg:Qae)(Pre:Q4)(res:Qfd):Prop where
 ex:∃f fd ps,Mk X.K (CL x) f/\e9 X.prog X.w X.K X.mg X.base uE k f fd ps (rx X.K CL x n arg Pre res)/\X.mg x=some (.ref (CL x))/\Binds X.K fd ps []
 room:dX Qac X.A
structure Fq(X:Cx)(CL:BM)(c m:Str)(k n:Nat){A:Type}(arg:Qae)(Pre:Q4)(res:QaM):Prop where
 ex:∃f fd ps,Meth X.K (CL c) m f/\e9 X.prog X.w X.K X.mg X.base uE k f fd ps QkM/\Binds X.K fd ps []
 room:dX k X.A
 cls:GX X.K (CL c)
def R5(N:AT)(y:Addr)(c:Str)(ds:BC):Ap:=some Qva::(ds.map QhT++List.replicate (N.length-(ds.length+1)) none)
def adM{b:BM}{arg:BA->BC}{pre:BA->Prop}{res:BA->T}(m:∀a,arg a=[.lst QfM])(j:∀a,res a=.sh QaG)(h0:∀x,yf x=true->CL x=0) :
  ∀(vs:BS) (H:Hp) (Q:VK) (E:XK),G0 K b 1 arg pre res vs H Q E->G0 K CL 1 arg pre res vs H Q E:=by
 rintro vs H Q E ⟨W,a,h1,h2,d,o,n,_,k⟩;have c:∀{l:BA} {us:BS},aF K b W Qf0 us->aF K CL W Qf0 us:=by
  intro l
  induction l with
  | nil=>intro us r;cases r;exact .nil
  | cons i l g=>
   intro us r;cases r with
   | cons r t=>cases r;exact .cons Qa5 (g t)
 refine#[W,a,h1,h2,?_,o,n,λx h e=>absurd (h0 x h) e,λv H' W' fp a1 a2 a3 a4 a5 r nd own=>k v H' W' fp a1 a2 a3 a4 a5 ?_ nd own]
 .rw[m]at d ⊢;cases d with
  | cons r t=>
   cases t;obtain⟨_,_,rfl,q,f⟩:=r.gR;exact .cons (.lst q (c f)) .nil
 .rw[j]at r ⊢;replace r:=r.HD;obtain⟨rfl,r⟩:=r;cases r;exact .sh Qcg
section
variable{m:Str}{D:cM}
def mk_{arg:Qae}{Pre:Q4}{res:Qfd}(a:A)(F:QtS)(d:Qad)(h:QgR)(hp:Pre a)(g:T.cC QdC=true)(hn:(arg a).length+1=n:=by rfl)
  (c:AD x:=by decide) (he:Qaz:=by exact aZ rfl) (hpl:QaY:=by rfl) :
  bG X CL b Qbn δ (.ins x QdC) δ1:=by
 obtain⟨f,fd,ps,M,i,m,b⟩:=F.ex;exact Yy a M i F.room m b h hn hp g d c he hpl
end
def K6{f:Str}{d:α}{fs:List (Str×α)}:((f,d)::fs).lookup f=some d:=by simp
variable{d:L3.D}
theorem Cg(x:Int):∀l:BA,nu QjL (l.map V.int)=decide QbS
 | []=>rfl
 | y::l=>by
  have a:=Cg x l;unfold nu at a ⊢;rw[e4,lx,a];show(y==x || _)=_;by_cases h:y=x
  .subst h;simp
  .have h':¬ x=y:=λe=>h e.symm;simp[h,h']
theorem aF.ints{K:Frag}{Z:Hp}:∀{l:BA} {vs:BS},aF K CL Z (l.map D.int) vs->vs=l.map V.int
 | [],_,r=>by
  have a:=r;cases a;rfl
 | y::l,_,r=>by
  have a:=r;cases a with
  | cons c b=>rw[c.sc rfl,aF.ints b];rfl
theorem ni:∀l:BA,(l.map V.int).all qM=true
 | []=>rfl
 | y::l=>by rw[e4,n3,ni l];rfl
def yo(d:L3.D):Option BC:=match d with
 | .lst ds=>some ds
 | .tup ds=>some ds
 | _=>none
theorem bO.yo{ds:BC}(r:QdU)(h:L3.yo d=some ds):∃p us,v=.ref p/\(jX K Z p us\/lS K Z p us)/\aF K CL Z ds us:=by
 cases r with
 | tup b a=>cases h;exact#[_,_,rfl,.inr b,a]
 | lst b a=>cases h;exact#[_,_,rfl,.inl b,a]
 | non=>cases h
 | bl=>cases h
 | int=>cases h
 | str=>cases h
 | any=>cases h
 | val=>cases h
 | jq=>cases h
 | dct=>cases h
 | ins=>cases h
 | DU=>cases h
def YB{l:BA}{i:Int}(h1:Qbf)(h2:Ql2)(hd:L3.yo d=some Qf0)(hm:QhB) :
  m5 X CL b QcZ δ (!decide (i∈l)) δ2/\bG X CL b QcZ δ (.sh (.bl (!decide (i∈l)))) δ2:=by
 constructor
 .intro H Z U ts vs Q S k;refine sP QwQ (h1 H Z U ts vs _ S λv1 H1 Z1 f k1 n a=>h2 H1 Z1 U ts vs _ n λv2 H2 Z2 c k2 m h=>?_);obtain⟨p,us,rfl,j,g⟩:=bO.yo h hd;have e:=g.ints;subst e;refine#[_,_,rfl,j,by rw[a.sc rfl];rfl,ni l,_,rfl,?_];rw[a.sc rfl,Cg];exact k H2 Z2 Qds Qaf m
 .intro H Z U ts vs Q S k;refine bU QwR (h1 H Z U ts vs _ S λv1 H1 Z1 f k1 n a=>h2 H1 Z1 U ts vs _ n λv2 H2 Z2 c k2 m h=>?_);obtain⟨p,us,rfl,j,g⟩:=bO.yo h hd;have e:=g.ints;subst e;refine#[_,_,rfl,j,by rw[a.sc rfl];rfl,ni l,?_];rw[a.sc rfl,Cg];exact k _ H2 Z2 Qds Qaf (m.push Qcg)
def K7(h1:Qc0)(h2:Ql2)(hd:L3.yo d=some QbR)(hm:QhR) :
  m5 X CL b Qc1 δ (decide QbS) δ2/\bG X CL b Qc1 δ (.sh QlW) δ2:=by
 constructor
 .intro H Z U ts vs Q S k;refine sP QwM (h1 H Z U ts vs _ S λv1 H1 Z1 f k1 m a=>h2 H1 Z1 U ts vs _ m λv2 H2 Z2 c k2 j h=>?_);obtain⟨p,us,rfl,i,g⟩:=bO.yo h hd;have e:=g.strs;subst e;refine#[_,_,rfl,i,by rw[a.sc rfl];rfl,fF l,_,rfl,?_];rw[a.sc rfl,ng];exact k H2 Z2 Qds Qaf j
 .intro H Z U ts vs Q S k;refine bU QwN (h1 H Z U ts vs _ S λv1 H1 Z1 f k1 m a=>h2 H1 Z1 U ts vs _ m λv2 H2 Z2 c k2 j h=>?_);obtain⟨p,us,rfl,i,g⟩:=bO.yo h hd;have e:=g.strs;subst e;refine#[_,_,rfl,i,by rw[a.sc rfl];rfl,fF l,?_];rw[a.sc rfl,ng];exact k _ H2 Z2 Qds Qaf QwS
def sU(h1:Qc0)(h2:Ql2)(hd:L3.yo d=some QbR)(hm:QhB) :
  m5 X CL b QcZ δ (!decide QbS) δ2/\bG X CL b QcZ δ (.sh (.bl (!decide QbS))) δ2:=by
 constructor
 .intro H Z U ts vs Q S k;refine sP QwQ (h1 H Z U ts vs _ S λv1 H1 Z1 f k1 m a=>h2 H1 Z1 U ts vs _ m λv2 H2 Z2 c k2 j h=>?_);obtain⟨p,us,rfl,i,g⟩:=bO.yo h hd;have e:=g.strs;subst e;refine#[_,_,rfl,i,by rw[a.sc rfl];rfl,fF l,_,rfl,?_];rw[a.sc rfl,ng];exact k H2 Z2 Qds Qaf j
 .intro H Z U ts vs Q S k;refine bU QwR (h1 H Z U ts vs _ S λv1 H1 Z1 f k1 m a=>h2 H1 Z1 U ts vs _ m λv2 H2 Z2 c k2 j h=>?_);obtain⟨p,us,rfl,i,g⟩:=bO.yo h hd;have e:=g.strs;subst e;refine#[_,_,rfl,i,by rw[a.sc rfl];rfl,fF l,?_];rw[a.sc rfl,ng];exact k _ H2 Z2 Qds Qaf QwS
variable{ds:BC}
def bw:Bb X CL b [] δ (([]:BC).map T.sh) δ:=cj
def av(h1:Qlv)(h2:Bb X CL b es δ1 Qby δ2)(a:Qaz:=by exact aZ rfl):Bb X CL b Qan δ ((d::ds).map T.sh) δ2:=bF h1 h2 a
theorem iF(h:QkZ)(a:QaR):bG X CL b Qi0 δ (.lst Qby) δ1:=cQ h WA
def cu(l:AT):D.bC QiD=true:=cR Qal _
def qd(h:Qse):bG X CL b e δ (.sh QbC) δ1:=by
 have:=yg h
 rwa [T.dJ,fS]at this
def fU(h:Qaw)(q:t.dJ=d):bG X CL b e δ (.sh d) δ1:=q▸yg h
def yp{d2:L3.D}(h:Qe9)(q:d=d2):b5 X CL b e δ d2 δ1:=q▸h
def aI{t2:T}(h:Qaw)(q:t=t2):bG X CL b e δ t2 δ1:=q▸h
structure Am(Z H Z' H':Hp):Prop where
 z:aA Z Z'
 h:aA H H'
 zh:aA Z' H'
 new:∀a o,Z' a=some o->Z a=none->H a=none
 tp:∀a o,H' a=some o->iQ o=true->Z' a=some o
theorem Am.refl(zh:Qfe)(tp:∀a o,H a=some o->iQ o=true->Z a=some o):Am Z H Z H:=#[.refl _,.refl _,zh,λa o q z=>WE,tp]
theorem Am.tup(zh:Qfe)(tp:∀a o,H a=some o->iQ o=true->Z a=some o)(hp:QgL):Am Z H (upd Z p QaV) (upd H p QaV):=by
 have b:=zh.free hp;refine#[aA.upd b,aA.upd hp,λa o q=>?_,λa o q z=>?_,λa o q i=>?_]
 .by_cases e:a=p
  .subst e;rw[aM]at q ⊢;exact q
  .rw[ay e]at q ⊢;exact zh a o q
 .by_cases e:a=p
  .subst e;exact hp
  .rw[ay e,z]at q;cases q
 .by_cases e:a=p
  .subst e;rw[aM]at q ⊢;exact q
  .rw[ay e]at q ⊢;exact tp a o q i
theorem bP.grow(S:QaQ)(g:Am Z H Z' H'):bP K CL b H' Z' δ U ts vs:=by
 obtain⟨fp,gp,e,r,nd,k⟩:=S.rep;have old:=λa c=>(eC.1 c).elim (e.there a) (r.there a);have keep:∀a∈fp++gp,H' a=H a:=λa c=>by
  obtain⟨o,q⟩:=old a c;rw[q];exact g.h a o q
 refine#[#[fp,gp,e.mono g.z (λa c=>keep a (hj _ c)),r.mono g.z (λa c=>keep a (fx _ c)),nd,λa c=>#[?_,(k a c).2]],S.bh.trans g.h,S.zz.trans g.z,g.zh,λa o q z=>?_,g.tp,S.tab]
 .cases q:Z' a with
  | none=>rfl
  | some o=>
   obtain⟨u,d⟩:=old a c;rw[g.new a o q (k a c).1]at d;cases d
 .cases e2:Z a with
  | none=>exact S.bh.free (g.new a o q e2)
  | some u=>
   have:=g.z a u e2;rw[q]at this;cases this;exact S.new a o e2 z
def K8(δ:Ap):Ch->BC->Ap
 | i::is,d::ds=>K8 (δ.set i Qca) is ds
 | _,_=>δ
def yq(U:L2.St):Ch->BS->L2.St
 | i::is,v::vs=>yq Qen is vs
 | _,_=>U
theorem bP.sets{ps:BC}{ys:BS}:∀{is:Ch} {δ:Ap} {U:L2.St},bP K CL b H Z δ U ts vs->aF K CL Z ps ys->(∀i∈is,i<δ.length)->bP K CL b H Z Qn1 (yq U is ys) ts vs:=by
 intro is
 induction is generalizing ps ys with
 | nil=>
  intro δ U S r _;cases ps<;>cases ys<;>exact S
 | cons i is d=>
  intro δ U S r a;cases r with
  | nil=>exact S
  | cons r c=>exact d ((S.push r).set (a i eB)) c (λj e=>by rw[kc];exact a j (eD _ e))
section
variable{tg:Expr}{ds:BC}
structure R6(X:Cx)(CL:BM)(b:Bx)(δ1:Ap)(U:L2.St)(ts:Bz)(vs:BS)(Z H:Hp)(ds:BC)(J:It)(H1:Hp):Prop where
 ex:∃Z1,aA Z Z1/\aA H H1/\bP X.K CL b H1 Z1 δ1 U ts vs/\(∀i H2,aA Z1 H2->i<ds.length->J.go i H2) ∧
  (∀i Z2 H2 x H',aA Z1 Z2->aA Z2 H2->(∀a o,H2 a=some o->iQ o=true->Z2 a=some o)->i<ds.length->J.l5 i H2 x H'->∃Z3 d,ds[i]? = some d/\Am Z2 H2 Z3 H'/\bO X.K CL Z3 d x)/\(∀H2,aA Z1 H2->J.stop ds.length H2)
def NT(X:Cx)(CL:BM)(b:Bx)(tg e:Expr)(δ:Ap)(ds:BC)(δ1:Ap):Prop:=
 ∃a,PI X tg e a/\∀(H Z:Hp) (U:L2.St) (ts:Bz) (vs:BS) (R:QgB),bP X.K CL b H Z δ U ts vs->(∀J H1,R6 X CL b δ1 U ts vs Z H ds J H1->R J H1)->a U H R
def Bd(h:QB X CL b tg iter δ ds δ1):NT X CL b tg iter δ ds δ1:=by
 obtain⟨f,pi,hw⟩:=h;refine#[f,pi,λH Z U ts vs R S k=>hw H Z U ts vs R S λJ H1 zz=>?_];obtain⟨Z1,us,a,k1,n,g,go,c,st⟩:=zz;refine k J H1 #[Z1,a,k1,n,go,λi Z2 H2 x H' s1 s2 tp hi l=>?_,st];obtain⟨e,m⟩:=c i H2 x H' (s1.trans s2) hi l;subst e;obtain⟨d,hd,j⟩:=g.Rz m;exact#[Z2,d,hd,.refl s2 tp,j.mono s1]
def rh(X:Cx)(CL:BM)(tg:Expr)(is:Ch)(parts:QgX):Prop:=
 ∃t:TG,PG X tg t/\∀(Z H:Hp) (d:D) (ps:BC) (x:V) (U:L2.St) (Q:QvJ),aA Z H->bO X.K CL Z d x->parts d=some ps->(∀ys,aF X.K CL Z ps ys->Q (yq U is ys) H)->t x U H Q
def part1(d:D):Option BC:=some [d]
def part2:D->Option BC
 | .tup [a,c]=>some [a,c]
 | _=>none
theorem NV{d:D}{ps:BC}(h:part2 d=some ps):∃d1 d2,d=.tup [d1,d2]/\ps=[d1,d2]:=by
 cases d with
 | tup ds=>
  obtain _|⟨a,_|⟨c,_|⟨e,l⟩⟩⟩:=ds
  .cases h
  .cases h
  .cases h;exact#[_,_,rfl,rfl]
  .cases h
 | _=>cases h
theorem HJ{d:D}{ps:BC}{x:V}{Q:QvJ}(zh:Qfe)(r:bO K CL Z d x)(e:part2 d=some ps)(k:∀ys,aF K CL Z ps ys->Q (yq U [i,j] ys) H):Kk K 2 (QW (KD i) (QW (KD j) Kt)) x U H Q:=by
 obtain⟨d1,d2,rfl,rfl⟩:=NV e;obtain⟨_,_,rfl,f,a⟩:=r.rN;cases a with
 | cons c a=>
  cases a with
  | cons b a=>
   cases a;exact#[_,_,rfl,aA.KZ zh f,rfl,_,_,rfl,_,_,rfl,rfl,k _ (.cons c (.cons b .nil))]
def yr{px:Pos}(a:Qbd)(n:Qa0):rh X CL Qb9 [i] part1:=
 #[ _,wY a n.hi n.loc n.hf,λZ H d ps x U Q zh r e k=>by
  cases e;exact k [x] (.cons r .nil)]
def kX{y:Str}{px py pt:Pos}(a:Qbd)(g:QaL)(n:Qa0)(m:Ln X j y)(f:(assignEach [.Name x px,.Name y py] X.env).map (·.2)=assign Qb9 X.env::(assignEach [.Name y py] X.env).map (·.2):=by rfl)(b:(assignEach [.Name y py] X.env).map (·.2)=assign Qf1 X.env::(assignEach [] X.env).map (·.2):=by rfl)
  (hn:(assignEach [.Name x px,.Name y py] X.env).length=2:=by rfl) (c:(assignEach [.Name x px,.Name y py] X.env).findIdx? (·.1)=none:=by rfl):rh X CL (.Tuple [.Name x px,.Name y py] k pt) [i,j] part2:=
 #[ _,acS g (D9 (wY a n.hi n.loc n.hf) (D9 (wY a m.hi m.loc m.hf) XG b) f) hn c,λZ H d ps x U Q zh r e k=>HJ zh r e k]
theorem YC{D:cM}(is:Ch)(parts:Qnm)(P:QiJ)(h:Qc2)(l:Qwi)(h0:P 0 δ1)(G:∀j δ,P j δ->∀i∈is,i<δ.length)
  (C:∀j d δ,ds[j]? = some d->P j δ->∃ps,parts d=some ps/\cK X CL b dm Qn1 {nx:=P QaH,rt:=D.rt,bk:=D.nx,ct:=P QaH}) (hd:∀δ,P ds.length δ->D.nx δ)
  (hp:Qle) (I:QaL) (F:Qa7:=by intro _;rfl) :
  RH X CL b (.For tg iter dm [] pos) δ D:=λH Z U ts vs E S M=>by
 obtain⟨O,pi,hw⟩:=h;obtain⟨t,pg,l⟩:=l;refine mZ (acZ hp I pi pg RB F) (hw H Z U ts vs _ S λJ H1 zz=>?_);obtain⟨Z1,f,k1,N,go,u,st⟩:=zz;refine#[λj m U H2=>m=ds.length-j/\j<=ds.length/\∃Z2 δ2,aA Z1 Z2/\bP X.K CL b H2 Z2 δ2 U ts vs/\P j δ2,#[_,rfl,fv _,Z1,δ1,.refl _,N,h0],?_];rintro j m U H2 ⟨rfl,R,Z2,δ2,s,c,p2⟩;by_cases p:j<ds.length
 .refine .inr #[go j H2 QxF p,_,λU' H' h=>#[ _,Wc,rfl,p,h],λy H' B=>?_];obtain⟨Z3,d,o,q,x⟩:=u j Z2 H2 y H' s c.zh c.tp p B;obtain⟨ps,n,hb⟩:=C j d δ2 o p2;have r:=c.grow q;refine l Z3 H' d ps y U _ r.zh x n λys g=>?_;have L:=r.sets g (G j δ2 p2);have s3:=s.trans q.z;exact hb _ Z3 _ ts vs _ L #[λδ' U' H' Z' s' a k=>#[Z',δ',s3.trans s',a,k],λt v H' Z' δ' U' s' a k=>M.rt t v H' Z' δ' U' QtE a k,λδ' U' H' Z' s' a k=>M.nx δ' U' H' Z' QtE a k,λδ' U' H' Z' s' a k=>#[Z',δ',s3.trans s',a,k]]
 .have e:j=ds.length:=by lia
  subst e;exact .inl #[st H2 QxF,M.nx δ2 U H2 Z2 (f.trans s) c (hd δ2 p2)]
def oS{D:cM}{is:Ch}{parts:Qnm}(g:Gx X)(a:Qwi)(P:QiJ)(h:Qc2)(h0:P 0 δ1)(f:∀j δ,P j δ->∀i∈is,i<δ.length)
  (c:∀j d δ,ds[j]? = some d->P j δ->∃ps,parts d=some ps/\cK X CL b body Qn1 {nx:=P QaH,rt:=D.rt,bk:=λδ2=>cK X CL b dm δ2 D,ct:=P QaH}) (hd:∀δ,P ds.length δ->cK X CL b dm δ D) (e:Qa7:=by intro _;rfl) :
  cK X CL b (.For tg iter body [] pos::dm) δ D:=
 bI (YC is _ P h a h0 f c hd g.xe g.calm e)
def gB{D:cM}{pos':Pos}(g:Gx X)(n:Qa0)(P:QiJ)(h:QB X CL b QiZ iter δ ds δ1)(h0:P 0 δ1)(e:∀j δ,P j δ->i<δ.length)
  (a:∀j d δ,ds[j]? = some d->P j δ->cK X CL b body (δ.set i Qca) {nx:=P QaH,rt:=D.rt,bk:=λδ2=>cK X CL b dm δ2 D,ct:=P QaH}) (hd:∀δ,P ds.length δ->cK X CL b dm δ D) (c:Qa7:=by intro _;rfl) :
  cK X CL b (.For QiZ iter body [] pos::dm) δ D:=
 oS g (yr g.nd n) P (Bd h) h0 (λj δ hp k f=>eR.1 f▸e j δ hp) (λj d δ l hp=>#[_,rfl,a j d δ l hp]) hd c
end
structure iW(X:Cx)(scope:Scope)(xs:AT)(Nc:AT)(ix:Ch):Prop where
 kind:scope.kind=.function
 Cb:∀y∈scope.names,y.2 ≠ .cell
 nd:Nc.Nodup
 names:∀y∈scope.names,y.2=.local->scope.names.lookup y.1=some .local
 own:∀x∈xs,scope.names.lookup x=some .local
 frees:∀y∈scope.names,y.2=.free->scope.names.lookup y.1=some .free/\QqM
 hd:Nc=xs++ix.filterMap (X.N[·]?)
 r8:∀i∈ix,∃y,X.N[i]? = some y/\scope.names.lookup y=some .free
def NW(U:L2.St)(ix:Ch)(os:Qgy):L2.St:=os++ix.map λi=>(U[i]?).getD none
variable{xs:AT}
theorem Ez(sc:Qcl)(I:QF)(w:∀b∈fp,oF X pins H b/\b<s.heap.objs.size){h':Heap}{m:BN}{tk:Nat}
  (hn:h'.Ns s.heap.objs.size m) (d:∀b o,s.heap.get? b=some o->h'.get? b=some o) :
  Inv QkL [] (NW U ix QrR) H {s with heap:=h',toks:=tk}:=by
 have frees:∀y∈scope.names,y.2=.free->∃c,X.env.cells.lookup y.1=some c:=λy G e=>I.ok.has y.1 (sc.frees y G e).2;have sub:∀{y:Str} {c:Addr},(fZ X.env scope.names []).lookup y=some c->X.env.cells.lookup y=some c:=λ{y c} e=>rR frees (λ_ _ z=>by cases z) e;have hlen:(NW U ix QrR).length=Nc.length:=by
  have all:∀l:Ch,(∀i∈l,∃y,X.N[i]? = some y/\scope.names.lookup y=some .free)->(l.filterMap (X.N[·]?)).length=l.length:=by
   intro l
   induction l with
   | nil=>intro _;rfl
   | cons i r F=>
    intro h;obtain⟨y,e,_⟩:=h i eB;rw[kz,e];show _+1=_+1;rw[F λj B=>h j (eD _ B)]
  unfold NW;rw[sc.hd,eP,eP,eu,kx,all ix sc.r8]
 have C0:s.heap.get? s.heap.objs.size=none:=vx (eA _);refine#[#[I.ok.mod,sc.kind,I.ok.glob,I.ok.blt,eA _,λy z c h1 h2=>I.ok.inj y z c (sub h1) (sub h2),λy G=>?_,λy c hf _=>(by cases (show false=true from hf)),I.ok.hd,I.ok.frames,.inl rfl,λb hb=>#[hG (w b hb).2,λy c e=>(w b hb).1.2.2.2.2.1 y c (sub e)],I.bs,fg I.ok.QO I.sz,λb o e hb=>?_,λb hb hf=>?_,I.stack,I.sG],
  rfl,I.bare,Un.kept d,#[m,hn,λi y v h1 h2 h3=>?_],λy c e=>?_,I.bZ.fresh (eA _),λy c e=>I.kT y c (sub e),λp hp=>absurd (show p∈([]:At) from hp) W2,I.bZ.kept d,hlen]
 .
  have A:(relabel scope X.env).names.lookup y=some .cell\/(relabel scope X.env).names.lookup y=some .free:=G;cases e:scope.names.lookup y with
  | none=>
   have:=jL (env:=X.env) e;obtain q|q:=A<;>(rw[show(relabel scope X.env).names.lookup y=none from this]at q;cases q)
  | some k=>
   have q:=f6 (env:=X.env) e;have d:k=.free:=by
    by_cases d:k=.free
    .exact d
    .have hb:QmH=false:=by simpa using d
     rw[cq (by rw[hb];simp)]at q;have V:k ≠ .cell:=λz=>by
      subst z;exact sc.Cb _ (oe e) rfl
     obtain z|z:=A
     .rw[show(relabel scope X.env).names.lookup y=some k from q]at z;exact absurd (fO z) V
     .rw[show(relabel scope X.env).names.lookup y=some k from q]at z;exact absurd (fO z) d
   subst d;exact rS e
 .
  rcases(w b hb).1.2.2.2.1 with z|z
  .exact I.ok.G8 b o e z
  .exact absurd (ij (fA e) (fg I.ok.QO z)) (qw _)
 .obtain z|z:=ew.1 (I.xX b hf)
  .exact(w b hb).1.2.1 z
  .exact(w b hb).1.2.2.1 z
 .
  unfold NW at h2;by_cases hi:i<xs.length
  .rw[oP (by rw[kx];exact hi),List.getElem?_replicate,dU hi]at h2;cases h2
  .obtain⟨n,rfl⟩:∃n,i=xs.length+n:=#[i-xs.length,Wc];rw[lz (by rw[kx];lia),kx,z1,fT]at h2;cases E:ix[n]? with
   | none=>rw[E]at h2;cases h2
   | some j=>
    rw[E]at h2;have g:(U[j]?).getD none=some v:=fO h2;have B:U[j]? = some QaU:=by
     cases q:U[j]? with
     | none=>rw[q]at g;cases g
     | some o=>rw[q]at g;exact congrArg some g
    obtain⟨f,x,t⟩:=sc.r8 j (gc E);have L:Nc[xs.length+n]? = some f:=by
     have all:∀(l:Ch) (i:Nat),(∀j∈l,∃y,X.N[j]? = some y/\scope.names.lookup y=some .free)->l[i]? = some j->(l.filterMap (X.N[·]?))[i]? = some f:=by
      intro l
      induction l with
      | nil=>intro i _ h;simp at h
      | cons a r F=>
       intro i h hi;obtain⟨ya,M,_⟩:=h a eB;rw[kz,M];cases i with
       | zero=>
        simp at hi;subst hi;rw[x]at M;cases M;rfl
       | succ i=>exact F i (λj B=>h j (List.mem_cons_of_mem _ B)) (by simpa using hi)
     rw[sc.hd,lz Wc,z1];exact all ix n sc.r8 E
    have Z:f=y:=by
     have D:Nc[xs.length+n]? = some y:=h1;rw[L]at D;exact fO D
    subst Z;have R:=(sc.frees (f,.free) (oe t) rfl).2;have O:QN X.env.scope f:=R.elim (λz=>.inr (.inl z)) (λz=>.inr (.inr z));obtain⟨m0,W,K⟩:=I.loc;obtain⟨u,T,lk⟩:=K j f v x B O;refine#[u,T,?_];obtain⟨kk,_⟩|⟨_,c,Y,S⟩:=lk
    .obtain z|z:=R
     .rw[kk]at z;cases z
     .rw[kk]at z;cases z
    .obtain⟨P,C⟩:=rS (env:=X.env) (cs:=[]) t;have:P=c:=by
      have:=sub C;rw[Y]at this;exact(fO this).symm
     subst this;obtain⟨o,J,hd⟩:=S;refine .inr #[?_,P,C,o,d _ _ J,hd];have q:=f6 (env:=X.env) t;show(relabel scope X.env).names.lookup f=some .cell\/(relabel scope X.env).names.lookup f=some .free;rw[show(relabel scope X.env).names.lookup f=_ from q];split
     .exact .inl rfl
     .exact .inr rfl
 .obtain⟨v,o,J,hd⟩:=I.cell y c (sub e);exact#[v,o,d _ _ J,hd]
def R7(X:Cx)(tg elt:Expr)(ifs:CC)(n:Nat)(U:L2.St)(ix:Ch)(D:Addr)(N:QoJ)(e:V)(os:Qgy)(g:Hp):Prop:=
 ∃t:TG,PG X tg t/\t e (NW U ix os) g λa f=>∃b,b.length=n/\a=NW U ix b/\Fu X ifs a f λok d=>
  if ok=true then Ag X elt a d λy c=>∃acc,c D=some (.lst acc)/\acc.length<sizeLine/\N (upd c D QwT) else N d
variable{tg:Expr}
def HK{J:It}{it:Addr}{tn:Qis}{G:Addr->Hp->Prop}{RR:Qq7}{E:BB}(a:QhF)
  (sc:Qcl) (hc:QaL) (I:QF) (k:QrS) (st:tn 0 s.heap) (hf:∀b∈fp,oF X pins H b)
  (loop:∀D,H D=none->∃W:Nat->Nat->Hp->Prop,(∃m,W 0 m Qyi)/\∀i m H2,W i m H2->(J.stop i H2/\G D H2) ∨
   (J.go i H2/\∃N:Hp->Prop,(∀H',N H'->∃m',m'<m/\W Q3 m' H')/\∀O M,J.l5 i H2 O M->∀C s0 H0 f0 os,os.length=xs.length->R7 ((aX X scope Nc C s0 H0 f0).et (a Qs0)) tg elt ifs xs.length U ix D N O os M))
  (ba:∀D C s' H',(∃m,s'.heap.Ns C m)->(∃o,s'.heap.get? C=some o/\∀v,o.data ≠ .cell v)->H' C=none->(C≠X.env.locals/\C∉X.fs/\X.ff.heap.objs.size<=C/\(∀y c,X.env.cells.lookup y=some c->c≠C)/\∀q∈X.pn++pins,q.1≠C)->(∀h',Heap.SameBut C s'.heap h'->Inv X pins U H' {s' with heap:=h'})->G D H'->RR QeU C Qjr s')
  (hex:∀D s3 M ev s',Inv X pins U M s3->(∀b∈fp,oF X pins M b)->a (aX X scope Nc s3.heap.objs.size s3 M fp) ev s'->notedBy Qy X.A QkC Qqk ev s') :
  wpAny Qy X.A (newList []) (λacc R=>wpAny Qy X.A QpX (λNX P=>
   codeAny Qy X.A (.compStart QbK 0 Qdp acc {NX with scope:=relabel scope X.env}) (RR acc NX.locals) P) E R) E s:=by
 refine wpAny_newObj_type ?_;have F:Inv X pins U QbJ {s with heap:=s.heap.push {cls:=.type "list",dict:=none,data:=.seq ([]:B0).toArray}}:=
  I.laid (t':=s.toks) QfE (eA _) #[by show 0<=sizeLine;exact fv _,[],0,.nil,hX _ rfl]
 have hD:H s.heap.objs.size=none:=I.bZ.fresh (eA _);obtain⟨W,⟨m0,w0⟩,turn⟩:=loop _ hD;have L:∀b∈fp,oF X pins QbJ b/\b<(s.heap.push {cls:=.type "list",dict:=none,data:=.seq ([]:B0).toArray}).objs.size:=λb hb=>by
  obtain⟨f0,f1⟩:=hf b hb;obtain⟨o,ho,_⟩:=k.obj 0 _ st b hb;have DW:=fA ho;refine#[#[by rw[ay (hG DW)];exact f0,f1],?_];rw[Heap.size_push];exact Nat.lt_succ_of_lt DW
 have V:tn 0 (s.heap.push {cls:=.type "list",dict:=none,data:=.seq ([]:B0).toArray}):=k.keep 0 _ _ st λb _ o e=>gx _ e;generalize ar:({s with heap:=s.heap.push {cls:=.type "list",dict:=none,data:=.seq ([]:B0).toArray}}:Shared)=s3 at F ⊢;have ax:s3.heap=s.heap.push {cls:=.type "list",dict:=none,data:=.seq ([]:B0).toArray}:=by rw[<- ar]
 rw[<- ax]at L V;refine wpAny_newFunctionEnv sc.Cb (by intro y hy;simp at hy) (λh bj bg=>?_) sc.kind;have old:∀b o,s3.heap.get? b=some o->h.get? b=some o:=λb o e=>(bg.2 b Qoq).trans (gx _ e);have J0:=(Ez (tk:=s3.toks+([]:Do).length) sc F L bj old).et QcN;have T:tn 0 h:=k.keep 0 _ _ V λb _ o e=>old b o e;have ae:∀s4:Shared,s4={s3 with heap:=h,toks:=s3.toks+([]:Do).length}->codeAny Qy X.A (.compLoop QbK 0 Qdp Qb4 QkC) (RR Qb4 s3.heap.objs.size) s4:=by
  rintro s4 rfl;have f:∀{H':Hp},(∀b∈fp,H' b=none)->∀b∈fp,oF ((aX X scope Nc s3.heap.objs.size s3 QbJ fp).et QcN) [] H' b:=λ{H'} hn b hb=>by
   obtain⟨⟨f0,f1,f2,f3,f4,f5⟩,DW⟩:=L b hb;refine#[hn b hb,hG DW,λz=>?_,.inl hb,λy c e=>f4 y c (rR (λy hy e=>I.ok.has y.1 (sc.frees y hy e).2) (λ_ _ z=>by cases z) e),λp hp=>absurd (show p∈([]:At) from hp) W2];obtain q|q:=ew.1 (F.xX b z)
   .exact f1 q
   .exact f2 q
  refine Ca (E:=a QpF) (ex:=λev s' z=>hex _ s3 _ ev s' F Qs1 z) (λn s'=>∃i o H',o.length=xs.length/\Inv ((aX X scope Nc s3.heap.objs.size s3 QbJ fp).et QcN) [] (NW U ix o) H' s'/\tn i s'.heap/\(∀b∈fp,H' b=none)/\W i n H') ?_ m0 #[0,_,_,kx,J0,T,λb hb=>(L b hb).1.1,w0];rintro n s5 ⟨i,o5,H5,ag,I5,S,aa,w5⟩;obtain⟨stop,g⟩|⟨go,N,hN,step⟩:=turn i n H5 w5
  .refine cS (k.done ((aX X scope Nc s3.heap.objs.size s3 QbJ fp).et QcN) rfl rfl rfl hc i [] s5 _ H5 _ I5 (f aa) S stop) λr s6 zz=>?_;obtain⟨hr,I6⟩:=zz;subst hr;obtain⟨m6,Z,_⟩:=I6.loc;obtain⟨oc,bq,bD,aw,a0,_⟩:=id Z;have j:=F.v9 (eA s3.heap.objs.size) (H':=λ_=>none) rfl;refine ba _ _ s6 H5 #[m6,Z] #[oc,aw,λv z=>by rw[a0]at z;cases z] I6.free #[j.2.1,j.2.2.1,?_,j.2.2.2.2.1,j.2.2.2.2.2] (λh' R8=>Bc F Qs1 I6.dN R8) g;exact F.sz
  .refine cS (k.item ((aX X scope Nc s3.heap.objs.size s3 QbJ fp).et QcN) rfl rfl rfl hc i [] s5 _ H5 _ I5 (f aa) S go) λr s6 zz=>?_;obtain⟨u,hr,h6⟩:=zz;subst hr;refine cS h6 λ_ s7 zz=>?_;obtain⟨O,H7,I7,r7,y7,B,bb⟩:=zz;have bo:=I7.pinned (f bb) (k.obj _ _ B);obtain⟨t,hg,ht⟩:=step O _ y7 s3.heap.objs.size s3 QbJ fp o5 ag;refine cS (hg _ s7 _ H7 O u _ bo r7 ht) λ_ s8 zz=>?_;obtain⟨bp,H8,I8,Y,af,e8,h8⟩:=zz;subst e8;refine cS (RP I8 h8) λok s9 zz=>?_;obtain⟨H9,I9,q9⟩:=zz;have again:∀{l:Hp} {sa:Qr},Inv ((aX X scope Nc s3.heap.objs.size s3 QbJ fp).et QcN) ([]++x6 fp s7.heap) (NW U ix Y) l sa->N l->∃m,m<n/\∃i o H',o.length=xs.length/\Inv ((aX X scope Nc s3.heap.objs.size s3 QbJ fp).et QcN) [] (NW U ix o) H' sa/\tn i sa.heap/\(∀b∈fp,H' b=none)/\W i m H':=λ{l sa} Ia na=>by
    obtain⟨m',hm,wa⟩:=hN l na;refine#[m',hm,i+1,Y,l,af,Ia.sJ,k.keep _ _ _ B λb hb o e=>(Ia.pin (b,o) Qh0).1,λb hb=>?_,wa];obtain⟨o,e,d⟩:=k.obj _ _ B b hb;exact(Ia.pin (b,o) Qh0).2.1
   cases ok with
   | false=>
    rw[cq gm]at q9 ⊢;exact again I9 q9
   | true=>
    rw[dU rfl]at q9 ⊢;refine cS (q9 _ s9 I9) λv sa zz=>?_;obtain⟨y,l,Ia,ra,acc,bc,hlen,na⟩:=zz;refine cS (qa (X:=(aX X scope Nc s3.heap.objs.size s3 QbJ fp).et QcN) _ sa _ l Qb4 [y] Qb4 [v] (λ_ Hb=>Hb=upd l s.heap.objs.size QwT) Ia rfl (.cons ra .nil) #[_,acc,y,rfl,rfl,bc,hlen,rfl]) λ_ sb zz=>?_;obtain⟨_,Hb,Ib,_,eb⟩:=zz;subst eb;exact again Ib na
 exact codeAny_compStart_list (ae _ rfl) (k.self _ 0 _ _ _ T (ae _ rfl))
def Ci(ps:BC):Ap:=ps.map λp=>some (.sh p)
theorem Be:∀{ys:BS} {os:Qgy} {pre r:L2.St},os.length=ys.length->yq (pre++(os++r)) (List.range' pre.length ys.length) ys=pre++(ys.map some++r)
 | [],os,pre,r,h=>by
  have:=List.length_eq_zero_iff.1 h;subst this;rfl
 | y::ys,os,pre,r,h=>by
  match os,h with
  | o::os,h=>
   show yq _ _ ys=_;have:=Be (pre:=pre++[some y]) (r:=r) (by simpa using h);simp_all
def YD:∀{ps:BC} {ys:BS} {δc:Ap} {a:L2.St},aF K CL Z ps ys->fK K CL H Z δc a []->fK K CL H Z Qcc (ys.map some++a) []:=λ{ps ys δc a} h e=>
 aF.ind (P:=λps ys=>fK K CL H Z Qcc (ys.map some++a) []) e (λr _ i=>.cons QjV i) h
section
variable{W1:Hp}{δc:Ap}{J:It}{ds:BC}{p:QdV}{g:D->T}{parts:QgX}
def jR(X:Cx)(CL:BM)(scope:Scope)(Nc:AT)(n:Nat)(tg:Expr)(parts:QgX)(ifs:CC)(elt:Expr)(δc:Ap)(ds:BC)(p:QdV)(q:Qn9)(b:QhF:=λ_ _ _=>False)(gd:D->Bx->Prop:=λ_ _=>True):Prop:=
 ∀C s0 a f0 c,rh ((aX X scope Nc C s0 a f0).et QoK) CL tg QmW parts/\∀d,d∈ds->gd d c->∃ps,parts d=some ps/\ps.length=n/\ri ((aX X scope Nc C s0 a f0).et QoK) CL c ifs Qcc (p d)/\(p d=true->vO ((aX X scope Nc C s0 a f0).et QoK) CL c elt Qcc (q d) Qcc)
def yt(X:Cx)(CL:BM)(scope:Scope)(Nc:AT)(n:Nat)(tg:Expr)(parts:QgX)(ifs:CC)(elt:Expr)(δc:Ap)(ds:BC)(p:QdV)(g:D->T):Prop:=
 ∀C s0 a f0 b,rh Qhk CL tg QmW parts/\∀d,d∈ds->∃ps,parts d=some ps/\ps.length=n/\ri Qhk CL b ifs Qcc (p d)/\(p d=true->bG Qhk CL b elt Qcc (g d) Qcc)
theorem yt.q(h:yt X CL scope Nc n tg parts ifs elt δc ds p g):jR X CL scope Nc n tg parts ifs elt δc ds p λd t=>t=g d:=λC s0 b f0 a=>#[(h C s0 b f0 a).1,λd hd _=>by
 obtain⟨ps,h1,h2,f,c⟩:=(h C s0 b f0 a).2 d hd;exact#[ps,h1,h2,f,λe=>(c e).tq]]
abbrev sV(ds:BC)(p:QdV)(q:Qn9)(G:QiK):Prop:=∀i d l,ds[i]? = some d->G i l->(p d=false->G Q3 l)/\(p d=true->∀t,q d t->G Q3 (l++[t]))
def LP:sV ds p (λd t=>t=g d) λi l=>l=((ds.take i).filter p).map g:=by
 rintro i d _ hd rfl;dsimp;rw[show ds.take Q3=ds.take i++[d] by rw[js,hd];rfl,ig,eE];refine#[λe=>?_,λe t z=>?_]
 .rw[hY (by simp[e]),List.filter_nil,List.map_nil,ft]
 .rw[z,kn e];rfl
structure GW(K:Frag)(CL:BM)(H W1:Hp)(D:Addr)(l:Bz)(k:Nat)(H2 Z2:Hp)(G4:BS)(fp:BY):Prop where
 a1:aA H H2
 a2:aA W1 Z2
 a3:aA Z2 H2
 a4:Z2 D=none
 a5:∀a o,Z2 a=some o->W1 a=none->H a=none
 a6:∀a o,H2 a=some o->iQ o=true->Z2 a=some o
 a7:H2 D=some Qo2
 a8:aQ K CL H2 Z2 l G4 fp
 a9:fp.Nodup
 b1:D∉fp
 b2:∀a∈fp,Z2 a=none/\H a=none
 b3:G4.length<=k
theorem vR{q:Qn9}{G:QiK}{xw:QhF}{gd:D->Bx->Prop}(g0:QdW)(gs:QdX)(S:Qlw)(zw:aA Z W1)(wh:aA W1 H)(tp:∀a o,H a=some o->iQ o=true->W1 a=some o)
  (bc:∀H',fK X.K CL H' W1 δc (ix.map λi=>(U[i]?).getD none) []) (inner:jR X CL scope Nc n tg parts ifs elt δc ds p q xw gd) (bb:∀i d l,ds[i]? = some d->G i l->∀g Z3,aA H g->aA W1 Z3->aA Z3 g->(∀a o,Z3 a=some o->W1 a=none->H a=none)->(∀a o,g a=some o->iQ o=true->Z3 a=some o)->gd d #[g,Z3])
  (ba:∀i H2,aA W1 H2->i<ds.length->J.go i H2)
  (hy:∀i Z2 H2 x H',aA W1 Z2->aA Z2 H2->(∀a o,H2 a=some o->iQ o=true->Z2 a=some o)->i<ds.length->J.l5 i H2 x H'->∃Z3 d,ds[i]? = some d/\Am Z2 H2 Z3 H'/\bO X.K CL Z3 d x)
  (mS:∀H2,aA W1 H2->J.stop ds.length H2) (hlen:QaR) (c:W1=Z\/∀l,G ds.length l->T.cA l=true) :
  ∀D,H D=none->∃W:Nat->Nat->Hp->Prop,(∃m,W 0 m Qyi)/\∀i m H2,W i m H2->(J.stop i H2/\∃Z2 l,G ds.length l/\aA Z Z2/\aA H H2/\bP X.K CL b H2 Z2 δ U QoC QoD) ∨
   (J.go i H2/\∃N:Hp->Prop,(∀H',N H'->∃m',m'<m/\W Q3 m' H')/\∀xv g,J.l5 i H2 xv g->∀C s0 H0 f0 os,os.length=n->R7 ((aX X scope Nc C s0 H0 f0).et (xw Qs0)) tg elt ifs n U ix D N xv os g):=by
 intro D hD;have wD:W1 D=none:=wh.free hD;refine#[λi m H2=>m=ds.length-i/\i<=ds.length/\∃Z2 l G4 fp,G i l/\GW X.K CL H W1 D l i H2 Z2 G4 fp,#[ds.length,rfl,fv _,W1,[],[],[],g0,aA.upd hD,.refl _,wh.trans (aA.upd hD),wD,λa o q z=>?_,λa o q i=>?_,aM,.nil,mx,W2,W2,W2],?_]
 .rw[q]at z;cases z
 .by_cases f:a=D
  .subst f;rw[aM]at q;cases q;cases i
  .rw[ay f]at q;exact tp a o q i
 .rintro i m H2 ⟨rfl,hi,Z2,l,G4,fp,gl,hh,Y,zh,zD,nw,L,E,ra,nd,nD,own,bj⟩;by_cases DW:i<ds.length
  .refine .inr #[ba i H2 (Y.trans zh) DW,λH'=>∃Z2 l G4 fp,G Q3 l/\GW X.K CL H W1 D l Q3 H' Z2 G4 fp,λH' h=>#[ds.length-Q3,Wc,rfl,DW,h],λxv g y C s0 H0 f0 os a0=>?_];obtain⟨Z3,d,hd,A,rd⟩:=hy i Z2 H2 xv g Y zh L DW y;have R:∀a,Z2 a=none->(∃o,H2 a=some o)->Z3 a=none:=λa e ⟨o,e2⟩=>by
    cases q:Z3 a with
    | none=>rfl
    | some u=>rw[A.new a u q e]at e2;cases e2
   have M:∀a o,Z3 a=some o->W1 a=none->H a=none:=λa o q z=>by
    cases e:Z2 a with
    | none=>exact hh.free (A.new a o q e)
    | some u=>
     have:=A.z a u e;rw[q]at this;cases this;exact nw a o e z
   have k:aQ X.K CL g Z3 l G4 fp:=ra.mono A.z λa f=>by
    obtain⟨o,e⟩:=ra.there a f;rw[e];exact A.h a o e
   have B:∀a∈fp,Z3 a=none/\H a=none:=λa f=>#[R a (own a f).1 (ra.there a f),(own a f).2];have I:Z3 D=none:=R D zD #[_,E];have j:g D=some Qo2:=A.h D _ E;have s:=hh.trans A.h;have w:=Y.trans A.z;have F:=A.zh;have aa:=A.tp;clear own nw ra zD E hh Y zh L A R;have EA:d∈ds:=gc hd;obtain⟨m1,aw⟩:=inner C s0 H0 f0 #[g,Z3];obtain⟨ps,ax,hpl,it,ie⟩:=aw d EA (bb i d l hd gl g Z3 s w F M aa);obtain⟨t,pg,ht⟩:=m1;refine#[t,pg,ht Z3 g d ps xv _ _ F rd ax λys ae=>?_];have P:ys.length=n:=by rw[<- ae.length];exact hpl
   have es:yq (NW U ix os) QmW ys=NW U ix QtF:=by
    have:=Be (ys:=ys) (os:=os) (pre:=[]) (r:=ix.map λi=>(U[i]?).getD none) (by rw[a0,P]);rw[P]at this;exact this
   refine#[ys.map some,by rw[eu];exact P,es,?_];rw[es];have S0:bP X.K CL #[g,Z3] g Z3 Qcc Qyf [] []:=
    #[#[[],[],YD ae ((bc g).mono w λa f=>by cases f),.nil,mx,λa f=>by cases f],.refl _,.refl _,F,λa o q z=>(by have z':Z3 a=none:=z;rw[show Z3 a=some o from q]at z';cases z'),aa,(S.Ee.mono zw).mono w]
   refine it.OR S0 λH4 Z4 V O S4=>?_;have bg:∀a∈fp,H4 a=g a:=λa f=>by
    obtain⟨o,e⟩:=k.there a f;rw[e];exact O a o e
   have R9:∀a,Z3 a=none->(∃o,g a=some o)->Z4 a=none:=λa e ⟨o,e2⟩=>by
    cases q:Z4 a with
    | none=>rfl
    | some u=>
     have:=S4.new a u q e;rw[show g a=none from this]at e2;cases e2
   cases hp:p d with
   | false=>
    refine Hz #[Z4,l,G4,fp,(gs i d l hd gl).1 hp,s.trans O,w.trans V,S4.zh,R9 D I #[_,j],λa o q z=>?_,S4.tp,O D _ j,?_,nd,nD,λa f=>#[R9 a (B a f).1 (k.there a f),(B a f).2],Wc]
    .cases e:Z3 a with
     | none=>exact s.free (S4.new a o q e)
     | some u=>
      have:=V a u e;rw[q]at this;cases this;exact M a o e z
    .exact k.mono V bg
   | true=>
    refine HB ((ie hp) H4 Z4 Qyf [] [] _ S4 λt yv H5 Z5 qt z5 k5 S5=>#[G4,k5 D _ (O D _ j),Wc,?_]);obtain⟨f1,g1,e1,r1,af,ag⟩:=S5.rep;cases r1 with
    | @cons _ _ _ _ fy fn ry rn=>
     cases rn;rw[ft]at af ag;have ar:fy.Nodup:=(iw.1 af).2.1;have YF:∀a∈fy,Z5 a=none/\g a=none:=λa f=>ag a (fx _ f);have HL:∀a,Z3 a=none->(∃o,g a=some o)->Z5 a=none:=λa e ⟨o,e2⟩=>by
      cases q:Z5 a with
      | none=>rfl
      | some u=>
       have:=S5.new a u q e;rw[show g a=none from this]at e2;cases e2
     have yD:∀a∈fy,a≠D:=λa f e=>by
      subst e;rw[(YF a f).2]at j;cases j
     have bo:H5 D=some Qo2:=k5 D _ (O D _ j);have sD:aA H (upd H5 D QwU):=λa o q=>by
      rw[ay (bz q hD)];exact k5 a o (O a o (s a o q))
     refine#[Z5,l++[t],G4++[yv],fp++fy,(gs i d l hd gl).2 hp t qt,sD,w.trans (V.trans z5),λa o q=>?_,HL D I #[_,j],λa o q z=>?_,λa o q im=>?_,aM,?_,?_,?_,λa f=>?_,?_]
     .rw[ay (bz q (HL D I #[_,j]))];exact S5.zh a o q
     .cases e:Z3 a with
      | none=>exact s.free (S5.new a o q e)
      | some u=>
       have:=z5 a u (V a u e);rw[q]at this;cases this;exact M a o e z
     .by_cases f:a=D
      .subst f;rw[aM]at q;cases q;cases im
      .rw[ay f]at q;exact S5.tp a o q im
     .refine aQ.app (k.mono (V.trans z5) λa f=>?_) (by
       have:=aQ.cons (fp:=fy) (gp:=[]) (ry.mono QA λa f=>ay (yD a f)) (aQ.nil (H:=upd H5 D QwU) (Z:=Z5))
       rwa [ft]at this)
      have:a≠D:=λe=>nD (e▸f);rw[ay this];obtain⟨o,e⟩:=k.there a f;rw[e];exact k5 a o (O a o e)
     .refine iw.2 #[nd,ar,λa f a' Xn e=>?_];subst e;obtain⟨o,e⟩:=k.there a f;rw[(YF a Xn).2]at e;cases e
     .intro h;obtain h|h:=eC.1 h
      .exact nD h
      .exact yD D h rfl
     .obtain h|h:=eC.1 f
      .exact#[HL a (B a h).1 (k.there a h),(B a h).2]
      .exact#[(YF a h).1,s.free (YF a h).2]
     .rw[eP,hH];lia
  .have e:i=ds.length:=by lia
   subst e;refine .inl #[mS H2 (Y.trans zh),?_];obtain⟨Z',z',S'⟩:=S.back (H':=H2) (W:=W1) (W':=Z2) (t:=.lst l) (v:=.ref D) (fp:=D::fp) hh zw Y zh nw L (.lst E ra) (iq.2 #[nD,nd]) (λa f=>by
    obtain h|h:=ew.1 f
    .subst h;exact#[zD,hD]
    .exact own a h) (c.imp id λc=>by
     rw[gY];exact c l gl)
   exact#[Z',l,gl,z',hh,S']
end
variable{δc:Ap}{ds:BC}{p:QdV}{g:D->T}{parts:QgX}{q:QwV}{G:QiK}
def qf{J:It}{it:Addr}{tn:Qis}{H1:Hp}{RR:Qq7}{E:BB}{r:QhF}{gd:Qwj}
  (g0:QdW) (gs:QdX) (sc:Qcl) (V:QaL) (C:R6 X CL b δ1 U ts vs Z H ds J H1) (I:L2.Inv X pins U H1 s) (Y:QrS) (st:tn 0 s.heap) (hf:∀b∈fp,oF X pins H1 b)
  (hb:(δc=sR δ1 ix/\∀l,G ds.length l->T.cA l=true)\/δc=sS δ1 ix) (inner:jR X CL scope Nc xs.length tg parts ifs elt δc ds p q r gd) (hlen:QaR)
  (t:∀D C s' H' Z' l,G ds.length l->(∃m,s'.heap.Ns C m)->(∃o,s'.heap.get? C=some o/\∀v,o.data ≠ .cell v)->H' C=none->(C≠X.env.locals/\C∉X.fs/\X.ff.heap.objs.size<=C/\(∀y c,X.env.cells.lookup y=some c->c≠C)/\∀q∈X.pn++pins,q.1≠C)->(∀h',Heap.SameBut C s'.heap h'->L2.Inv X pins U H' {s' with heap:=h'})->aA Z Z'->aA H H'->bP X.K CL b H' Z' δ1 U QoC QoD->RR QeU C Qjr s')
  (n:∀Z1 W1,bP X.K CL b H1 Z1 δ1 U ts vs->aA Z1 W1->∀i d l,ds[i]? = some d->G i l->∀g Z3,aA H1 g->aA W1 Z3->aA Z3 g->(∀a o,Z3 a=some o->W1 a=none->H1 a=none)->(∀a o,g a=some o->iQ o=true->Z3 a=some o)->gd d #[g,Z3])
  (hex:∀D s3 g ev s',L2.Inv X pins U g s3->(∀b∈fp,oF X pins g b)->r (aX X scope Nc s3.heap.objs.size s3 g fp) ev s'->notedBy Qy X.A QkC Qqk ev s') :
  wpAny Qy X.A (newList []) (λacc j=>wpAny Qy X.A QpX (λF h=>
   codeAny Qy X.A (.compStart QbK 0 Qdp acc {F with scope:=relabel scope X.env}) (RR acc F.locals) h) E j) E s:=by
 obtain⟨Z1,M,k1,f,go,u,k⟩:=C.ex;have R:∀D,H1 D=none->∃W:Nat->Nat->Hp->Prop,(∃m,W 0 m (upd H1 D Qf7))/\∀i m H2,W i m H2->(J.stop i H2/\∃Z2 l,G ds.length l/\aA Z1 Z2/\aA H1 H2/\bP X.K CL b H2 Z2 δ1 U QoC QoD) ∨
   (J.go i H2/\∃N:Hp->Prop,(∀H',N H'->∃B,B<m/\W Q3 B H')/\∀z g,J.l5 i H2 z g->∀C s0 L f0 os,os.length=xs.length->R7 ((aX X scope Nc C s0 L f0).et (r (aX X scope Nc C s0 L f0))) tg elt ifs xs.length U ix D N z os g):=by
  obtain⟨e,cl⟩|e:=hb
  .subst e;exact vR g0 gs f f.zh QA (λ_ _ q _=>q) (Em f ix) inner (n Z1 H1 f f.zh) (λi H2 s=>go i H2 QnD) (λi Z2 H2 y H' s=>u i Z2 H2 y H' QnD) (λH2 s=>k H2 QnD) hlen (.inr cl)
  .subst e;exact vR g0 gs f QA f.zh f.tp (En f ix) inner (n Z1 Z1 f QA) go u k hlen Qay
 refine HK r sc V I Y st hf R (λD C s' H' m io P ch ci zz=>?_) hex;obtain⟨Z',l,gl,O,S,S'⟩:=zz;exact t D C s' H' Z' l gl m io P ch ci (M.trans O) (k1.trans S) S'
def kY(sc:Qcl)(I:QgU):closureFor scope X.env=pure Qfp:=
 Aj λy a e=>I.ok.has y.1 (sc.frees y a e).2
def HM(h:∀d∈ds,(g d).clean=true)(l:Bz)(e:l=((ds.take ds.length).filter p).map g):T.cA l=true:=e▸yj λd hd=>h d (tj (ir.1 hd).1)
def EB(g0:QdW)(gs:QdX)(sc:Qcl)(g:QaL)(h:Qc2)(hb:(δc=sR δ1 ix/\∀l,G ds.length l->T.cA l=true)\/δc=sS δ1 ix)(inner:Qkx)(hlen:QaR)
  (f:Qa7:=by intro _;rfl):vO X CL b QbK δ (λt=>∃l,t=.lst l/\G ds.length l) δ1:=λH Z U ts vs Q S k pins s I=>by
 obtain⟨r,pi,hw⟩:=h;apply xt rfl f Qpg sc.kind sc.names;refine cS Qhc λv s1 h1=>cS h1 λd s2 zz=>?_;obtain⟨it,fp,tn,J,H1,e,o,i,st,hf,C⟩:=zz;subst e;refine qf g0 gs sc g C o i st hf hb inner hlen (λD w s' H' Z' l gl m io u ch ci a c j=>?_) Qq8 λ_ _ _ _ _ _ _ z=>z.elim;obtain⟨m,hn⟩:=m;exact#[m,hn,λh' n=>#[.ref D,H',ci h' n,rfl,k _ _ H' Z' #[l,rfl,gl] a c j]]
def Sb(sc:Qcl)(c:QaL)(h:Qc2)(hb:(δc=sR δ1 ix/\∀d∈ds,(g d).clean=true)\/δc=sS δ1 ix)(inner:Qqu)(hlen:QaR)
  (a:Qa7:=by intro _;rfl):bG X CL b QbK δ (.lst ((ds.filter p).map g)) δ1:=λH Z U ts vs Q S k=>EB (rfl) LP sc c h QqO inner.q hlen a H Z U ts vs Q S λt v H' Z' z=>by
 obtain⟨l,rfl,rfl⟩:=z;exact hZ▸k v H' Z'
variable{y:Str}
theorem K9{E:Ends}{D' a:Addr}{s':Qr}{py:Pos}(D:Qbd)(hi:X.N[i]? = some y)(x:Qnh)(h:AM X y)(m:∃m,s'.heap.Ns a m)(io:∃n,s'.heap.get? a=some n/\∀v,n.data ≠ .cell v)(u:H' a=none)
  (ch:a≠X.env.locals/\a∉X.fs/\X.ff.heap.objs.size<=a/\(∀y c,X.env.cells.lookup y=some c->c≠a)/\∀q∈X.pn++pins,q.1≠a) (ci:∀h',Heap.SameBut a s'.heap h'->L2.Inv X pins U H' {s' with heap:=h'}) (q:E.nx (U.set i (some Qo3)) H') :
  compPost Qy X.A X.xe (some (assign Qf1 X.env)) (λ_ s'=>SP X pins E .next s') Qo3 a Qjr s':=by
 obtain⟨m,hn⟩:=m;obtain⟨o,B,s⟩:=io;have p:L2.Inv X pins U H' s':=ci _ (.refl ..);have J:L2.Inv X (pins++[(a,o)]) U H' s':=p.wX λq g=>by
  obtain z|z:=eC.1 g
  .exact p.pin q (fx _ z)
  .have e:=by simpa using z
   subst e;exact#[B,u,ch.1,ch.2.1,s]
 have C:PG X Qf1 _:=wY D hi x h;refine cS (C _ s' U H' Qo3 _ (λd r=>d=U.set i _/\r=H') J rfl #[rfl,rfl]) λ_ t zz=>?_;obtain⟨d,r,k,G,j⟩:=zz;subst G;subst j;obtain⟨F,f,_⟩:=k.pin (a,o) (fx _ (fx _ W2));refine#[m,hn.at' Wc,λh' H=>?_];have I:=k.wX λq g=>k.pin q (fx _ (hj _ g));have l:=I.turned (t':=t.toks) (λb o hb e=>(H.2 b hb).trans e) f ch.1.symm.symm (.inr ch.2.2.1) ch.2.2.2.1 ch.2.2.2.2;exact#[_,_,l,q]
def Sd{D:cM}{py c:Pos}(i:Nat)(g0:QdW)(gs:QdX)(sc:Qcl)(u:QaL)(h:Qc2)(hb:(δc=sR δ1 ix/\∀l,G ds.length l->T.cA l=true)\/δc=sS δ1 ix)(inner:Qkx)(hlen:QaR)
  (k:∀l,G ds.length l->D.nx (δ1.set i Qnn)) (t:QbH) (w:Qbd) (hi:X.N[i]? = some y) (n:Qnh) (a:AM X y)
  (f:swapsWith QbK (some Qf1) c.line X.env=pure true)
  (o:Qa7:=by intro _;rfl):RH X CL b (.Assign [.Name y py] QbK c) δ D:=λH Z U ts vs E S M pins s I=>by
 obtain⟨F,pi,hw⟩:=h;rw[exec_Assign_Name_used _ _ _ _ f];refine eM (qr (eM ?_));refine eM (hJ (xt rfl o Qpg sc.kind sc.names ?_) (λ_ s' r=>gL (gL r)) λ_ _ e=>e);refine cS Qhc λv s1 h1=>cS h1 λj s2 zz=>?_;obtain⟨it,fp,tn,J,H1,e,B,x,st,hf,C⟩:=zz;subst e;refine qf g0 gs sc u C B x st hf hb inner hlen (λD' L s' H' Z' l gl m io g ch ci d K A=>?_) Qq8 λ_ _ _ _ _ _ _ z=>z.elim;exact K9 w hi n a m io g ch ci (M.nx _ _ _ Z' d (A.set t) (k l gl))
variable{pos' pc:Pos}
def YG{D:cM}(c:Gx X)(n:Qa0)(g0:QdW)(gs:QdX)(sc:Qcl)(h:Qc2)
  (hb:(δc=sR δ1 ix/\∀l,G ds.length l->T.cA l=true)\/δc=sS δ1 ix) (inner:Qkx) (hlen:QaR) (k:∀l,G ds.length l->cK X CL b dm (δ1.set i Qnn) D) (e:QbH)
  (a:QpY) (d:Qa7:=by intro _;rfl) :
  cK X CL b QrT δ D:=by
 obtain a|a:=a
 .exact bI (Sd i g0 gs sc c.calm h hb inner hlen k e c.nd n.hi n.loc n.hf a d)
 .exact bI (xh i (EB g0 gs sc c.calm h hb inner hlen d) (λt z=>by obtain⟨l,rfl,gl⟩:=z;exact k l gl) e c.nd n.hi n.loc a n.hf)
theorem Sf{D:cM}(j:Gx X)(n:Qa0)(sc:Qcl)(h:Qc2)
  (hb:(δc=sR δ1 ix/\∀d∈ds,(g d).clean=true)\/δc=sS δ1 ix) (inner:Qqu) (hlen:QaR) (k:cK X CL b dm (δ1.set i Qrq) D) (f:QbH)
  (a:QpY) (c:Qa7:=by intro _;rfl) :
  cK X CL b QrT δ D:=YG j n (rfl) LP sc h QqO inner.q hlen (λl e=>by simp_all) f a c
noncomputable def HG(scope:Scope)(xs a:AT):Bool:=
 scope.kind == .function&&xs.all (λy=>scope.names.lookup y==some .local)&&a.all QqY&&decide ((xs++a).Nodup) &&
  scope.names.all λy=>y.2 != .cell&&(y.2 != .local || scope.names.lookup y.1==some .local)&&(y.2 != .free || QqN)
theorem YH{d:AT}(c:RX X ix d)(ok:HG scope xs d=true):iW X scope xs (xs++d) ix:=by
 unfold HG at ok;simp only[fD,hB,hq,i3]at ok;obtain⟨⟨⟨⟨h1,h2⟩,h⟩,g⟩,b⟩:=ok;have j:∀y∈d,X.env.kindOf y=some .cell\/X.env.kindOf y=some .free:=by
  clear h g b
  induction c with
  | nil=>intro y a;cases a
  | cons n k r f=>
   intro y a;obtain e|a:=ew.1 a
   .subst e;exact k
   simp_all
 refine#[h1,λy a e=>?_,g,λy a e=>?_,h2,λy a e=>?_,?_,λi hi=>?_]
 .have:=(b y a).1.1;simp_all
 .have:=(b y a).1.2;simp_all
 .have:=(b y a).2;simp_all
 .congr 1;clear h g b j
  induction c with
  | nil=>rfl
  | cons n k r f=>rw[kz,n.hi,<- f]
 .clear g b j
  induction c with
  | nil=>cases hi
  | @cons l y ix ys n k r f=>
   obtain e|hi:=ew.1 hi
   .subst e;exact#[y,n.hi,h y W2 ]
   .exact f QsH hi
variable{C:Addr}
def Cj(h1:Nc[i]? = some x)(h2:Qk9)(hd:AD x:=by decide)(iA:AE x:=by decide):Ln Qbg i x:=
 #[RV h1 h2 hd iA,.inl Qls,.inr Qls]
def OC(K:Frag)(a:Addr):It:=
 #[λi H=>∃xs x,jX K H a xs/\xs[i]? = some x,λi H x H'=>∃T y,H T=none/\x=.ref T/\(∀xs,jX K H a xs->xs[i]? = some y)/\H'=upd H T (.tup [.int i,y]),λi H=>∃xs,jX K H a xs/\xs.length<=i]
theorem N1{o:HO}(I:QgU)(fp:oF X pins H a)(new:fJ X.prog X.w Qa4 s.heap a o):L2.Inv X pins U Qa4 s:=by
 have hn:=fp.1;refine I.step (ch:=[a]) (λb hb=>?_) (λb o _ _ _ e _=>e) (λb o _ _ _ e _=>#[ _,e]) (λb o d _ n=>by rw[ay λz=>d (by simp[z])];exact n)
  (λb o _ e=>#[o,e]) (λb xs e=>ay Qph▸e) (λb o u e=>ay Qph▸e) (λb ps e=>#[#[],by rw[ay Qph,e];simp]) (λm hm=>hm) (λb u e=>?_) I.bare
 .have e:=by simpa using hb
  subst e;exact#[fp.2.2.2.1,fp.2.1,fp.2.2.2.2.1,fp.2.2.2.2.2]
 .by_cases z:b=a
  .subst z;rw[aM]at e;grind
  .rw[ay z]at e;exact(I.bZ b u e).rL (λ_ _ _ q=>q) (λc q=>ay Qcf▸q) (λc xs q=>ay Qcf▸q) λc z q=>ay Qcf▸q
def N2{t':Nat}{h':Heap}{S:BY}(I:QgU)(hf:∀b∈S,oF X pins H b)(k:∀b o,b∉S->s.heap.get? b=some o->h'.get? b=some o):L2.Inv X pins U H {s with heap:=h',toks:=t'}:=by
 have n:∀b u,H b=some u->b∉S:=λb u e z=>by rw[(hf b z).1]at e;cases e
 refine I.step (ch:=S) (λb hb=>?_) (λb o _ _ a e _=>k b o a e) (λb o _ _ a e _=>#[_,k b o a e]) Qum (λb o a e=>#[o,k b o a e]) Qu2 QuI (λb ps e=>#[#[],by rw[e];simp]) (λm hm=>?_) (λb u e=>?_) I.bare
 .obtain⟨_,f1,_,g,f4,f⟩:=hf b hb;exact#[g,f1,f4,f]
 .obtain⟨o,es,ep,d,r⟩:=hm;exact#[o,es,ep,k _ o (λz=>(hf _ z).2.1 rfl) d,r]
 .exact(I.bZ b u e).rL (λc v a q=>k c v (by obtain z|z:=a<;>first|(rw[z];exact n b u e)|exact n c _ z) q) QbA λ_ _ q=>q
variable{elts:CC}{kk:Nat}{pt:Pos}
theorem N3(a e it:Addr)(F:e≠it):Turn P w K Qc8 (OC K a) [e,it] e (λi h=>(∃old,PySem.IsEnum h e it i old)/\h.IsListIter it a i) where
 mem:=by simp
 obj:=λi h st b hb=>by
  obtain⟨⟨old,he⟩,hit⟩:=st;obtain z|z:=ew.1 hb
  .subst z;exact#[_,he,λv z=>by
    have G:Data.fields _=Data.cell v:=z;cases G]
  .have z:b=it:=by simpa using z
   subst z;obtain⟨o,e,c,d⟩:=hit;exact#[o,e,λv z=>by rw[d]at z;cases z]
 keep:=λi h h' st k=>by
  obtain⟨⟨old,he⟩,hit⟩:=st;exact#[#[old,k e W2 _ he],hit.at λo q=>k it W2 o q]
 item:=by
  intro X A hw B D i pins s U H E I hf st n;subst A hw B;obtain⟨xs,x,j,m⟩:=n;obtain⟨its,l,p,hz⟩:=I.list j;obtain⟨u,M,J⟩:=l.get m;obtain⟨⟨old,he⟩,hit⟩:=st;have fe:=hf e W2;have fi:=hf it W2;have g:H s.heap.objs.size=none:=I.bZ.fresh (eA _);have V:=I.v9 Qub g;refine PySem.wpAny_pyNext_enum_item he hit p.isList (x:=u) (by simpa using M) F λh' N C R hsz O=>#[_,rfl,?_];refine PySem.wpAny_letOwnedTupleGo_enum N λh2 r f=>?_;replace f:Heap.SameBut e h' h2:=f;have eT:e<s.heap.objs.size:=fA he;have keep:∀b o,b≠e->b≠it->s.heap.get? b=some o->h2.get? b=some o:=λb o h1 T q=>(f.2 b h1).trans (O b o h1 T q);have y:h2.get? s.heap.objs.size=some {cls:=.type "tuple",data:=.seq (List.toArray [.int i s.toks,u])}:=(f.2 _ (qi eT)).trans R;have I1:L2.Inv X pins U H {s with heap:=h2,toks:=s.toks+1}:=N2 (S:=[e,it]) I hf λb o hb=>keep b o (λz=>hb (by simp[z])) λz=>hb (by simp[z]);have I':=N1 (a:=s.heap.objs.size) (o:=.tup [.int i,x]) I1 V #[hS (bR Qbj),[.int i s.toks,u],.cons #[s.toks,rfl] (.cons J .nil),#[_,y,rfl,_,rfl]];have Z:((i+1:Nat):Int)=(i:Int)+1:=by lia
  refine#[.ref s.heap.objs.size,_,I',rfl,#[_,x,g,rfl,λys L=>by rw[I.sH L j];exact m,rfl],#[#[u,by rw[Z];exact r],C.at λo q=>(f.2 it (hV F)).trans q],λb hb=>?_];have t:=hf b hb;obtain⟨o,DT,_⟩:∃o,s.heap.get? b=some o/\True:=by
   obtain z|z:=ew.1 hb
   .subst z;exact#[_,he,trivial]
   .have z:b=it:=by simpa using z
    subst z;obtain⟨o,q,_⟩:=hit;exact#[o,q,trivial]
  rw[ay (hG (fA DT))];exact t.1
 done:=by
  intro X A hw B D i pins s U H E I hf st n;subst A hw B;obtain⟨xs,j,m⟩:=n;obtain⟨its,l,p,hz⟩:=I.list j;obtain⟨⟨old,he⟩,hit⟩:=st;obtain⟨f0,f1,f2,Y,f4,W⟩:=hf it W2;have hl:=l.length;exact PySem.wpAny_pyNext_enum_end (I.ok.hd D) he hit p.isList WF λh' eb=>#[rfl,I.turned (t':=s.toks) (λb o hb e=>eb b o hb e) f0 f1 Y f4 W]
 self:=λ_ _ _ _ _ st h=>by
  obtain⟨⟨old,he⟩,_⟩:=st;exact PySem.wpAny_pyIter_enum he h
def YP(K:Frag)(ta:TA):TI:=λU H R=>ta U H λvs H1=>∃a xs,vs=[.ref a]/\jX K H1 a xs/\R (OC K a) H1
theorem YJ{a:Expr}{ta:TA}{p:Pos}(m:Qno)(hm:Qmp)(n:PA X [a] ta)(i:AC X a []):PI X Qc8 (.Call (.Name "enumerate" p) [a] [] pos) (YP X.K ta):=by
 intro pins s U H R I h;refine Call_ (oE I m hm boot_enumerate (q1 (cS (n pos pins s U H _ I h) λus s1 zz=>?_) i rfl));obtain⟨vs,H1,c,f,g⟩:=zz;obtain⟨l,xs,e,j,q⟩:=g;subst e;cases f with
 | cons r d=>
  cases d;cases r;obtain⟨its,t,p,hz⟩:=c.list j;refine PySem.call_enumerate_list p.isList λh' he hit hsz k=>?_;have o:=c.kept (t':=s1.toks) k;refine PySem.wpAny_pyIter_enum he ?_;refine#[ _,_,_,_,H1,rfl,o,N3 l _ _ (Nat.succ_ne_self _),#[#[_,he],hit],λb hb=>?_,q];obtain z|z:=ew.1 hb
  .subst z;exact c.v9 (lr _) (c.bZ.fresh (lr _))
  .have z:=by simpa using z
   subst z;exact c.v9 (eA _) Qmj
noncomputable def yu(ds:BC):BC:=(List.range ds.length).map λ(i:Nat)=>.tup [.int i,ds.getD i .non]
def Bf(ds:BC):(yu ds).length=ds.length:=by simp[yu]
def N4{ds:BC}{d:D}(h:ds[i]? = some d):(yu ds)[i]? = some (.tup [.int i,d]):=by
 have hi:=(hR.1 h).1;unfold yu;rw[fT,hW hi];show some (D.tup _)=_;rw[e5,h];rfl
variable{pr:Pos}{ds:BC}
theorem YK(hm:Qmp)(h:bG X CL b e δ (.sh QbC) δ1)(u:Qno)(l:QaD:=by exact aZ rfl):NT X CL b Qc8 Qq3 δ (yu ds) δ1:=by
 refine#[_,YJ u hm (bE bX cT l) l,λH Z U ts vs R S k=>h H Z U ts vs _ S λv H1 Z1 n k1 g=>?_];obtain⟨fp,gp,_,r,_,_⟩:=g.rep;cases r with
 | cons r _=>
  replace r:=r.HD;obtain⟨rfl,r⟩:=r;obtain⟨a,us,rfl,c,j⟩:=r.gR;have t:=j.length;refine#[a,us,rfl,g.zh.seq c,k _ _ #[Z1,n,k1,g.pop,λi H2 s hi=>?_,λi Z2 H2 x H' s1 s2 tp hi p=>?_,λH2 s=>?_]]
  .rw[Bf]at hi;have f:i<us.length:=t▸hi;exact#[us,_,s.seq c,gh f]
  .obtain⟨T,y,w,rfl,q,rfl⟩:=p;obtain⟨d,hd,o⟩:=j.Rz (q us ((s1.trans s2).seq c));have m:=Am.tup (xs:=[.int i,y]) s2 tp w;exact#[_,_,N4 hd,m,.tup (lS.of aM) (.cons QbU (.cons ((o.mono s1).mono m.z) .nil))]
  .rw[Bf];exact#[us,s.seq c,by simp_all ]
theorem uK{β:Type}{f:Qka}{l:QR}{d:β}(h:(l.map f)[j]? = some d):∃x,d=f x/\l[j]? = some x/\x∈l/\j<l.length/\l.drop j=x::l.drop QaH/\l.take QaH=l.take j++[x]:=by
 rw[fT]at h;cases a:l[j]? with
 | none=>rw[a]at h;cases h
 | some x=>
  rw[a]at h;cases h;have b:=(hR.1 a).1;have e:=(hR.1 a).2;exact#[x,rfl,rfl,gc a,b,by rw[xk b,e],by rw[js,a];rfl]
def D.xi:L3.D->L3.D
 | .tup (a::_)=>a
 | d=>d
def D.at2:L3.D->L3.D
 | .tup (_::a::_)=>a
 | d=>d
def D.cnt:L3.D->Nat
 | .lst ds=>ds.length
 | .tup ds=>ds.length
 | _=>0
def N5(f:Qb1)(z:α)(l:QR):yu QbD=(List.range l.length).map λ(i:Nat)=>L3.D.tup [.int i,f Qji]:=by
 unfold yu;rw[eu];apply hE;intro i hi;have hi:=g4.1 hi;have:(l.map f).getD i .non=f Qji:=by
  rw[e5,e5,fT,gh hi];rfl
 rw[this]
def mj{f:Qb1}{l:QR}(z:α)(hm:Qmp)(h:bG X CL b e δ (.sh (.lst QbD)) δ1)(c:Qno)(a:QaD:=by exact aZ rfl) :
  NT X CL b Qc8 Qq3 δ ((List.range l.length).map λ(i:Nat)=>L3.D.tup [.int i,f Qji]) δ1:=by
 have:=YK (elts:=elts) (kk:=kk) (pt:=pt) (pr:=pr) (pc:=pc) hm h c a
 rwa [N5 f z l]at this
theorem bP.N6{tt:Bz}(S:Qb3)(hi:δ[i]? = some Qwk)(D:tt[j]? = some QcC) :
  ∃d l a us,U[i]? = some (some (.ref d))/\H d=some (.lst l)/\l[j]? = some Qab/\l.length=tt.length/\H a=some Qdr/\us.length=tl.length/\bP K CL b QhJ Z (δ.set i QrU) U ts vs:=by
 obtain⟨fp,gp,e,r,nd,k⟩:=S.rep;obtain⟨v0,f1,f2,o,hv,C,rt,put,_⟩:=e.get hi;subst C;obtain⟨d,l,g0,rfl,rfl,w,u⟩:=rt.gR;obtain⟨F,g1,g2,g3,p,E,y,set⟩:=u.at D;subst E;obtain⟨a,us,g,rfl,rfl,x,rs⟩:=y.gR;cases r with
 | @cons _ _ _ _ m n B A=>
  have ne:∀c∈Qx8++Qgw,c≠a:=λc f e=>by
   subst e;have hp:((f1++((d::QwW)++o))++Qgw).Perm (c::(Qx8++Qgw)):=by
    have h1:(d::QwW).Perm (c::(d::QmP)):=by
     have h0:(g1++((c::g)++g3)).Perm (c::QmP):=List.perm_middle;exact(h0.cons d).trans (List.Perm.swap c d _)
    have h2:=(((h1.append_right o).append_left f1).append_right Qgw);refine h2.trans ?_;rw[iu];exact List.perm_middle.append_right _
   exact(iq.1 QfD).1 f
  have q:d≠a:=ne d W2;refine#[d,l,a,us,hv,w,p,u.length.symm,x,rs.length.symm,?_];have z:bJ K CL QhJ Z Qfw Qab QxG:=
   .lst aM (aQ.app (rs.mono QA λc f=>ay (ne c (by simp[f]))) (.cons (B.mono QA λc f=>ay (ne c (by simp[f]))) .nil))
  have s:=set (H':=upd H a Qqa) (λc f=>ay (ne c (by
   obtain h|h:=eC.1 f
   .simp[h]
   .simp[h]))) z
  rw[iE p]at s;have e2:=put (H':=upd H a Qqa) QA (λc f=>ay (ne c (by
   obtain h|h:=eC.1 f
   .simp[h]
   .simp[h]))) (.lst (by rw[ay q];exact w) s)
  rw[iE hv]at e2;have hp:((f1++((d::(g1++(QxG++g3)))++o))++n).Perm ((f1++((d::(g1++((a::g)++g3)))++o))++Qgw):=by
   simp only[ft,iu,fb];refine ka f1 (List.Perm.cons d (ka g1 (List.Perm.cons a (ka g ?_))));have:=(km (l₁:=m) (l₂:=g3++o)).append_right n;simp only[fb]at this;exact this
  exact S.write nd k W2 #[_,x] e2 (A.mono QA λc f=>ay (ne c (by simp[f]))) Qua λc f=>hp.mem_iff.1 f
theorem vS:∀(l r:BA),PyData.eqvAll (D.oQ (l.map L3.D.int)) (D.oQ (r.map L3.D.int))=decide (l=r)
 | [],[]=>rfl
 | [],_::_=>rfl
 | _::_,[]=>rfl
 | x::l,y::r=>by
  rw[e4,e4,D.oQ,D.oQ,PyData.eqvAll,vS l r,D.toPy,D.toPy,PyData.eqv];by_cases e:x=y
  .subst e;simp
  simp_all
def Sh(l r:BA):R0 (.lst Qf0) (.lst (r.map .int))=decide (l=r):=by
 unfold R0;rw[D.toPy,D.toPy,PyData.eqv,vS]
variable{Xo:Bz}
theorem bP.extend(S:bP K CL b H Z δ U (.lst Xo::ts) QaS)(hi:δ[i]? = some QfU) :
  ∃a us a2 l,U[i]? = some Qn8/\H a=some Qdr/\us.length=tl.length/\v=.ref a2/\H a2=some (.lst l)/\l.length=Xo.length/\bP K CL b Qyg Z (δ.set i Qyp) U ts vs:=by
 obtain⟨fp,gp,e,r,nd,k⟩:=S.rep;obtain⟨v0,f1,f2,j,hv,u,rt,put,_⟩:=e.get hi;subst u;obtain⟨a,us,g,rfl,rfl,p,rs⟩:=rt.gR;cases r with
 | @cons _ _ _ _ w f t s=>
  obtain⟨a2,l,g2,rfl,rfl,n,m⟩:=t.gR;have ne:∀c∈(f1++(g++j))++(g2++f),c≠a:=λc d e=>by
   subst e;have hp:((f1++((c::g)++j))++((a2::g2)++f)).Perm (c::((f1++(g++j))++((a2::g2)++f))):=by simp
   refine(iq.1 QfD).1 ?_;obtain z|z:=eC.1 d
   .exact hj _ z
   simp_all
  refine#[a,us,a2,l,hv,p,rs.length.symm,rfl,n,m.length.symm,?_];have q:bJ K CL Qyg Z QsI Qab (a::(g++g2)):=
   .lst aM (aQ.app (rs.mono QA λc d=>ay (ne c (by simp[d]))) (m.mono QA λc d=>ay (ne c (by simp[d]))))
  have e2:=put (H':=upd H a Qth) QA (λc d=>ay (ne c (by
   obtain h|h:=eC.1 d
   .simp[h]
   .simp[h]))) q
  rw[iE hv]at e2;have hp:((f1++((a::(g++g2))++j))++f).Perm (Qni++(g2++f)):=by
   simp only[iu,fb];refine ka f1 (List.Perm.cons a (ka g ?_));rw[<- fb,<- fb];exact km.append_right f
  have o:(Qni++(g2++f)).Sublist (Qni++((a2::g2)++f)):=
   lA (jW _) W2
  exact S.write nd k (eB) #[_,p] e2 (s.mono QA λc d=>ay (ne c (by simp[d]))) (hp.nodup_iff.2 (nd.sublist o)) λc d=>o.subset (hp.mem_iff.1 d)
section
variable{Yr:Bz}{D:cM}{pa pb:Pos}
def EC(n:QaZ)(h0:δ[i]? = some Qm4)(h:bG X CL b e δ (.lst Xo) δ1)(h1:δ1[i]? = some QfU)(s:tl.length+Xo.length<=1000000)(k:cK X CL b dm (δ1.set i Qyp) D)
  (u:attributeBase Qbo "extend" X.env (eval Qbo X.env)=eval Qbo X.env:=by rfl)
  (p:QgS:=by rfl)
  (c:QgT:=by rfl) (g:QaD:=by exact aZ rfl)
  (m:swapsWith QqG none pos.line X.env=pure false:=by rfl) :
  cK X CL b (.Expr QqG pos::dm) δ D:=bI λH Z U ts vs E S M=>
 mZ (p6 (qN xp PySem.F.slot_list_extend PySem.F.type_list_extend Nu Qfy (bE bX cT g) u p c g rfl) m) (by
  obtain⟨v0,e0,o⟩:=S.look h0;refine#[v0,e0,?_,?_]
  .obtain⟨_,_,rfl,r,_⟩:=o.gR;exact .inl #[rfl,_,r]
  .refine h H Z U ts vs _ S λv H1 Z1 l k1 y=>?_;obtain⟨a,us,a2,z,j,t,q,rfl,f,d,w⟩:=y.extend h1;rw[e0]at j;cases j;exact#[a,a2,us,z,rfl,rfl,t,f,by rw[q,d];exact hS (oC s Wp),M.nx _ U _ Z1 l w k])
end
def yw{k:Str}(hm:∃u,X.mg x=some (.str k u))(a:Qad)(hd:AD x:=by decide):bG X CL b QaA δ (.sh (.str k)) δ:=λH Z U ts vs Q S kk=>by
 obtain⟨u,hm⟩:=hm;exact bU (BQ (v:=.str k) a hm #[u,rfl] hd) (kk _ H Z QA QA (S.push (.str k)))
theorem aF.Bg{K:Frag}{Z:Hp}:∀l:AT,aF K CL Z QbR Qcz
 | []=>.nil
 | x::l=>.cons Qax (aF.Bg l)
def GT(X:Cx)(x:Str)(l:AT):Prop:=∃a,X.mg x=some Qab/\∀H:Hp,lS X.K H a Qcz
def dB(hm:GT X x l)(d:Qad)(hd:AD x:=by decide):bG X CL b QaA δ (.sh QnS) δ:=λH Z U ts vs Q S kk=>by
 obtain⟨a,hm,c⟩:=hm;exact bU (BQ (v:=.ref a) d hm rfl hd) (kk _ H Z QA QA (S.push (.tup (c Z) (aF.Bg l))))
noncomputable def mq(x y:Str):Bool:=!(Builtin.Str.occurrences y x 0 y.length 1).isEmpty
def Si{i j:Str}(h1:QhA)(h2:Qhx)(hm:QhR):m5 X CL b Qc1 δ (mq i j) δ2/\bG X CL b Qc1 δ (.sh (.bl (mq i j))) δ2:=
 qO Ng h1 h2 rfl rfl Qfr hm
def oU{i j:Str}(h1:QhA)(h2:Qhx)(hm:QhB):m5 X CL b QcZ δ (!mq i j) δ2/\bG X CL b QcZ δ (.sh (.bl (!mq i j))) δ2:=
 qO BU h1 h2 rfl rfl Qfr hm
noncomputable def GI(x:Str):It:=#[λi _=>i<x.cps.size,λi H v H'=>H'=H/\∃c,x.cps[i]? = some c/\v=.str #[(List.toArray [c])],λi _=>x.cps.size<=i]
def N7(x:Str)(t:Tok)(it:Addr):Turn P w K tg (GI x) [it] it (λi h=>h.IsStrIter it "str_ascii_iterator" x t i) where
 mem:=by simp
 obj:=λi h st b hb=>by
  have e:b=it:=by simpa using hb
  subst e;obtain⟨o,e,c,d⟩:=st;exact#[o,e,λv z=>by rw[d]at z;cases z]
 keep:=λi h h' st k=>by
  obtain⟨o,e,r⟩:=st;exact#[o,k it W2 o e,r]
 item:=by
  intro X f hw g m i pins s U H E I hf st a;subst f hw g;have a:i<x.cps.size:=a;obtain⟨f0,f1,f2,l,f4,j⟩:=hf it W2;refine wpAny_pyNext_ascii_item st (c:=x.cps[i]) (by simp[a]) λh' n p=>?_;have u:Inv X pins U H {s with heap:=h',toks:=s.toks+1}:=I.turned QrE f0 f1 l f4 j;obtain⟨o,e,c,d⟩:=id n;exact#[_,rfl,A2 (s:={s with heap:=h',toks:=s.toks+1}) e c d Wp #[.str #[(List.toArray [x.cps[i]])],H,u,#[_,rfl],#[rfl,_,by simp[a],rfl],n,λb hb=>(hf b hb).1]]
 done:=by
  intro X f hw g m i pins s U H E I hf st a;subst f hw g;have a:x.cps.size<=i:=a;obtain⟨f0,f1,f2,l,f4,j⟩:=hf it W2;exact wpAny_pyNext_ascii_end Qot st (by simp[a]) λh' q=>#[rfl,I.turned (t':=s.toks) Qln f0 f1 l f4 j]
 self:=λ_ _ _ _ _ st h=>wpAny_pyIter_striter_ascii st h
def N8(x:Str)(t:Tok)(it:Addr):Turn P w K tg (GI x) [it] it (λi h=>h.IsStrIter it "str_iterator" x t i) where
 mem:=by simp
 obj:=λi h st b hb=>by
  have e:b=it:=by simpa using hb
  subst e;obtain⟨o,e,c,d⟩:=st;exact#[o,e,λv z=>by rw[d]at z;cases z]
 keep:=λi h h' st k=>by
  obtain⟨o,e,r⟩:=st;exact#[o,k it W2 o e,r]
 item:=by
  intro X f hw g m i pins s U H E I hf st a;subst f hw g;have a:i<x.cps.size:=a;obtain⟨f0,f1,f2,l,f4,j⟩:=hf it W2;refine wpAny_pyNext_wide_item st (c:=x.cps[i]) (by simp[a]) λh' n p=>?_;have u:Inv X pins U H {s with heap:=h',toks:=s.toks+1}:=I.turned QrE f0 f1 l f4 j;obtain⟨o,e,c,d⟩:=id n;exact#[_,rfl,A2 (s:={s with heap:=h',toks:=s.toks+1}) e c d Wp #[.str #[(List.toArray [x.cps[i]])],H,u,#[_,rfl],#[rfl,_,by simp[a],rfl],n,λb hb=>(hf b hb).1]]
 done:=by
  intro X f hw g m i pins s U H E I hf st a;subst f hw g;have a:x.cps.size<=i:=a;obtain⟨f0,f1,f2,l,f4,j⟩:=hf it W2;exact wpAny_pyNext_wide_end Qot st (by simp[a]) λh' q=>#[rfl,I.turned (t':=s.toks) Qln f0 f1 l f4 j]
 self:=λ_ _ _ _ _ st h=>wpAny_pyIter_striter_wide st h
def SI(tl:TE):TI:=λU H R=>tl U H λv H1=>∃x,v=.str x/\R (GI x) H1
theorem adU{l:Expr}{tl:TE}(g:PE X l tl):PI X tg l (SI tl):=by
 intro pins s U H R I h;refine cS Qc6 λv s1 zz=>?_;obtain⟨y,H1,a,d,f⟩:=zz;obtain⟨x,e,q⟩:=f;subst e;obtain⟨t,rfl⟩:=d;cases c:x.cps.all (· < 128) with
 | true=>
  refine wpAny_pyIter_ascii c ?_;refine#[s1.heap.objs.size,[s1.heap.objs.size],_,_,H1,rfl,a.kept (t':=s1.toks) λb o e=>gx _ e,N7 x t _,#[_,hX _ rfl,rfl,rfl],λb hb=>?_,q];have e:b=s1.heap.objs.size:=by simpa using hb
  subst e;exact a.v9 (eA _) Qmk
 | false=>
  refine wpAny_pyIter_wide c ?_;refine#[s1.heap.objs.size,[s1.heap.objs.size],_,_,H1,rfl,a.kept (t':=s1.toks) λb o e=>gx _ e,N8 x t _,#[_,hX _ rfl,rfl,rfl],λb hb=>?_,q];have e:b=s1.heap.objs.size:=by simpa using hb
  subst e;exact a.v9 (eA _) Qmk
def gK(x:Str):BC:=x.cps.toList.map λc=>.str #[(List.toArray [c])]
theorem ED(l:Ch):aF K CL Z (l.map λc=>L3.D.str #[(List.toArray [c])]) (l.map λc=>V.str #[(List.toArray [c])]):=by
 induction l with
 | nil=>exact .nil
 | cons c l a=>exact .cons QcK a
theorem Sj(h:bG X CL b iter δ (.sh Qax) δ1):QB X CL b tg iter δ (gK x) δ1:=by
 refine#[_,adU bX,λH Z U ts vs R S k=>h H Z U ts vs _ S λv H1 Z1 e k1 d=>?_];obtain⟨fp,gp,_,r,_,_⟩:=d.rep;cases r with
 | cons r _=>
  replace r:=r.HD;obtain⟨rfl,r⟩:=r;cases r with
  | str=>
   refine#[x,rfl,k _ _ #[Z1,_,e,k1,d.pop,ED _,λi H2 s hi=>?_,λi H2 y H' s hi a=>#[a.1,?_],λH2 s=>?_]]
   .show i<x.cps.size;simpa [gK] using hi
   .obtain⟨c,f,rfl⟩:=a.2;simp[f]
   .show x.cps.size<=(gK x).length;simp[gK]
def SH:V->Bn->Bn->Hp->VK->Prop:=λx lo hi H Q=>∃z,x=.str z/\z.length<=sizeLine/\Q (.str Qvb) H
theorem adV:x2 X SH:=by
 intro pins s U H x v n m lo hi sl Q I e g f pu h;obtain⟨z,rfl,hz,q⟩:=h;obtain⟨t,rfl⟩:=e;obtain⟨o,a,b,hd⟩:=g;have fin:∀t' k,EP X pins U Q (.str Qvb t') {s with toks:=k}:=λt' k=>#[.str _,H,I.tok k,#[t',rfl],q];refine#["str",_,F.slot_str_getitem.lookup,me _ _ _,?_];cases f with
 | none=>
  cases pu with
  | none=>exact wz (l:=none) (u:=none) (st:=none) #[o,a,b,hd] rfl Qhd
  | int j c=>exact wz (l:=none) (u:=some (j,c)) (st:=none) #[o,a,b,hd] rfl Qhd
 | int i d=>
  cases pu with
  | none=>exact wz (l:=some (i,d)) (u:=none) (st:=none) #[o,a,b,hd] rfl Qhd
  | int j c=>exact wz (l:=some (i,d)) (u:=some (j,c)) (st:=none) #[o,a,b,hd] rfl Qhd
def iX{lo hi:QdR}{l h:Bn}{z:Str}(h1:Qti)(hz:QgY)(h2:Ql0)(m:Ql1):bG X CL b Qhi δ (.sh (.str (Txt.slice z l h))) δ3:=λH Z U ts vs Q S k=>by
 obtain⟨t2,c,j⟩:=h2;obtain⟨t3,a,i⟩:=m;refine bU (yb adV bX c a) (h1 H Z U ts vs _ S λv H1 Z1 g k1 p r=>j H1 Z1 U ts vs _ p λH2 Z2 f k2 o=>i H2 Z2 U ts vs _ o λq Z3 d k3 n=>?_);exact#[z,r.sc rfl,hz,k _ q Z3 (g.trans Qf5) (k1.trans (k2.trans k3)) (n.push QcK)]
end L3
namespace L3
open PySem PySem.Spec PyProof.Rows L2 PySem.Builtin PySem.Builtin.Str
variable{X:Cx}{CL:BM}{b:Bx}{e o:Expr}{δ δ1 δ2:Ap}{pos apos:Pos}
theorem Vals.strsFrom:∀(k:Nat) (l:AT),Vals Qcz (strsFrom k l)
 | _,[]=>.nil
 | k,x::l=>.cons #[_,rfl] (Vals.strsFrom Qac l)
noncomputable def Ck(x y:Str):Bool:=!(y.length==0) && !(decide (x.length<y.length) || decide (strKind x<strKind y)) && !(occurrences x y 0 x.length (x.length+1)).isEmpty
noncomputable def splitM(x y:Str):AT:=partsBetween x (occurrences x y 0 x.length (x.length+1)) y.length
def adW:V->BS->Hp->VK->Prop:=λx vs H Q=>∃z y,x=.str z/\vs=[.str y]/\Ck z y=true/\z.length<=sizeLine/\(splitM z y).length<=sizeLine/\∀p,H p=none->Q Qbw (upd H p (.lst ((splitM z y).map V.str)))
def Sl:o8 X "str.split" adW:=by
 intro pins s U H x vs v us Q I a b h;obtain⟨z,y,rfl,rfl,bZ,hz,hp,q⟩:=h;obtain⟨t,rfl⟩:=a;obtain⟨u,rfl,c⟩:=b.one;obtain⟨t',rfl⟩:=c;unfold Ck at bZ;simp only[fD,kq]at bZ;obtain⟨⟨h1,h2⟩,d⟩:=bZ;refine n4 F.slot_str_split Qf9 xc QjT (meets_str_split_sep z y t t' h2 h1 d hz hp) ?_;exact#[.ref _,_,I.Ro (its:=strsFrom s.toks (splitM z y)) Qvc (by rw[eu];exact hp),rfl,q _ I.fresh]
def Sn{z y:Str}{l:AT}(h1:Qff)(h2:QgZ)(bZ:Ck z y=true)(hz:QgY)(n:splitM z y=l)(hp:QxH)
  (q:QqW:=by rfl)
  (m:Qfg:=by rfl)
  (a:Qfh:=by rfl) (f:QaD:=by exact aZ rfl) :
  bG X CL b QqP δ (.lst ((l.map L3.D.str).map T.sh)) δ2:=λH Z U ts vs Q S k=>
 bU (qN q0 PySem.F.slot_str_split PySem.F.type_str_split Sl bX Qok q m a f rfl)
  (h1 H Z U ts vs _ S λv1 H1 Z1 h k1 t j=>by
   have e1:=j.sc rfl;subst e1;refine#[rfl,h2 H1 Z1 U ts vs _ t λv2 H2 Z2 g k2 s i=>?_];have e2:=i.sc rfl;subst e2;subst n;refine#[z,y,rfl,rfl,bZ,hz,hp,λp d=>?_];have rc:aF X.K CL Z2 ((splitM z y).map L3.D.str) ((splitM z y).map V.str):=aF.Bg _;obtain⟨c,r⟩:=(bP.nX rc s).rP (g0:=[]) W2 d;exact k _ _ _ Qf4 Qd8 r)
end L3
namespace L3
open PySem PySem.Spec PyProof.Rows L2
variable{X:Cx}{CL:BM}{b:Bx}{δ:Ap}{pos pp:Pos}{x:Str}
def c0{k n:Nat}{A:Type}{arg:Qae}{Pre:Q4}{res:QaM}(a:A)(F:QhQ)(h:Qad)(j:arg a=[])(hp:Pre a)(i:Qm2)(hn:Qb0:=by rfl)
  (g:AD x:=by decide):bG X CL b (.Call Qbo [] [] pos) δ (res a) δ:=by
 obtain⟨f,fd,ps,p,m,kk,l⟩:=F.ex;intro H Z U ts vs Q S k;refine bU (Rc p F.room h m kk l .nil Eg g) ?_;refine#[H,a,.refl _,λ_ _ q _=>q,by rw[j];exact .nil,hn,hp,S.NF,λv H' W' fp c ww e nw tp rt nd own=>?_];obtain⟨Z',d,o⟩:=S.back c S.zh ww e nw tp rt nd own (.inr i);exact k v H' Z' d c o
def N9:Key->D
 | .inl i=>.int i
 | .inr x=>.str x
def kN(aO:CO)(k:Key):Option D:=(aO.find? λa=>decide Qgj).map (·.2)
def vU(aO:CO)(k:Key)(d:D):CO:=
 if Qfu=true then aO.map QpV else aO++[(k,d)]
variable{K:Frag}{H Z:Hp}{U:L2.St}{ts:Bz}{vs:BS}{v:V}{gs:Cl}{d:D}{aO:CO}
theorem b6.length{aO:CO}(h:QnL):aO.length=gs.length:=
 b6.ind (P:=λaO gs=>aO.length=gs.length) rfl QhG h
variable{k:Key}
theorem b6.val{aO:CO}:b6 K CL Z aO gs->(kN aO k=none/\jo gs k=none)\/∃d v,kN aO k=some d/\jo gs k=some v/\bO K CL Z d v:=
 b6.ind (P:=λaO gs=>(kN aO k=none/\jo gs k=none)\/∃d v,kN aO k=some d/\jo gs k=some v/\bO K CL Z d v) (.inl #[rfl,rfl]) λ{x d v _ _} h r i=>by
  by_cases e:x=k
  .exact .inr #[d,v,by simp[kN,e],oJ e,h]
  .obtain⟨h1,h2⟩|⟨d',v',h1,h2,a⟩:=i
   .exact .inl #[by simpa [kN,e] using h1,by rw[lV e];exact h2]
   .exact .inr #[d',v',by simpa [kN,e] using h1,by rw[lV e];exact h2,a]
theorem b6.any{aO:CO}:b6 K CL Z aO gs->Qfu=QrV:=
 b6.ind (P:=λaO gs=>(aO.any λa=>decide Qgj)=QrV) rfl λ_ _ i=>by rw[lx,lx,i]
theorem b6.ke(q:QdU){aO:CO}:b6 K CL Z aO gs->b6 K CL Z QwX QwY:=
 b6.ind (P:=λaO gs=>b6 K CL Z QwX QwY) .nil λ{x _ _ _ _} h r i=>by
  rw[e4,e4];by_cases e:x=k
  .rw[dU e,dU e];exact .cons q i
  .rw[cq e,cq e];exact .cons h i
theorem b6.snoc(q:QdU){aO:CO}:b6 K CL Z aO gs->b6 K CL Z (aO++[(k,d)]) (gs++[(k,v)]):=
 b6.ind (P:=λaO gs=>b6 K CL Z (aO++[(k,d)]) (gs++[(k,v)])) (.cons q .nil) λh _ i=>.cons h i
theorem b6.put(q:QdU)(r:QnL):b6 K CL Z (vU aO k d) (putK gs k v):=by
 unfold vU putK;rw[r.any];split
 .exact r.ke q
 .exact r.snoc q
theorem bO.key(r:bO K CL Z (N9 k) v):v=kV k:=by
 cases k with
 | inl i=>exact r.sc rfl
 | inr x=>exact r.sc rfl
theorem bP.adX{p:Addr}(S:QaQ)(hp:QgL):aA H Qil/\bP K CL b Qil Z δ U (.jq []::ts) QoA:=by
 obtain⟨fp,gp,e,r,nd,k⟩:=S.rep;have d:=S.zh.free hp;have sh:aA H Qil:=aA.upd hp;have keep:∀a∈fp++gp,a≠p:=λa c=>by
  have:∃o,H a=some o:=by
   obtain h|h:=eC.1 c
   .exact e.there a h
   .exact r.there a h
  obtain⟨o,q⟩:=this;exact bz q hp
 refine#[sh,#[#[fp,_,e.mono QA QkY,.cons (.jq aM .nil) (r.mono QA λa c=>ay (keep a (by simp[c]))),?_,λa c=>?_],S.bh.trans sh,S.zz,S.zh.trans sh,S.new,λa o q i=>?_,S.tab]]
 .refine(List.perm_middle).nodup_iff.2 (iq.2 #[λh=>keep p h rfl,nd])
 .obtain h|h:=ew.1 ((List.perm_middle).mem_iff.1 c)
  .subst h;exact#[d,S.bh.free hp]
  .exact k a h
 .by_cases c:a=p
  .subst c;rw[aM]at q;cases q;cases i
  .rw[ay c]at q;exact S.tp a o q i
variable{i:Nat}
theorem bP.Ss(k:Key)(S:QrJ)(hi:δ[i]? = some QpB) :
  ∃a gs,U[i]? = some Qn8/\H a=some Qgm/\gs.length=aO.length/\bP K CL b Qlc Z (δ.set i QtG) U ts vs:=by
 obtain⟨fp,gp,e,r,nd,kk⟩:=S.rep;obtain⟨v0,f1,f2,l,hv,o,rt,put,_⟩:=e.get hi;subst o;cases rt with
 | @jq a gs _ p rs=>
  cases r with
  | @cons _ _ _ _ q j g n=>
   replace g:=g.HD;obtain⟨rfl,g⟩:=g;have ne:∀c∈(f1++l)++j,c≠a:=λc f e=>by
    subst e;have hp:((f1++([c]++l))++([]++j)).Perm (c::((f1++l)++j)):=by simp
    exact(iq.1 QfD).1 f
   refine#[a,gs,hv,p,rs.length.symm,?_];have m:bJ K CL Qlc Z _ _ [a]:=.jq aM (rs.put g);have e2:=put QA (λc f=>ay (ne c (by
    obtain h|h:=eC.1 f
    .simp[h]
    .simp[h]))) m
   rw[iE hv]at e2;exact S.R4 rfl kk W2 e2 (n.mono QA λc f=>ay (ne c (by simp[f]))) nd λc f=>f
section
abbrev _root_.EQ:=List (Key×L3.D)
variable{δ1 δ2:Ap}{e e1 e2:Expr}{d:L3.D}{D:cM}{ps:Pos}{dm:CI}{aO:EQ}
def La:bG X CL b Qwg δ (.jq []) δ:=λH Z U ts vs Q S kk=>bU Ry λp hp=>by
 obtain⟨c,a⟩:=S.adX hp;exact kk _ _ Z QA c a
theorem adY(k:Key)(t:Qfc)(n:QaZ)(h:Qlv)(h2:b5 X CL b e2 δ1 (N9 k) δ1)(h1:δ1[i]? = some QpB)(o:QxI)(kk:cK X CL b dm (δ1.set i QtG) D)
  (m:swapsWith e (some Qfv) pos.line X.env=pure false:=by rfl) :
  cK X CL b (.Assign [.Subscript Qbo e2 ps] e pos::dm) δ D:=bI λH Z U ts vs E S M=>
 mZ (Yg Wc Qfy bX bX m) (h H Z U ts vs _ S λv H1 Z1 j k1 f=>by
  obtain⟨v0,e0,_⟩:=f.look h1;refine#[v0,e0,h2 H1 Z1 U _ _ _ f λv2 H2 Z2 g k2 s l=>?_];obtain⟨a,gs,c,q,p,r⟩:=s.Ss k h1;rw[e0]at c;cases c;exact#[a,_,rfl,l.key▸Ru.k q (by rw[p];exact oC o Wp),λ_=>M.nx _ U _ Z2 (j.trans g) r kk])
theorem YL(k:Key)(q:Qfc)(h1:b5 X CL b e1 δ (.jq aO) δ1)(h2:b5 X CL b e2 δ1 (N9 k) δ2)(e:kN aO k=some d)(m:HC e2:=by exactλ_ _=>rfl):b5 X CL b Qeb δ d δ2:=λH Z U ts vs Q S kk=>
 bU (Ye Wc bX bX m) (h1 H Z U ts vs _ S λv H1 Z1 g k1 p l=>h2 H1 Z1 U ts vs _ p λv2 H2 Z2 f k2 o j=>by
  cases l with
  | @jq a gs _ n h=>
   have c:=h.mono k2;rcases c.val (k:=k) with⟨h0,_⟩|⟨d',v',h0,hv,i⟩
   .rw[e]at h0;cases h0
   .rw[e]at h0;cases h0;refine#[a,v',rfl,?_,kk v' H2 Z2 Qjs Qaf o i];rw[j.key,<- hv];exact wk.k (k2 _ _ n))
def yx(a:QnL):(jo gs k).isSome=(kN aO k).isSome:=by
 rcases a.val (k:=k) with⟨h0,h1⟩|⟨d',v',h0,h1,_⟩
 .rw[h0,h1];rfl
 .rw[h0,h1];rfl
theorem YM(k:Key)(l:Qfc)(h1:QtH)(h2:Qx3)(hm:QhB) :
  m5 X CL b QcZ δ (!(kN aO k).isSome) δ2:=λH Z U ts vs Q S kk=>
 sP (BR (NB Wc bX bX) hm) (h1 H Z U ts vs _ S λv H1 Z1 d k1 j g=>h2 H1 Z1 U ts vs _ j λv2 H2 Z2 c k2 i f=>by
  cases f with
  | @jq a gs _ h e=>
   refine#[a,jo gs k,rfl,by rw[g.key];exact wk.k h,_,rfl,?_];rw[yx e];exact kk H2 Z2 QeE Qaf i)
end
variable{t:T}{w:V}{f c:Str}{QC:B1}
theorem cL.YN{b:BY}(rt:bJ K CL H Z t v b):∀{HP:B1} {gs:CA} {fp:BY},cL K CL H Z QlJ gs fp->∃a,cL K CL H Z Qn2 gs a/\a.Perm (fp++b)
 | [],_,_,r=>by
  cases r with
  | @cons _ _ v' _ _ f1 gp h r=>
   replace h:=h.HD;obtain⟨rfl,h⟩:=h;cases h;exact#[ _,.cons rt r,km]
 | (y,u)::HP,_,_,r=>by
  cases r with
  | @cons _ _ v' _ _ f1 gp h r=>
   obtain⟨a,c,p⟩:=cL.YN rt r;refine#[ _,.cons h c,?_];rw[fb];exact p.append_left f1
theorem bP.YN{HP:B1}(S:bP K CL b H Z δ U (.ins c QlJ::t::ts) (w::v::vs)):bP K CL b H Z δ U (.ins c Qn2::ts) (w::vs):=by
 obtain⟨fp,gp,e,r,nd,k⟩:=S.rep;cases r with
 | @cons _ _ _ _ g1 g2 n m=>
  cases m with
  | @cons _ _ _ _ g3 g l j=>
   obtain⟨a,dx,gs,h,rfl,rfl,q,i⟩:=n.NC;obtain⟨s,d,p⟩:=cL.YN l i;have pm:(fp++((a::s)++g)).Perm (fp++((a::h)++(g3++g))):=by
    refine ka fp ?_;rw[<- fb];refine List.Perm.append_right g ?_;simp_all
   exact#[#[fp,_,e,.cons (.ins q d) j,pm.nodup_iff.2 nd,λc o=>k c (pm.mem_iff.1 o)],S.bh,S.zz,S.zh,S.new,S.tp,S.tab]
def x5(X:Cx)(CL:BM)(b:Bx)(es:CC)(δ:Ap)(dv:V->BC)(t:T)(δ':Ap):Prop:=
 ∀(H Z:Hp) (U:L2.St) (ts:Bz) (vs:BS) (Q:EO),bP X.K CL b H Z δ U ts vs →
  (∀us H' Z' v,aA Z Z'->aA H H'->bP X.K CL b H' Z' δ' U QbX QaS->aF X.K CL H' (dv v) us->Q us H')->Ah X es U H Q
theorem T.yy{f:Str}{v:V}{QC:B1}(h2:T.cC QC=true):∀{HP:B1},T.cC HP=true->T.cC QlJ=true
 | [],_=>‹_›
 | (x,t)::HP,h=>by
  rw[T.cC,fD]at h;rw[iu,T.cC,h.1,T.yy h2 h.2];rfl
variable{δ1 δ2:Ap}{e:Expr}{es:CC}{ds:BC}{d:D}{dv:V->BC}
def EE(h:Qaw)(r:Quv)(f:Qoh:=by rfl):x5 X CL b Qan δ (λv=>.val v::ds) t δ2:=λH Z U ts vs Q S k=>
 Ai (bE bX DV (aZ f)) (h H Z U ts vs _ S λv H1 Z1 c k1 i=>r H1 Z1 U _ _ _ i λus H2 Z2 a k2 g d=>k _ H2 Z2 v Qdq Qaf g (.cons (.val v) d))
def sW(h:Qe9)(r:x5 X CL b es δ1 dv t δ2)(i:Qoh:=by rfl):x5 X CL b Qan δ (λv=>d::dv v) t δ2:=λH Z U ts vs Q S k=>
 Ai (bE bX DV (aZ i)) (h H Z U ts vs _ S λv H1 Z1 c k1 l g=>r H1 Z1 U ts vs _ l λus H2 Z2 v2 a k2 j f=>k _ H2 Z2 v2 Qdq Qaf j Quw)
variable{A:Type}{k n:Nat}{arg:Qae}{Pre:Q4}
theorem Hn{res:Qfd}(a:V->A){HP:B1}(F:QtS)(u:Qad)(h:x5 X CL b Qan δ dv t δ1)(C:∀v,arg (a v)=dv v)(hp:∀v,Pre (a v))(g:∀v,res (a v)=HP++(f,.sh (.val v))::QC)(w:T.cC HP=true)(z:T.cC QC=true)(hn:∀v,(arg (a v)).length+1=n:=by exactλ_=>rfl)
  (p:AD x:=by decide) (he:Qaz:=by exact aZ rfl) (hpl:QaY:=by rfl) :
  bG X CL b Qbn δ (.ins x Qn2) δ1:=λH Z U ts vs Q S kk=>by
 obtain⟨D,fd,ps,M,B,hm,hb⟩:=F.ex;exact bU (KQ M B F.room u hm hb .nil Eg DV p he hpl) (h H Z U ts vs _ S λus H1 Z1 v l k1 d r y dx s c ne=>by
  rw[ft];refine#[H1,H1,a v,y,dx,us,rfl,s,c,ne,rfl,.refl _,λ_ _ q _=>q,WA,hn v,hp v,d.NF,λH' W' fp i ww o nw tp rt nd own=>#[rfl,?_]];obtain⟨Z',m,j⟩:=d.back i d.zh ww o nw tp rt nd own (.inr (by rw[g];exact T.yy z w));rw[g]at j;exact kk _ H' Z' (l.trans m) (k1.trans i) j.YN)
namespace Rv
def Oa:PySem.Slot "reversed" "__init__" "object.__init__":=
 .of (owner:="object") (n:="__init__") (by rw[typeLookup_type,builtinLookup_eq_fast];kernel_rfl) Wl Wl Wl
  (by first|exact .inl Wl|exact .inr Wl) (by rw[isSubtype_type];kernel_rfl)
noncomputable def called:TypeCalled "reversed" "reversed.__new__" "object.__init__":=
 #[Wl,Wl,#[_,_,PySem.F.mro_reversed],PySem.F.made_reversed,Wl,PySem.F.sub_reversed_self,Oa]
def obj(t:Addr)(i:Int):Obj:={cls:=.type "reversed",data:=.fields (List.toArray [.ref t,rawInt i])}
def Is(h:Heap)(a t:Addr)(i:Int):Prop:=∃o,h.get? a=some o/\o.cls=.type "reversed" /\ o.data=.fields (List.toArray [.ref t,rawInt i])
end Rv
section
inductive Fh:Expr->Int->Prop
 | c {i:Int} {k:Nat} {p:Pos}:Fh Quc i
 | n {i:Int} {k:Nat} {p q:Pos}:Fh (.UnaryOp .USub Quc q) (-i)
inductive Lb:CC->BA->Prop
 | nil:Lb [] []
 | cons {e:Expr} {x:Int} {es:CC} {l:BA}:Fh e x->Lb es l->Lb Qan (x::l)
theorem YQ{l:BA}(h:Lb es l:=by repeat constructor):Bb X CL b es δ ((l.map D.int).map T.sh) δ:=by
 induction h with
 | nil=>exact cj
 | cons r _ i=>
  cases r with
  | c=>exact bF uG i (aZ rfl)
  | n=>exact bF (cJ (ak uG)) i (aZ rfl)
end
variable{δ3:Ap}{e1 e2:Expr}{ds rT:BC}{p2:Pos}
theorem bP.yz{d:L3.D}(S:QrJ):bO K CL Z d v:=by
 obtain⟨fp,gp,e0,a,nd,ow⟩:=S.rep;cases a with
 | cons c e=>
  obtain⟨rfl,r⟩:=c.HD;exact r
def nj{lo hi:QdR}{l h:Bn}(h1:bG X CL b e δ (.sh QcJ) δ1)(hw:¬ (HT.iy ds.length 0 l=0/\HT.iy ds.length ds.length h=ds.length))(h2:Ql0)(w:Ql1) :
  bG X CL b Qhi δ (.sh (.tup (cutD ds l h))) δ3:=λH Z U ts vs Q S k=>by
 obtain⟨t2,f,t⟩:=h2;obtain⟨t3,d,s⟩:=w;refine bU (yb adg bX f d) (h1 H Z U ts vs _ S λv H1 Z1 q k1 A=>t H1 Z1 U _ _ _ A λH2 Z2 o k2 z=>s H2 Z2 U _ _ _ z λB Z3 n k3 g=>?_);have r:=g.yz;obtain⟨_,_,rfl,u,i⟩:=r.rN;refine#[_,_,rfl,aA.KZ g.zh u,by rw[<- i.length];exact hw,λp hp=>?_];have rc:=i.cut l h;obtain⟨a,c,y⟩:=(bP.nX rc g.pop).rO (by simp[rc.length]) hp;obtain⟨x,m,j⟩:=y.uF;rw[T.dJ,fS]at j;exact k _ _ x (q.trans (o.trans (n.trans (a.trans m)))) Qro j
theorem Sv(h1:Qhp)(h2:QkQ)(n1:ds≠[])(n2:Qpi)(hz:QgW) :
  bG X CL b Qc4 δ (.sh Qnv) δ2:=λH Z U ts vs Q S k=>
 bU (A3 KW bX bX) (h1 H Z U ts vs _ S λv1 H1 Z1 j k1 r=>h2 H1 Z1 U _ _ _ r λv2 H2 Z2 i k2 d=>by
  have l:=d.yz;have m:=d.pop.yz;obtain⟨_,_,rfl,s,g⟩:=m.rN;obtain⟨_,_,rfl,n,f⟩:=l.rN;have e1:=g.length;have e2:=f.length;refine#[_,_,_,_,rfl,rfl,aA.KZ d.zh s,aA.KZ d.zh n,λz=>n1 (ti (by rw[e1,z];rfl)),Wc,λz=>absurd (ti (by rw[e2,z];rfl)) n2,λ_ p hp=>?_];have rc:=aF.app g f;obtain⟨a,c,q⟩:=(bP.nX rc d.pop.pop).rO (by simp[rc.length,e1,e2]) hp;obtain⟨o,h,e⟩:=q.uF;rw[T.dJ,fS]at e;exact k _ _ o (j.trans (i.trans (a.trans h))) Qd8 e)
variable{ι:Nat->Nat}
def turned(ι:Nat->Nat)(i j:Nat):Nat->Nat:=λk=>if i<=k/\k<j then ι (i+j-1-k) else ι k
def Pe(hi:X.N[i]? = some x)(h:X.env.scope.names.lookup x=some .local)(hf:X.fn x=true)(hd:AD x:=by decide)(a:AE x:=by decide):Ln X i x:=#[#[hi,.inl h,hd,a],.inl h,.inl hf]
def Pf(hi:X.N[i]? = some x)(h:X.env.scope.names.lookup x=some .cell)(hf:X.fn x=true)(hd:AD x:=by decide)(a:AE x:=by decide):Ln X i x:=#[#[hi,.inr QdE,hd,a],.inr h,.inl hf]
variable{δc:Ap}{scope:Scope}{y:Str}{Nc:AT}{ix:Ch}{elt iter:Expr}{ifs:CC}{px pc:Pos}{p:QdY}{g:QcV}
def YR(sc:Qiw):iW X scope [y] Nc ix:=#[sc.kind,sc.Cb,sc.nd,sc.names,(λx a=>by rw[eR]at a;subst a;exact sc.own),sc.frees,sc.hd,sc.r8]
def IS(sc:Qiw)(h:Qrr)(h1:AD y)(h2:AE y):yt X CL scope Nc [y].length Qin part1 ifs elt δc ds p g:=λC s0 b f0 a=>
 #[yr sc.nd (Cj (by rw[sc.hd];rfl) sc.own h1 h2),λd hd=>#[[d],rfl,rfl,(h C s0 b f0 a d hd).1,(h C s0 b f0 a d hd).2]]
def gu(sc:Qiw)(c:QaL)(h:Qsl)(hb:(δc=sR δ1 ix/\∀d∈ds,(g d).clean=true)\/δc=sS δ1 ix)(inner:Qrr)(hlen:QaR)
  (a:Qa7:=by intro _;rfl) (h1:AD y:=by decide) (h2:AE y:=by decide):bG X CL b Qqq δ (.lst ((ds.filter p).map g)) δ1:=
 Sb QjW c (Bd h) hb Qvd hlen a
variable{dm:CI}
def rV{D:cM}{pos':Pos}{gg:QcV}(g:Gx X)(n:Qa0)(sc:Qiw)(h:Qsl)(hb:(δc=sR δ1 ix/\∀d∈ds,(gg d).clean=true)\/δc=sS δ1 ix)(inner:Block X CL scope Nc ifs elt δc ds p gg)
  (hlen:QaR) (k:cK X CL b dm (δ1.set i (some (.lst ((ds.filter p).map gg)))) D) (e:QbH)
  (a:QpZ) (c:Qa7:=by intro _;rfl)
  (h1:AD y:=by decide) (h2:AE y:=by decide):cK X CL b QrW δ D:=
 Sf g n QjW (Bd h) hb Qvd hlen k e a c
variable{d:L3.D}
def aq(n:Qa0)(h:δ[i]? = some Qca:=by rfl):b5 X CL b QaA δ d δ:=ak (v_ n.1 h)
structure EF(X:Cx):Prop where
 g:Gx X
 u:X.A.units+64<cLine
def xo{N P:AT}{sc:Scope}(h1:sc.kind=.function:=by rfl)(h2:sc.isCoroutine=false:=by rfl)(e:sc.isGenerator=false:=by rfl)(d:N.Nodup:=by decide +kernel)(c:N.take P.length=P:=by rfl)(b:∀x∈P,sc.names.lookup x=some .local\/sc.names.lookup x=some .cell:=by decide +kernel)(a:∀y∈sc.names,y.2 ≠ .free:=by decide +kernel):d9 N P sc:=#[h1,h2,e,d,c,b,a]
variable{y:Addr}
def Cm(H:Hp)(gp:BY):Hp:=λc=>if c∈gp then none else H c
variable{gp:BY}
def Sw{c:Addr}(h:c∉gp):Cm H gp c=H c:=cq h
def Lc{c:Addr}(h:c∈gp):Cm H gp c=none:=dU h
def uL{c:Addr}{o:HO}(h:Cm H gp c=some o):c∉gp/\H c=some o:=by
 by_cases a:c∈gp
 .rw[Lc a]at h;cases h
 .rw[Sw a]at h;exact#[a,h]
def Keeps(δ:Ap)(ol:Bz):Prop:=∀(j:Nat) (y:Addr) (t:T),ol[j]? = some (T.pin y t)->δ[j]? = some (some (T.pin y t))
def yC(N:AT)(al:Bz):Ap:=al.map some++List.replicate (N.length-al.length) none
def EG{al:Bz}(n:Nat):aQ K CL H Z al vs gp->fK K CL H Z QrX QkU gp:=
 aQ.ind (P:=λal vs gp=>fK K CL H Z QrX QkU gp) (j6 (ds:=[]) (vs:=[]) n .nil) λr _ i=>.cons r i
section
variable{D:cM}
def ue(X:Cx)(CL:BM)(b:Bx)(e:Expr)(δ:Ap)(t:T)(δ':Ap):Prop:=
 ∀(H Z:Hp) (U:L2.St) (ts:Bz) (vs:BS) (Q:VK),bP X.K CL b H Z δ U ts vs->(∀v H' Z',aA Z Z'->bP X.K CL b H' Z' δ' U QbX QaS->Q v H')->Ag X e U H Q
theorem bG.m(h:Qaw):ue X CL b e δ t δ1:=λH Z U ts vs Q S k=>h H Z U ts vs Q S λv H' Z' z _ a=>k v H' Z' z a
def Sx(h:Qmt)(k:D.nx δ1)(c:Qhj:=by rfl):RH X CL b (.Expr e pos) δ D:=λH Z U ts vs E S M=>mZ (p6 bX c) (h H Z U ts vs _ S λv H1 Z1 a d=>M.nx δ1 U H1 Z1 a d.pop k)
def Ld(h:Qmt)(k:cK X CL b dm δ1 D)(a:Qhj:=by rfl):cK X CL b (.Expr e pos::dm) δ D:=bI (Sx h k a)
end
variable{α:Type}{g:α->Int}
def u4(g:Nat->Int)(i j:Nat):Prop:=g i<g j\/(g i=g j/\i<j)
theorem u4.trans{g:Nat->Int}{j:Nat}(a:u4 g i j)(b:u4 g j k):u4 g i k:=by
 unfold u4 at *;lia
variable{o:Expr}{apos:Pos}
theorem YS{l:AT}{its:B0}(r:Vals Qcz its):∃ps:List (Str×Tok),its=strValues ps/\ps.map (·.1)=l:=by
 induction l generalizing its with
 | nil=>cases r;exact#[[],rfl,rfl]
 | cons x l a=>
  rw[e4]at r;cases r with
  | cons r rs=>
   obtain⟨t,rfl⟩:=r;obtain⟨ps,e1,e2⟩:=a rs;exact#[(x,t)::ps,by rw[e1];rfl,by rw[e4,e2]]
def YT:o8 X "str.join" (λx vs H Q=>∃(z:Str) (p:Addr) (l:AT),x=.str z/\vs=[.ref p]/\jX X.K H p Qcz/\JoinOk z l=true/\Q Quz H):=by
 intro pins s U H x vs v us Q I a b h;obtain⟨z,p,l,rfl,rfl,f,bZ,q⟩:=h;obtain⟨t,rfl⟩:=a;obtain⟨u,rfl,c⟩:=b.one;cases c;obtain⟨its,r,d,_⟩:=I.list f;obtain⟨ps,rfl,e⟩:=YS r;exact SC.join d.isList e bZ λt' k=>#[.str _,H,I.tok k,#[_,rfl],q]
def kZ{z:Str}{l:AT}(h1:Qff)(h2:b5 X CL b e δ1 (.lst QiD) δ2)(bZ:JoinOk z l=true)
  (n:attributeBase o "join" X.env Qdf=eval o X.env:=by rfl)
  (j:Qfg:=by rfl)
  (a:Qfh:=by rfl) (c:QaD:=by exact aZ rfl) :
  bG X CL b (.Call (.Attribute o "join" apos) [e] [] pos) δ (.sh Quz) δ2:=λH Z U ts vs Q S k=>
 bU (qN q0 PySem.F.slot_str_join PySem.F.type_str_join YT bX Qjh n j a c rfl)
  (h1 H Z U ts vs _ S λv1 H1 Z1 f k1 r i=>by
   have e1:=i.sc rfl;subst e1;refine#[rfl,h2 H1 Z1 U ts vs _ r λv2 H2 Z2 d k2 q h=>?_];obtain⟨p,us,rfl,m,g⟩:=h.gR;have e2:=g.strs;subst e2;exact#[z,p,l,rfl,rfl,m,bZ,k _ _ _ Qf5 Qaf (q.push QcK)])
def IP(lo c:Int)(n:Nat):It:=#[λi _=>i<n,λi H x H'=>H'=H/\x=.int (lo+i*c),λi _=>n<=i]
theorem Ob{P:Q1}{w:World}{tg:Expr}(it:Addr)(lo c:Int)(n:Nat):Turn P w K tg (IP lo c n) [it] it (λi h=>IsRangeIter h it (lo+(i:Nat)*c) ((n:Int)-(i:Nat)) c) where
 mem:=eR.2 rfl
 obj:=λi h st b hb=>by
  cases eR.1 hb;exact#[_,st,λv z=>by
   have p:Data.fields _=Data.cell v:=z;cases p]
 keep:=λi h h' st k=>k it QeC _ st
 item:=by
  intro X f hw g d i pins s U H E I hf st a;subst f hw g;obtain⟨f0,f1,f2,l,f4,j⟩:=hf it QeC;have W:=Walks.range (prog:=X.prog) (w:=X.w) (I.ok.hd d) it lo c n;refine W.item i s _ _ a st λv h' tk hv m kk=>?_;obtain⟨t,rfl⟩:=hv;have r:Inv X pins U H {s with heap:=h',toks:=tk}:=I.turned (λb o hb e=>kk b o (by simpa using hb) e) f0 f1 l f4 j;exact#[_,rfl,A2 (s:={s with heap:=h',toks:=tk}) (n:="range_iterator") m rfl rfl Wp #[.int (lo+i*c),H,r,#[t,rfl],#[rfl,rfl],m,λb hb=>(hf b hb).1]]
 done:=by
  intro X f hw g d i pins s U H E I hf st a;subst f hw g;obtain⟨f0,f1,f2,l,f4,j⟩:=hf it QeC;exact wpAny_pyNext_range_end (I.ok.hd d) st (by have:n<=i:=a;lia) λh' q=>#[rfl,I.turned (t':=s.toks) Qln f0 f1 l f4 j]
 self:=λ_ _ _ _ _ st h=>wpAny_pyIter_rangeiter st h
def nq(lo hi:Int):Nat:=((hi-lo+1) / 2).toNat
theorem step_size{lo hi:Int}(h0:0<=lo)(h1:lo<=1000)(h2:0<=hi)(a:hi<=1000):Builtin.Range.rangeSize lo hi 2=(nq lo hi:Int)/\Builtin.Range.small lo hi 2=true:=by
 have e:Builtin.Range.rangeSize lo hi 2=(nq lo hi:Int):=by
  unfold Builtin.Range.rangeSize nq;simp only[show(2:Int) > 0 by decide,if_true];split<;>lia
 refine#[e,?_];unfold Builtin.Range.small;rw[e];unfold nq;simp only[Builtin.Range.rangeFitsLong,fD,my,hq,i3,show(2:Int) > 0 by decide,if_true];lia
variable{tg:Expr}
def YO(ta:TA):TI:=λU H R=>ta U H λvs H1=>∃i j:Int,vs=[.int i,.int j,.int 2]/\(0<=i/\i<=1000/\0<=j/\j<=1000)/\R (IP i 2 (nq i j)) H1
theorem Oc{a b c:Expr}{ta:TA}{p:Pos}(A:Qe4)(hm:Qe5)(B:PA X [a,b,c] ta)(z:starEach [a,b,c] X.env=[(false,eval a X.env),(false,eval b X.env),(false,eval c X.env)]:=by rfl)(n:AR X b c:=by rfl) :
  PI X tg (.Call QmM [a,b,c] [] pos) (YO ta):=by
 intro pins s U H R I h;refine Call_ (oE I A hm boot_range (q1 (cS QtI λus s1 ⟨vs,H1,C,u,k⟩=>?_) (by rw[z,n]) (by rw[n];rfl)));obtain⟨i,j,e,⟨k,y,x,w⟩,q⟩:=k;subst e;cases u with
 | cons r d=>
  cases d with
  | cons v d=>
   cases d with
   | cons g d=>
    cases d;obtain⟨t,rfl⟩:=r;obtain⟨t',rfl⟩:=v;obtain⟨f,rfl⟩:=g;obtain⟨hn,l⟩:=step_size k y x w;refine call_range_3 Wp ?_ (.inl (PyProof.noPylong_small Wp));refine wpAny_pyIter_range (IsRange.new ..) l ?_;have m:=C.kept (t':=s1.toks) (h':=s1.heap.push {cls:=.type "range",data:=.fields (List.toArray [.int i t,.int j t',.int 2 f])}) λb o e=>gx _ e;refine#[_,[_],_,_,H1,rfl,m.kept (t':=s1.toks) λb o e=>gx _ e,Ob _ i 2 (nq i j),?_,λb hb=>?_,q]
    .have e1:i+((0:Nat):Int)*2=i:=by lia
     have e2:((nq i j:Nat):Int)-((0:Nat):Int)=Builtin.Range.rangeSize i j 2:=by rw[hn];lia
     show IsRangeIter _ _ (i+((0:Nat):Int)*2) (((nq i j:Nat):Int)-((0:Nat):Int)) 2;rw[e1,e2];exact hX _ rfl
    .cases eR.1 hb;exact m.v9 (eA _) (m.bZ.fresh (eA _))
def qQ(lo:Int)(n:Nat):BC:=(List.range n).map λ(i:Nat)=>D.int (lo+i*2)
variable{e3:Expr}{pr:Pos}
def Sy(lo:Int)(n:Nat):aF K CL Z (qQ lo n) ((List.range n).map λ(i:Nat)=>V.int (lo+i*2)):=by
 unfold qQ;generalize List.range n=l
 induction l with
 | nil=>exact .nil
 | cons i r a=>exact .cons QbU a
def Od{m n:Int}(hm:Qe5)(h:GZ X CL b [e1,e2,e3] δ [.int m,.int n,.int 2] δ1)(hn:0<=m/\m<=1000/\0<=n/\n<=1000)(l:Qe4)
  (j:starEach [e1,e2,e3] X.env=[(false,eval e1 X.env),(false,eval e2 X.env),(false,eval e3 X.env)]:=by rfl) (p:AR X e2 e3:=by rfl) :
  QB X CL b tg (.Call Qmz [e1,e2,e3] [] pc) δ (qQ m (nq m n)) δ1:=by
 refine#[_,Oc l hm DV j p,λH Z U ts vs R S k=>h H Z U ts vs _ S λd H1 Z1 c k1 o r=>?_];cases r with
 | cons g r=>
  cases r with
  | cons f r=>
   cases r with
   | cons e r=>
    cases r;rw[g.sc rfl,f.sc rfl,e.sc rfl];refine#[m,n,rfl,hn,k _ _ #[Z1,_,c,k1,o,Sy m (nq m n),λi H2 s hi=>?_,λi H2 y H' s hi a=>?_,λH2 s=>?_]]
    .show i<nq m n;rw[qQ,eu,gz]at hi;exact hi
    .rw[qQ,eu,gz]at hi;refine#[a.1,?_];rw[fT,hW hi,a.2];rfl
    .show nq m n<=(qQ m (nq m n)).length;rw[qQ,eu,gz];exact eA _
def YI(K:Frag):R2:=λx y H Q=>∃a b xs ys,x=.ref a/\y=.ref b/\lS K H a xs/\lS K H b ys/\ys≠[]/\xs.length+ys.length<=sizeLine ∧
 (xs=[]->Q Qgl H)/\(xs≠[]->∀p,H p=none->Q Qbw Qty)
def YV:n9 X Qeo (YI X.K):=by
 intro pins s U H x y v u Q I g f h;obtain⟨a,b,xs,ys,rfl,rfl,k,hb,t,hz,q,p⟩:=h;by_cases c:xs=[]
 .subst c;cases g;cases f;obtain⟨its,o,r,_⟩:=I.tuple k;obtain⟨A,B,p2,_⟩:=I.tuple hb;cases o;obtain⟨⟨cls,dd,data,sl⟩,i,j,n,hd⟩:=id r;obtain⟨⟨w,d,data2,z⟩,m,l,n2,hd2⟩:=id p2;simp only at j hd l hd2;subst j hd l hd2;exact concat_meets #[_,i,rfl] #[_,m,rfl] noFill_tuple_add seq_tuple_add HU Iy (ID _ _)
   (tuple_addW0 a b _ _ n n2 dd d sl z rfl) #[i,m,#[.ref b,H,I,rfl,q rfl]]
 .exact KW pins s U H _ _ v u Q I g f #[a,b,xs,ys,rfl,rfl,k,hb,c,hz,λe=>absurd e t,λ_=>p c]
theorem jt(h1:Qhp)(h2:QkQ)(n2:Qpi)(hz:QgW) :
  bG X CL b Qc4 δ (.sh Qnv) δ2:=λH Z U ts vs Q S k=>
 bU (A3 YV bX bX) (h1 H Z U ts vs _ S λv1 H1 Z1 g k1 s=>h2 H1 Z1 U _ _ _ s λv2 H2 Z2 f k2 d=>by
  have h:=d.yz;have n:=d.pop.yz;have e:=h;obtain⟨_,_,rfl,t,l⟩:=n.rN;obtain⟨_,_,rfl,o,j⟩:=h.rN;have e1:=l.length;have e2:=j.length;refine#[_,_,_,_,rfl,rfl,aA.KZ d.zh t,aA.KZ d.zh o,λz=>n2 (ti (by rw[e2,z];rfl)),Wc,λz=>?_,λ_ p hp=>?_]
  .have:ds=[]:=ti (by rw[e1,z];rfl);subst this;exact k _ _ _ Qjs Qaf (d.pop.pop.push e)
  .have rc:=aF.app l j;obtain⟨a,c,r⟩:=(bP.nX rc d.pop.pop).rO (by simp[rc.length,e1,e2]) hp;obtain⟨q,m,i⟩:=r.uF;rw[T.dJ,fS]at i;exact k _ _ q (g.trans (f.trans (a.trans m))) Qd8 i)
def Sz(h1:Qk4)(h2:bG X CL b e2 δ1 (.sh (.lst rT)) δ2)(hz:QgW) :
  bG X CL b Qc4 δ (.lst ((ds++rT).map T.sh)) δ2:=λH Z U ts vs Q S k=>
 bU (A3 K5 bX bX) (h1 H Z U ts vs _ S λv1 H1 Z1 g k1 m=>h2 H1 Z1 U _ _ _ m λv2 H2 Z2 f k2 a=>by
  have h:=a.yz;have i:=a.pop.yz;obtain⟨_,_,rfl,n,e⟩:=i.gR;obtain⟨_,_,rfl,j,d⟩:=h.gR;refine#[_,_,_,_,rfl,rfl,a.zh.seq n,a.zh.seq j,by rw[<- e.length,<- d.length];exact hz,λp hp=>?_];have rc:=aF.app e d;obtain⟨c,l⟩:=(bP.nX rc a.pop.pop).rP (g0:=[]) (by simp[rc.length,e.length,d.length]) hp;exact k _ _ _ Qjs Qd8 l)
def Of(K:Frag)(a c:Addr):It:=
 #[λi H=>∃xs ys x y,jX K H a xs/\jX K H c ys/\xs[i]? = some x/\ys[i]? = some y,λi H v H'=>∃T x y,H T=none/\v=.ref T/\(∀xs,jX K H a xs->xs[i]? = some x)/\(∀ys,jX K H c ys->ys[i]? = some y)/\H'=upd H T Qjj,
  λi H=>∃xs ys,jX K H a xs/\jX K H c ys/\(xs.length<=i\/ys.length<=i)]
structure YE(z TI TO i1 i2 a c:Addr)(i:Nat)(h:Heap):Prop where
 hz:IsZip h z TI TO .none
 vi:IsPair h TI (.ref i1) (.ref i2)
 vc:∃x y,IsPair h TO x y
 h1:h.IsListIter i1 a i
 h2:h.IsListIter i2 c i
theorem SD{P:Q1}{w:World}{elts:CC}{kk:Nat}{pt:Pos}{z TI TO i1 i2 a c:Addr}(D:ZipApart z TI TO i1 i2 a c):Turn P w K Qc8 (Of K a c) [z,TI,TO,i1,i2] z (YE z TI TO i1 i2 a c) where
 mem:=eB
 obj:=λi h st b hb=>by
  have seq:∀{T:Addr} {x y:Value},IsPair h T x y->∃o,h.get? T=some o/\∀v,o.data ≠ .cell v:=λe=>#[_,e,λv z=>by
   have Y:Data.seq _=Data.cell v:=z;cases Y]
  have M:∀{T l:Addr} {n:Nat},h.IsListIter T l n->∃o,h.get? T=some o/\∀v,o.data ≠ .cell v:=λq=>by
   obtain⟨o,e,c,d⟩:=q;exact#[o,e,λv z=>by rw[d]at z;cases z]
  obtain rfl|hb:=ew.1 hb
  .exact#[_,st.hz,λv z=>by
    have Y:Data.fields _=Data.cell v:=z;cases Y]
  obtain rfl|hb:=ew.1 hb
  .exact seq st.vi
  obtain rfl|hb:=ew.1 hb
  .obtain⟨x,y,e⟩:=st.vc;exact seq e
  obtain rfl|hb:=ew.1 hb
  .exact M st.h1
  .cases eR.1 hb;exact M st.h2
 keep:=λi h h' st k=>by
  obtain⟨x,y,e⟩:=st.vc;exact#[k z W2 _ st.hz,k TI W2 _ st.vi,#[x,y,k TO W2 _ e],st.h1.at λo q=>k i1 W2 o q,st.h2.at λo q=>k i2 W2 o q]
 item:=by
  intro X hP hw hK f i pins s U H E I hf st hg;subst hP hw hK;obtain⟨xs,ys,x,y,V,O,S,R⟩:=hg;obtain⟨its,Z,p,hz⟩:=I.list V;obtain⟨wc,J,p2,ae⟩:=I.list O;obtain⟨u,hu,ru⟩:=Z.get S;obtain⟨u2,af,aa⟩:=J.get R;obtain⟨sz,A,⟨x0,y0,C⟩,s1,s2⟩:=st;have j:=hf z W2;have t:=hf TO W2;have f1:=hf i1 W2;have f2:=hf i2 W2;have L:H s.heap.objs.size=none:=I.bZ.fresh (eA _);have W:=I.v9 Qub L;refine PySem.wpAny_pyNext_zip_item D sz A C s1 s2 p.isList p2.isList (x:=u) (y:=u2) (by simpa using hu) (by simpa using af) λh' N hO aw ax hT hsz hk=>#[_,rfl,?_];refine PySem.wpAny_letOwnedTupleGo_zip N λh2 ag G=>?_;replace G:Heap.SameBut z h' h2:=G;have lt:∀{b:Addr} {o:Obj},s.heap.get? b=some o->b<s.heap.objs.size:=λe=>fA e;have zT:=lt sz;have keep:∀b o,b≠z->b≠TO->b≠i1->b≠i2->s.heap.get? b=some o->h2.get? b=some o:=λb o h1 h3 h4 h5 q=>(G.2 b h1).trans (hk b o h1 h3 h4 h5 q);have ar:h2.get? s.heap.objs.size=some {cls:=.type "tuple",data:=.seq (List.toArray [u,u2])}:=(G.2 _ (qi zT)).trans hT;have B:∀b o,H b=some o->(b≠z/\b≠TO/\b≠i1/\b≠i2)/\b≠s.heap.objs.size:=λb o q=>#[#[λw=>(by rw[w,j.1]at q;cases q),λw=>(by rw[w,t.1]at q;cases q),λw=>(by rw[w,f1.1]at q;cases q),λw=>(by rw[w,f2.1]at q;cases q)],λw=>(by rw[w,L]at q;cases q)];have g:∀b o,¬ b∈[z,TO,i1,i2,s.heap.objs.size]->s.heap.get? b=some o->h2.get? b=some o:=λb o f q=>keep b o (λw=>f (by simp[w])) (λw=>f (by simp[w])) (λw=>f (by simp[w])) (λw=>f (by simp[w])) q;have I':L2.Inv X pins U (upd H s.heap.objs.size Qjj) {s with heap:=h2}:=by
   refine I.step (g':=s.gens) (d':=s.drawn) (t':=s.toks) (ch:=[z,TO,i1,i2,s.heap.objs.size]) (λb hb=>?_) (λb o _ _ f q _=>?_) (λb o _ _ f q _=>#[o.slots,?_]) (λb o f q n=>?_) (λb o f q=>#[o,?_]) (λb ys q=>?_) (λb o u q=>?_) (λb ps q=>#[#[],?_]) (λm hm=>?_) (λb o q=>?_) I.bare
   .obtain rfl|hb:=ew.1 hb
    .exact#[j.2.2.2.1,j.2.1,j.2.2.2.2.1,j.2.2.2.2.2]
    obtain rfl|hb:=ew.1 hb
    .exact#[t.2.2.2.1,t.2.1,t.2.2.2.2.1,t.2.2.2.2.2]
    obtain rfl|hb:=ew.1 hb
    .exact#[f1.2.2.2.1,f1.2.1,f1.2.2.2.2.1,f1.2.2.2.2.2]
    obtain rfl|hb:=ew.1 hb
    .exact#[f2.2.2.2.1,f2.2.1,f2.2.2.2.2.1,f2.2.2.2.2.2]
    .cases eR.1 hb;exact#[W.2.2.2.1,W.2.1,W.2.2.2.2.1,W.2.2.2.2.2]
   .exact g b o f q
   .exact g b o f q
   .rw[ay (λw=>f (by simp[w]))];exact n
   .exact g b o f q
   .rw[ay (B b _ q).2];exact q
   .rw[ay (B b _ q).2];exact q
   .rw[ay (B b _ q).2,q];simp
   .obtain⟨o,es,ep,N,r⟩:=hm;exact#[o,es,ep,keep _ o (hV j.2.1) (hV t.2.1) (hV f1.2.1) (hV f2.2.1) N,r]
   .by_cases hb:b=s.heap.objs.size
    .subst hb;rw[aM]at q;cases q;exact#[hS (bR Qbj),[u,u2],.cons ru (.cons aa .nil),#[_,ar,rfl,_,rfl]]
    .rw[ay hb]at q;refine(I.bZ b o q).rL (λc v f w=>?_) (λc w=>by rw[ay (B c _ w).2];exact w) (λc ys w=>by rw[ay (B c _ w).2];exact w) λc ys w=>by rw[ay (B c _ w).2];exact w
     have F:c≠z/\c≠TO/\c≠i1/\c≠i2:=by
      obtain e|e:=f
      .rw[e];exact(B b _ q).1
      .exact(B c _ e).1
     exact keep c v F.1 F.2.1 F.2.2.1 F.2.2.2 w
  refine#[.ref s.heap.objs.size,_,I',rfl,#[_,x,y,L,rfl,λys R=>by rw[I.sH R V];exact S,λzs hz=>by rw[I.sH hz O];exact R,rfl],#[ag,(G.2 TI D.TIz).trans (hk TI _ D.TIz D.TITO D.TIi1 D.TIi2 A),#[u,u2,(G.2 TO D.TOz).trans hO],aw.at λo q=>(G.2 i1 D.i1z).trans q,ax.at λo q=>(G.2 i2 D.i2z).trans q],λb hb=>?_];have DW:b<s.heap.objs.size:=by
   obtain rfl|hb:=ew.1 hb
   .exact lt sz
   obtain rfl|hb:=ew.1 hb
   .exact lt A
   obtain rfl|hb:=ew.1 hb
   .exact lt C
   obtain rfl|hb:=ew.1 hb
   .obtain⟨o,q,_⟩:=s1;exact lt q
   .cases eR.1 hb;obtain⟨o,q,_⟩:=s2;exact lt q
  rw[ay (hG DW)];exact(hf b hb).1
 done:=by
  intro X hP hw hK f i pins s U H E I hf st hg;subst hP hw hK;obtain⟨xs,ys,V,O,S⟩:=hg;obtain⟨its,Z,p,hz⟩:=I.list V;obtain⟨wc,J,p2,ae⟩:=I.list O;obtain⟨sz,A,⟨x0,y0,C⟩,s1,s2⟩:=st;have l1:=Z.length;have l2:=J.length;have j:=hf z W2;have t:=hf TO W2;have f1:=hf i1 W2;have f2:=hf i2 W2;refine PySem.wpAny_pyNext_zip_end (I.ok.hd f) D sz A C s1 s2 p.isList p2.isList ?_ λh' eb=>#[rfl,?_]
  .obtain h|h:=S
   .exact .inl WF
   .exact .inr WF
  .have B:∀b o,H b=some o->b≠z/\b≠TO/\b≠i1/\b≠i2:=λb o q=>#[λw=>(by rw[w,j.1]at q;cases q),λw=>(by rw[w,t.1]at q;cases q),λw=>(by rw[w,f1.1]at q;cases q),λw=>(by rw[w,f2.1]at q;cases q)];have g:∀b o,¬ b∈[z,TO,i1,i2]->s.heap.get? b=some o->h'.get? b=some o:=λb o f q=>eb b o (λw=>f (by simp[w])) (λw=>f (by simp[w])) (λw=>f (by simp[w])) (λw=>f (by simp[w])) q;refine I.step (g':=s.gens) (d':=s.drawn) (t':=s.toks) (ch:=[z,TO,i1,i2]) (λb hb=>?_) (λb o _ _ f q _=>?_) (λb o _ _ f q _=>#[o.slots,?_]) (λb o f q n=>?_) (λb o f q=>#[o,?_]) (λb ys q=>?_) (λb o u q=>?_) (λb ps q=>#[#[],?_]) (λm hm=>?_) (λb o q=>?_) I.bare
   .obtain rfl|hb:=ew.1 hb
    .exact#[j.2.2.2.1,j.2.1,j.2.2.2.2.1,j.2.2.2.2.2]
    obtain rfl|hb:=ew.1 hb
    .exact#[t.2.2.2.1,t.2.1,t.2.2.2.2.1,t.2.2.2.2.2]
    obtain rfl|hb:=ew.1 hb
    .exact#[f1.2.2.2.1,f1.2.1,f1.2.2.2.2.1,f1.2.2.2.2.2]
    .cases eR.1 hb;exact#[f2.2.2.2.1,f2.2.1,f2.2.2.2.2.1,f2.2.2.2.2.2]
   .exact g b o f q
   .exact g b o f q
   .exact n
   .exact g b o f q
   .exact q
   .exact q
   .rw[q];simp
   .obtain⟨o,es,ep,N,r⟩:=hm;exact#[o,es,ep,eb _ o (hV j.2.1) (hV t.2.1) (hV f1.2.1) (hV f2.2.1) N,r]
   .refine(I.bZ b o q).rL (λc v f w=>?_) (λc w=>w) (λc ys w=>w) λc ys w=>w;have F:c≠z/\c≠TO/\c≠i1/\c≠i2:=by
     obtain e|e:=f
     .rw[e];exact B b _ q
     .exact B c _ e
    exact eb c v F.1 F.2.1 F.2.2.1 F.2.2.2 w
 self:=λ_ _ _ _ _ st h=>PySem.wpAny_pyIter_zip st.hz h
def boot_zip:bootBuiltins "zip" = some (.type "zip"):=by decide +kernel
variable{elts:CC}{kk:Nat}{pt:Pos}
def S2(K:Frag)(ta:TA):TI:=λU H R=>ta U H λvs H1=>∃a c xs ys,vs=[.ref a,.ref c]/\jX K H1 a xs/\jX K H1 c ys/\R (Of K a c) H1
theorem ad1{a c:Expr}{ta:TA}{p:Pos}(A:Gl X "zip")(hm:X.mg "zip" = none)(B:PA X [a,c] ta)(x:AR X a c:=by rfl)(j:starEach [c] X.env=[(false,eval c X.env)]:=by rfl):PI X Qc8 (.Call (.Name "zip" p) [a,c] [] pos) (S2 X.K ta):=by
 intro pins s U H R I h;refine Call_ (oE I A hm boot_zip (q1 (cS QtI λus s1 zz=>?_) (by rw[x,j]) (by rw[j];rfl)));obtain⟨vs,H1,d,n,u⟩:=zz;obtain⟨l,m,xs,ys,e,y,v,q⟩:=u;subst e;cases n with
 | cons r f=>
  cases f with
  | cons t f=>
   cases f;cases r;cases t;obtain⟨its,E,p,hz⟩:=d.list y;obtain⟨D,k,p2,w⟩:=d.list v;have a1:l<s1.heap.objs.size:=by obtain⟨_,e,_⟩:=p.isList;exact fA e
   have a2:m<s1.heap.objs.size:=by obtain⟨_,e,_⟩:=p2.isList;exact fA e
   refine PySem.call_zip_2 p.isList p2.isList λh' hz vi vc i g hsz z=>?_;have C:L2.Inv X pins U H1 {s1 with heap:=h'}:=d.kept (t':=s1.toks) λb o e=>z b o e;refine PySem.wpAny_pyIter_zip hz ?_;refine#[s1.heap.objs.size+4,[s1.heap.objs.size+4,s1.heap.objs.size+2,s1.heap.objs.size+3,s1.heap.objs.size,s1.heap.objs.size+1],_,_,H1,rfl,C,SD (PyProof.Rows.zipApart_new a1 a2),#[hz,vi,#[_,_,vc],i,g],λb hb=>?_,q];have ge:s1.heap.objs.size<=b:=by
    obtain rfl|hb:=ew.1 hb
    .exact oA _ _
    obtain rfl|hb:=ew.1 hb
    .exact oA _ _
    obtain rfl|hb:=ew.1 hb
    .exact oA _ _
    obtain rfl|hb:=ew.1 hb
    .exact eA _
    .cases eR.1 hb;exact oA _ _
   exact d.v9 ge (d.bZ.fresh ge)
def Cp(ds es:BC):BC:=(ds.zip es).map λp=>.tup [p.1,p.2]
def SG{ds es:BC}{d e:D}(h:ds[i]? = some d)(h2:es[i]? = some e):(Cp ds es)[i]? = some (.tup [d,e]):=by
 unfold Cp;rw[fT,List.getElem?_zip_eq_some (z:=(d,e)).2 #[h,h2]];rfl
variable{ds es:BC}
theorem ad2(hm:X.mg "zip" = none)(h1:Qk4)(h2:bG X CL b e2 δ1 (.sh (.lst es)) δ2)(I:Gl X "zip")(G:ds.length=es.length)
  (F:AR X e1 e2:=by rfl) (D:QrI:=by rfl) (o:Qkv:=by rfl) (n:AC X e2 []:=by rfl) :
  NT X CL b Qc8 (.Call (.Name "zip" pr) [e1,e2] [] pc) δ (Cp ds es) δ2:=by
 have e:(Cp ds es).length=ds.length:=by rw[Cp,eu,List.length_zip,G,Nat.min_self]
 refine#[_,ad1 I hm (bE bX (bE bX cT n) o) F D,λH Z U ts vs R S k=>h1 H Z U ts vs _ S λv H1 Z1 u k1 K=>h2 H1 Z1 U _ _ _ K λv2 H2 Z2 t k2 f=>?_];have B:=f.yz;have C:=f.pop.yz;obtain⟨a,us,rfl,j,r⟩:=C.gR;obtain⟨c,g,rfl,h,q⟩:=B.gR;have l1:=r.length;have l2:=q.length;refine#[a,c,us,g,rfl,f.zh.seq j,f.zh.seq h,k _ _ #[Z2,u.trans t,k1.trans k2,f.pop.pop,λi H2 s hi=>?_,λi Z3 L x H' s1 s2 tp hi m=>?_,λH2 s=>?_]]
 .rw[e]at hi;exact#[us,g,us[i]'Wc,g[i]'Wc,s.seq j,s.seq h,gh Wc,gh Wc]
 .rw[e]at hi;obtain⟨T,y,w,J,rfl,E,m,rfl⟩:=m;obtain⟨d,hd,A⟩:=r.Rz (E us ((s1.trans s2).seq j));obtain⟨d2,hd2,l⟩:=q.Rz (m g ((s1.trans s2).seq h));have p:Am Z3 L _ _:=Am.tup (xs:=[y,w]) s2 tp J;exact#[_,_,SG hd hd2,p,.tup (lS.of aM) (.cons ((A.mono s1).mono p.z) (.cons ((l.mono s1).mono p.z) .nil))]
 .rw[e];exact#[us,g,s.seq j,s.seq h,.inl Wc]
def YW:n9 X Qwb (λx y H Q=>∃i n,x=.str i/\y=.int n/\MulOk i n/\Q (.str (Txt.mul i n)) H):=by
 intro pins s U H x y v u Q I b a h;obtain⟨i,n,rfl,rfl,hz,q⟩:=h;obtain⟨t,rfl⟩:=b;obtain⟨t',rfl⟩:=a;exact SB.mul hz λt' k=>#[.str (Txt.mul i n),H,I.tok _,#[_,rfl],q]
def YX{n:Int}(h1:Qc0)(h2:Qtc)(c:MulOk x n):bG X CL b QtB δ (.sh (.str (Txt.mul x n))) δ2:=oM YW h1 h2 rfl rfl rfl λ_ _ q=>#[x,n,rfl,rfl,c,q]
noncomputable def S1(te:TE):TE:=λU H Q=>te U H λv H1=>(∃x,v=.str x/\x.length<=sizeLine/\Q Qax H1)\/(∃i:Int,v=.int i/\i.natAbs.log2<1920/\Q QxY H1)
def SJ{te:TE}(he:Qcj):PE X QkW (S1 te):=by
 intro pins s U H Q I h;refine FormattedValue_plain (cS Qct λv s1 zz=>?_);obtain⟨x,H1,b,a,c⟩:=zz;obtain⟨y,rfl,hz,q⟩|⟨i,rfl,hz,q⟩:=c
 .obtain⟨t,rfl⟩:=a;exact formatField_str (λt' tk=>#[.str y,H1,b.tok _,#[_,rfl],q]) hz
 .obtain⟨t,rfl⟩:=a;exact formatField_int_small hz #[.str _,H1,b.tok _,#[_,rfl],q]
def YY(h:Qlp)(hz:Qb5):bG X CL b QkW δ (.sh Qax) δ1:=λH Z U ts vs Q S k=>
 bU (SJ bX) (h H Z U ts vs _ S λv H1 Z1 a k1 c r=>.inl #[x,r.sc rfl,hz,k _ H1 Z1 a k1 QwZ])
def YZ{i:Int}(h:Qtg)(hz:QwP):bG X CL b QkW δ (.sh QxY) δ1:=λH Z U ts vs Q S k=>
 bU (SJ bX) (h H Z U ts vs _ S λv H1 Z1 a k1 c r=>.inr #[i,r.sc rfl,hz,k _ H1 Z1 a k1 QwZ])
def IM(X:Cx)(out:Str)(es:CC):TE:=λU H Q=>∀(pins:At) (s:Qr),Inv X pins U H s->wpAny Qy X.A (joinParts out (evalEach es X.env)) Qa8 X.xe s
def xy(X:Cx)(CL:BM)(b:Bx)(out:Str)(es:CC)(δ:Ap)(res:Str)(δ':Ap):Prop:=
 ∀(H Z:Hp) (U:L2.St) (ts:Bz) (vs:BS) (Q:VK),bP X.K CL b H Z δ U ts vs->(∀v H' Z',aA Z Z'->aA H H'->bP X.K CL b H' Z' δ' U (.sh (.str res)::ts) QaS->Q v H')->IM X out es U H Q
noncomputable def ad3{out:Str}(hz:out.length<=sizeLine):xy X CL b out [] δ out δ:=λH Z U ts vs Q S k pins s I=>
 joinParts_nil #[.str out,H,I.tok _,#[_,rfl],k _ H Z QA QA (S.push QcK)] hz
def xq{out res:Str}{es:CC}(h1:Qlp)(h2:xy X CL b (out++x) es δ1 res δ2)(hz:(out++x).length<=sizeLine)(f:evalEach Qan X.env=eval e X.env::evalEach es X.env:=by rfl):xy X CL b out Qan δ res δ2:=λH Z U ts vs Q S k pins s I=>by
 rw[f];refine joinParts_cons (cS (h1 H Z U ts vs (λv H1=>v=.str x/\IM X (out++x) es U H1 Q) S (λv H1 Z1 a k1 g r=>#[r.sc rfl,h2 H1 Z1 U ts vs Q g λv' H' Z' z d h=>k v' H' Z' (a.trans z) (k1.trans d) h]) pins s I) λu s1 zz=>?_);obtain⟨v,H1,i,c,rfl,q⟩:=zz;obtain⟨t,rfl⟩:=c;exact#[hz,q pins s1 i]
def Oe{v1 v2:Expr}{es:CC}{res:Str}(h:xy X CL b Str.empty QoL δ res δ1)(a:evalEach QoL X.env=eval v1 X.env::eval v2 X.env::evalEach es X.env:=by rfl):bG X CL b (.JoinedStr QoL pos) δ (.sh (.str res)) δ1:=λH Z U ts vs Q S k pins s I=>
 JoinedStr_many (by
  have:=h H Z U ts vs Q S k pins s I
  rwa [a]at this)
variable{tl Yr tt tt0:Bz}{DD:cM}{pa pb ps:Pos}
def SK(j:Nat)(n:QaZ)(h2:b5 X CL b e2 δ (.int j) δ)(h0:δ[i]? = some (some (.lst tt0)))(q:tt0[j]? = some (.lst Yr))(h:Qaw)(h1:δ1[i]? = some Qwk)(p:tt[j]? = some QcC)(L:Qm5)(k:cK X CL b dm (δ1.set i QrU) DD)
  (hp:kU e2:=by exactλ_ _=>rfl)
  (N:attributeBase Qfv "append" X.env (eval Qfv X.env)=eval Qfv X.env:=by rfl)
  (J:QgS:=by rfl)
  (d:QgT:=by rfl) (s:QaD:=by exact aZ rfl) (D:swapsWith QqD none pos.line X.env=pure false:=by rfl) :
  cK X CL b (.Expr QqD pos::dm) δ DD:=
 bI λH Z U ts vs E S M=>
 mZ (p6 (qN xp zd y8 qa (yc w9 Qfy bX hp) (bE bX cT s) N J d s rfl) D) (by
  obtain⟨v0,c,_⟩:=S.look h0;refine#[v0,c,h2 H Z U ts vs _ S λv2 H2 Z2 A k2 y G=>?_];obtain⟨fp,gp,e0,W,I,k0⟩:=y.rep;obtain⟨V,f1,f2,f3,z,Y,rt,_,_⟩:=e0.get h0;rw[c]at z;cases z;obtain⟨O,f,_,rfl,rfl,u,rs⟩:=rt.gR;obtain⟨C,gj,g,F,_⟩:=rs.get q;refine#[O,f,j,C,rfl,G.sc rfl,jX.of u,gq g,?_,?_]
  .obtain⟨_,_,_,rfl,rfl,o,_⟩:=F.gR;exact .inl #[rfl,_,jX.of o]
  .refine h H2 Z2 U ts vs _ y λv H1 Z1 B k1 R=>?_;obtain⟨b0,l,a,us,w,T,hw,K,o,m,P⟩:=R.N6 h1 p;rw[c]at w;cases w;have r:l[j]? = f[j]?:=by
    have h2:=k1 _ _ u;rw[T]at h2;injection h2 with h2;injection h2 with h2;rw[h2]
   rw[r,g]at hw;cases hw;exact#[a,us,v,rfl,rfl,o,by rw[m];exact oC L (by rw[fR];decide),M.nx _ U _ Z1 (A.trans B) P k])
def SM{ds:BC}(h:Qfa)(he:∀whole,isTrue e X.env whole=(do let v ← whole;standAt e.pos;holding [v] Qf8):=by intro _;rfl):m5 X CL b e δ (!ds.isEmpty) δ1:=λH Z U ts vs Q S k=>
 sP (Q7 bX he) (h H Z U ts vs _ S λv H1 Z1 c k1 g r=>by
  obtain⟨a,us,rfl,f,d⟩:=r.gR;refine#[_,.inl #[us,f,rfl],?_];have e:us.isEmpty=ds.isEmpty:=by
   have:=d.length;cases us<;>cases ds<;>simp at this ⊢
  rw[e];exact k H1 Z1 c k1 g)
def EH(aO:QoM)(k:EN):Option α:=(aO.find? λa=>decide Qgj).map (·.2)
def SN{p:QfW}{r:QoM}{k:EN}(e:p.1=k):EH (p::r) k=some p.2:=by simp[EH,e]
def SQ{p:QfW}{r:QoM}{k:EN}(e:¬ p.1=k):EH (p::r) k=EH r k:=by simp[EH,e]
theorem nW.length{aO:Db}{gs:B2}(h:nW K CL Z aO gs):aO.length=gs.length:=
 nW.ind (P:=λaO gs=>aO.length=gs.length) rfl (λ_ _ i=>congrArg (· + 1) i) h
theorem eX.length{aO:Cf}{gs:B2}{fp:BY}(h:QvK):aO.length=gs.length:=
 eX.ind (P:=λaO gs _=>aO.length=gs.length) rfl (λ_ _ i=>congrArg (· + 1) i) h
def Og:bootBuiltins "set" = some Qi4:=by decide +kernel
def SR{op a:CmpOp}{f g:Qwa}{i j k:Int}(s:n9 X Qp7 (XI λi j=>.bl (f i j)))(u:n9 X (compareOp a) Qx1)(h1:Qbf)(h2:Qbp)(t:b5 X CL b e3 δ2 QeK δ2)(hm:lastMarks [op,a] [e2,e3]=false) :
  m5 X CL b Qsf δ (f i j&&g j k) δ2/\bG X CL b Qsf δ (.sh (.bl (f i j&&g j k))) δ2:=by
 constructor
 .intro H Z U ts vs Q S q;refine sP (Q6 s u bX bX bX hm) (h1 H Z U ts vs _ S λv1 H1 Z1 d k1 p n=>h2 H1 Z1 U ts vs _ p λv2 H2 Z2 c k2 e m=>?_);rw[n.sc rfl,m.sc rfl];refine#[i,j,rfl,rfl,f i j,rfl,?_];cases hf:f i j with
  | false=>exact ite_ff #[false,rfl,by rw[hf]at q;exact q H2 Z2 QeE Qaf e]
  | true=>
   refine ite_tt (t H2 Z2 U ts vs _ e λv r Z3 h k3 o l=>?_);rw[l.sc rfl];exact#[j,k,rfl,rfl,g j k,rfl,by rw[hf]at q;exact q r Z3 ((d.trans c).trans h) ((k1.trans k2).trans k3) o]
 .intro H Z U ts vs Q S q;refine bU (Q5 s u bX bX bX hm) (h1 H Z U ts vs _ S λv1 H1 Z1 d k1 p n=>h2 H1 Z1 U ts vs _ p λv2 H2 Z2 c k2 e m=>?_);rw[n.sc rfl,m.sc rfl];refine#[i,j,rfl,rfl,f i j,rfl,?_];cases hf:f i j with
  | false=>exact ite_ff (by rw[hf]at q;exact q _ H2 Z2 QeE Qaf (e.push Qcg))
  | true=>
   refine ite_tt (t H2 Z2 U ts vs _ e λv r Z3 h k3 o l=>?_);rw[l.sc rfl];exact#[j,k,rfl,rfl,by rw[hf]at q;exact q _ r Z3 ((d.trans c).trans h) ((k1.trans k2).trans k3) (o.push Qcg)]
def ad4{d:Nat}(h:b5 X CL b e1 δ .non δ1):m5 X CL b QkF δ true δ1/\bG X CL b QkF δ (.sh QaG) δ1:=by
 constructor
 .exactλH Z U ts vs Q S k=>sP (BR (G9 bX)) (h H Z U ts vs _ S λv H1 Z1 a k1 c r=>by
   cases r;exact#[_,rfl,by simpa using k H1 Z1 a k1 c])
 .exactλH Z U ts vs Q S k=>bU (QT (G9 bX)) (h H Z U ts vs _ S λv H1 Z1 a k1 c r=>by
   cases r;exact by simpa using k _ H1 Z1 a k1 (c.push QaG))
noncomputable def k6(ns:AT)(i:Nat)(q:Str):Bool:=decide (q∈ns.take i)
def SV(prog:Q1)(w:World)(a:Addr)(n:Nat)(h:Heap):Prop:=∃S,h.SetOf Qcw a S n
theorem Cq:nU X QmT (λxs H Q=>∃(p:Addr) (n:Nat),xs=[.ref p]/\H p=some (.ext (SV X.prog X.w p n))/\n<=1000/\Q QcL H):=by
 intro pins s U H xs us Q I r h;obtain⟨p,n,rfl,hp,hn,q⟩:=h;obtain⟨u,rfl,a⟩:=vals1 r;cases a;obtain⟨⟨S,o,es,ep,t,e,ex,b,_,_,_,hf,en⟩,_,_⟩:=I.bZ p _ hp;exact call_len_set e ex b hf (by rw[en];lia) #[.int n,H,I.tok _,#[s.toks+1,by rw[en]],q]
def Oh{l:AT}{us:BS}(h:aF K CL Z (l.map D.str) us):us=l.map V.str:=by
 refine aF.ind (P:=λds us=>∀l:AT,ds=l.map D.str->us=l.map V.str) ?_ ?_ h l rfl
 .intro l e;cases l with
  | nil=>rfl
  | cons _ _=>cases e
 .intro d ds v vs r _ a l e;cases l with
  | nil=>cases e
  | cons x l=>
   obtain⟨e1,e2⟩:=i8 e;subst e1;cases r;rw[a l e2];rfl
variable{aO:CO}
theorem ad5(k:Key)(l:Qfc)(h1:QtH)(h2:Qx3)(hm:QhR) :
  bG X CL b Qc1 δ (.sh (.bl (kN aO k).isSome)) δ2:=λH Z U ts vs Q S kk=>
 bU (QT (ads Wc bX bX) hm) (h1 H Z U ts vs _ S λv H1 Z1 d k1 j g=>h2 H1 Z1 U ts vs _ j λv2 H2 Z2 c k2 i f=>by
  cases f with
  | @jq a gs _ h e=>
   refine#[a,jo gs k,rfl,by rw[g.key];exact wk.k h,?_];rw[yx e];exact kk _ H2 Z2 QeE Qaf QwO)
section
variable{ds:BC}{D:cM}
def SW(h:δ[i]? = some QaJ)(q:t.dJ=d)(k:cK X CL b dm (δ.set i Qca) D):cK X CL b dm δ D:=λH Z U ts vs E S M=>by
 subst q;obtain⟨v,Z',_,z,a⟩:=S.K0 h;exact k H Z' U ts vs E a.pop (M.mono z)
def SX:n9 X Qeo (λx y H Q=>∃a b ys,x=.ref a/\y=.ref b/\lS X.K H a []/\lS X.K H b ys/\Q Qgl H):=by
 intro pins s U H x y v u Q I k j h;obtain⟨a,b,ys,rfl,rfl,o,hb,q⟩:=h;cases k;cases j;obtain⟨its,l,m,_⟩:=I.tuple o;obtain⟨i,t,p2,_⟩:=I.tuple hb;have e1:=l.w4.2 rfl;subst e1;obtain⟨⟨cls,dd,data,sl⟩,d,e,n,hd⟩:=id m;obtain⟨⟨p,c,data2,r⟩,g,f,n2,hd2⟩:=id p2;simp only at e hd f hd2;subst e hd f hd2;exact concat_meets #[_,d,rfl] #[_,g,rfl] noFill_tuple_add seq_tuple_add HU Iy (ID _ _)
   (tuple_addW0 a b #[] i.toArray n n2 dd c sl r rfl) #[d,g,.ref b,H,I,rfl,q]
def SY(h1:Qhp)(h2:QkQ)(n2:Qpi)(hz:QgW) :
  bG X CL b Qc4 δ (.sh Qnv) δ2:=by
 cases ds with
 | cons d ds=>exact Sv h1 h2 Qch n2 hz
 | nil=>
   intro H Z U ts vs Q S k;exact bU (A3 SX bX bX) (h1 H Z U ts vs _ S λv1 H1 Z1 g k1 j=>h2 H1 Z1 U _ _ _ j λv2 H2 Z2 f k2 a=>by
    have e:=a.yz;have h:=a.pop.yz;obtain⟨_,_,rfl,l,m⟩:=h.rN;cases m;have c:=e;obtain⟨_,_,rfl,i,n⟩:=e.rN;exact#[_,_,_,rfl,rfl,aA.KZ a.zh l,aA.KZ a.zh i,k _ _ Z2 Qjs Qaf (a.pop.pop.push c)])
end
end L3
namespace L2
open PySem PySem.Spec PyProof.Rows
noncomputable abbrev ny:B0:=[.type "ValueError",.type "Exception",.type "BaseException",.type "object"]
def qg(fr:Cn)(h h':Heap):Prop:=∀b∈nR fr,∀o,h.get? b=some o->∃sl,h'.get? b=some {o with slots:=sl}
def iG(B:Heap)(l:Cn)(e C:Addr)(d:Bi)(fl:Dx)(h:Heap):Prop:=
 B.StaysIn h/\B.get? e=none/\h.FunFrames B l/\∃a vs,h.get? e=some a/\(a.cls=.ref C/\a.dict=d)/\a.data=.fields vs/\match fl with
  | none=>vs[1]? = some .none
  | some f=>∃T b ts,vs[1]? = some (.ref T)/\B.get? T=none/\T≠e/\h.get? T=some b/\b.data=.fields ts/\ts[3]? = some f
structure Lay(P:Q1)(w:World)(l:Cn)(H:Hp)(h0:Heap)(H':Hp)(B h:Heap):Prop where
 bZ:oz P w H' B
 keep:∀b o,h0.get? b=some o->H b=none->b∉nR l->B.get? b=some o
 free:∀b o,h0.get? b=some o->H b=none->H' b=none
 there:∀b o,h0.get? b=some o->b∉nR l->∃o',B.get? b=some o'
 n6:∀b xs,H b=some QaV->H' b=some QaV
 dF:∀b o u,H b=some Qdz->H' b=some Qdz
 n8:∀b ps,H b=some (.Xj ps)->∃more,H' b=some Qnc
 fr:qg l h0 h
variable{H:Hp}{B h:Heap}
theorem Lay.un{P:Q1}{w:World}{l:Cn}{h0:Heap}{H':Hp}{h2:Heap}(y:Qmb)(st:B.StaysIn h2)(fr:qg l h0 h2):Un (nR l) [] H H' h0 h2:=
 #[λb o z n m _=>st b o (y.keep b o z n m),λb o z _ m _=>fr b m o z,λb o z n _=>y.free b o z n,λb o z _=>by
  by_cases m:b∈nR l
  .obtain⟨sl,w⟩:=fr b m o z;exact#[_,w]
  .obtain⟨o',w⟩:=y.there b o z m;exact#[o',st b o' w],y.n6,y.dF,y.n8]
def EI(P:Q1)(w:World):Nm:=λouter H s E ev s'=>∃(e C:Addr) (d:Bi) (B:Heap) (H':Hp),ev=.ref e/\s'.os=s.os/\AllBare s'.gens/\iG B outer e C d Qoa s'.heap/\Lay P w outer H s.heap H' B s'.heap/\E QS d H'
def XE(X:Cx)(W:XK):Value->Shared->Prop:=λev s'=>∃(e C:Addr) (d:Bi) (pins:At) (U:St) (H H':Hp) (s:Qr) (B:Heap) (fl:Dx),ev=.ref e/\Inv X pins U H s/\W QS d H'/\s'.os=s.os/\AllBare s'.gens ∧
 Lay X.prog X.w X.stack H s.heap H' B s'.heap/\iG B X.stack e C d fl s'.heap
theorem qg.up{fr:Cn}{h1 h2 base:Heap}(a:qg fr h h1)(f:h1.FunFrames base fr)(u:h1.UpToSlots h2):qg fr h h2:=λb hb o d=>by
 obtain⟨sl,e⟩:=a b hb o d;obtain⟨_,o',c,hd⟩:=f.mem hb;rw[e]at c;cases c;obtain⟨g,e2⟩:=u b _ e hd;exact#[g,e2]
variable{M:Model}{A:Qat}{E:BB}{s:Qr}{l outer:Cn}{env:Env}{e C L:Addr}{d:Bi}{fl:Dx}{f:Value}{Q:Qgz}
theorem iG.there(x:Qnj):∃a,h.get? e=some a/\a.cls=.ref C/\a.dict=d:=by
 obtain⟨_,_,_,b,_,he,c,_⟩:=x;exact#[b,he,c]
theorem HQ{a:Addr}{o:Obj}{vs:D2}{g:D2->D2}(he:h.get? a=some o)(hd:o.data=.fields vs) :
  (∀b,b≠a->(h.update a QmQ).get? b=h.get? b)/\h.UpToSlots (h.update a QmQ):=by
 have k:∀b,b≠a->(h.update a QmQ).get? b=h.get? b:=λb ne=>Heap.get?_update_other _ _ ne.symm;refine#[k,λb c q nf=>#[ _,(k b λz=>?_).trans q]];simp_all
theorem iG.yE(x:Qlj)(o:Bi)(q:∀h',iG B l e C d Qq4 h'->s.heap.UpToSlots h'->Q () {s with heap:=h'}):wpAny M A (setFlight QaB o) Q E s:=by
 obtain⟨k1,k2,k3,h,vs,he,i,hd,T,m,ts,h1,hn,ne,g,a,j⟩:=x;obtain⟨lt,_⟩:=xn.1 j;refine eM (q2 he hd h1 ?_);obtain⟨k,u⟩:=HQ g a;refine wpAny_setField g a lt (q _ #[λb c z=>(k b λy=>?_).trans (k1 b c z),k2,k3.of_keeps λb c z nf=>?_,h,vs,(k e ne.symm).trans he,i,hd,T,_,_,h1,hn,ne,v8 _ g (Obj.isFreed_of_fields (Obj.data_mapFields a _)),Obj.data_mapFields a _,by simp[lt]] u)
 .lia
 .obtain⟨sl,z⟩:=u b c z nf;exact#[_,z,rfl]
theorem iG.y3{m:QaP}(x:Qlj)(o:Bi)(q:∀h',iG B l e C d Qq4 h'->s.heap.UpToSlots h'->Q () {s with heap:=h'}):wpAny M A (do
   if (← field QaB 1) == .none then unsupported m
   setFlight QaB o) Q E s:=by
 obtain⟨_,_,_,a,vs,he,g,hd,T,c,ts,h1,r⟩:=id x;refine eM (q2 he hd h1 ?_);exact x.yE o q
theorem Kb{g:Obj}{vs:D2}{head:Value}{j:Bool}(l:Qw0)(hf:env.frame=some L)(k1:B.StaysIn s.heap)(k2:B.get? e=none)(k3:s.heap.FunFrames B Qew)(he:s.heap.get? e=some g)(i:g.cls=.ref C/\g.dict=d)(hd:g.data=.fields vs)(lt:1<vs.size)
  (q:∀h',iG B Qew e C d Qyq h'->s.heap.UpToSlots h'->Q () {s with heap:=h'}) :
  wpAny M A (do let a ← frameOf env;let I ← entryPlaceOf L j;let b ← EntryCells.newEntry head a .none QvL .none I;setField QaB 1 b) Q E s:=by
 have nf:∀{b:Addr} {o:Obj},b∈nR Qew->s.heap.get? b=some o->b≠e:=λ{b o} hb z y=>by
  obtain⟨_,p,m,n⟩:=k3.mem hb;simp_all
 refine eM (wpAny_frameOf_fun l k3 hf λh1 h=>eM (wpAny_entryPlaceOf λI hpl=>?_));refine eM (wpAny_newObj_type ?_ (hpl.sizeOk5 _ _ _ _ _));have f:=(h.2.1 e λz=>nf z he rfl).trans he;have st:B.StaysIn h1:=λb o z=>(h.2.1 b λy=>by rw[(k3.mem y).1]at z;cases z).trans (k1 b o z);have c:=gx {cls:=.type "traceback",dict:=none,data:=.fields ([head,.ref L,.none,rawInt L,.none]++(if I.isEmpty then List.replicate 6 Value.none else I)).toArray} f;obtain⟨k,u⟩:=HQ c hd;have neT:=qi (fA f);have dd:=Obj.data_mapFields hd (·.setIfInBounds 1 (Value.ref h1.objs.size));have u0:s.heap.UpToSlots h1:=λb o z _=>h.2.2 b o z;have u1:=u0.trans ((Heap.UpToSlots.of_keeps λb o z=>gx _ z).trans u);refine wpAny_setField c hd lt (q _ #[λb o z=>(k b λy=>?_).trans (gx _ (st b o z)),k2,k3.of_keeps λb o z n=>?_,_,_,v8 _ c (Obj.isFreed_of_fields dd),#[(Obj.cls_mapFields _ _).trans i.1,?_],dd,_,_,_,by simp[lt],st.fresh,neT,(k _ neT).trans (hX h1 rfl),rfl,?_] u1)
 .lia
 .obtain⟨sl,z⟩:=u1 b o z n;exact#[_,z,rfl]
 .rw[<- i.2];unfold Obj.mapFields;split<;>rfl
 rfl
theorem iG.note{a:Env}(x:iG B Qew e C d fl s.heap)(l:Qw0)(hf:env.frame=some L)(c:a.frame=env.frame)(q:∀h',iG B Qew e C d Qyq h'->s.heap.UpToSlots h'->Q () {s with heap:=h'}) :
  wpAny M A (noteFrame QaB a) Q E s:=by
 have m:noteFrame QaB a=noteFrame QaB env:=by unfold noteFrame PySem.frameOf;rw[c]
 rw[m];obtain⟨k1,k2,k3,p,vs,he,i,hd,r⟩:=id x;unfold noteFrame;simp only[hf];cases fl with
 | none=>
  refine eM (q2 he hd r ?_);exact Kb l hf k1 k2 k3 he i hd (xn.1 r).1 q
 | some f=>
  obtain⟨T,t,ts,h1,hn,ne,g,h,j⟩:=r;refine eM (q2 he hd h1 ?_);refine eM (q2 g h j ?_);by_cases w:(f==rawInt L)=true
  .rw[dU w];refine gL (q _ ?_ QA);simp_all
  .rw[cq w];obtain⟨k,u⟩:=HQ g h;refine eM (wpAny_setField g h (xn.1 j).1 ?_);refine Kb l hf (λb o z=>(k b λy=>?_).trans (k1 b o z)) k2 (k3.of_keeps λb o z n=>?_) ((k e ne.symm).trans he) i hd (xn.1 h1).1 λh2 f2 u2=>q h2 f2 (u.trans u2)
   .lia
   .obtain⟨sl,z⟩:=u b o z n;simp_all
section
variable{X:Cx}{pins:At}{U:St}
theorem Inv.ad7(I:QF):oz X.prog X.w H Qhv:=λa o e=>by
 refine(I.bZ a o e).rL (λb u hb q=>og _ q λhm=>?_) (λb q=>q) (λb xs q=>q);have hn:=I.sG b hm;simp_all
theorem Inv.ad8(I:QF):s.heap.FunFrames Qhv X.stack:=funFrames_hide I.stack λenv he a b=>q8.2 #[env,he,b]
theorem Lay.up{P:Q1}{w:World}{H':Hp}{h0 h':Heap}(y:Qmb)(f:Qnj)(u:h.UpToSlots h'):Lay P w l H h0 H' B h':=#[y.bZ,y.keep,y.free,y.there,y.n6,y.dF,y.n8,y.fr.up f.2.2.1 u]
theorem ad9{W:XK}{ev:Value}{s':Qr}{y:BB}(c:QbN)(D:QbM)(hex:X.ex=[])(f:X.fs=nR X.outer)(h:XE X W ev s') :
  wpAny Qy X.A (leaving X.env ev) (λ_ t=>EI X.prog X.w X.outer X.j2 X.ff W ev t) y s':=by
 obtain⟨e,C,d,pins,U,H,H',s,B,fl,rfl,I,hw,p,r,hm,g⟩:=h;have x:X.A.frames=some QiF:=by rw[I.ok.frames,c]
 have f0:=g;rw[c]at g;refine eM (g.note x D rfl λh1 f1 u1=>f1.yE _ λh2 f2 u2=>?_);have a:=hm.up f0 (u1.trans u2);have nx:∀{b:Addr},b∉X.ex:=λ{b} z=>by grind
 have low:∀{b:Addr} {o:Obj},X.ff.heap.get? b=some o->b∉nR X.outer->b∉nR _:=λ{b o} z n m=>by
  obtain w|w:=ew.1 (I.xX b m)
  .have h1:=fA z;have h2:=I.ok.above;rw[<- w]at h2;exact absurd h1 (Nat.not_lt.2 h2)
  simp_all
 refine#[e,C,d,B,H',rfl,p.trans I.os,r,#[f2.1,f2.2.1,f2.2.2.1.2.2,f2.2.2.2],#[a.bZ,λb o z n m=>a.keep b o (I.base.keep b o z n (f▸m) nx) QtJ (low z m),λb o z n=>?_,λb o z m=>?_,λb xs z=>a.n6 b xs (I.base.n6 b xs z),λb o u z=>a.dF b o u (I.base.dF b o u z),λb ps z=>?_,λb hb o l=>?_],hw]
 .obtain⟨o',w⟩:=I.base.there b o z nx;exact a.free b o' w QtJ
 .obtain⟨o',w⟩:=I.base.there b o z nx;exact a.there b o' w (low z m)
 .obtain⟨k,e1⟩:=I.base.n8 b ps z;obtain⟨j,e2⟩:=a.n8 b _ e1;exact#[k++j,by simp_all ]
 .obtain⟨sl,q⟩:=I.base.slot b o l (I.ok.Xk b ‹_›) ‹_› nx;obtain⟨v,i⟩:=a.fr b (by simp_all [c,nR,hb]) _ q;exact#[v,i]
def Lf{W:XK}(a:QbN)(i:QbM):PassesOwn Qy X.A X.env Qfk:=λev s' h=>by
 obtain⟨e,C,d,pins,U,H,H',s,B,fl,rfl,I,hw,c,f,hm,b⟩:=h;have g:X.A.frames=some QiF:=by rw[I.ok.frames,a]
 have f0:=b;rw[a]at b;refine b.note g i rfl λh1 f1 u1=>?_;refine iG.y3 f1 _ λh2 f2 u2=>?_;rw[<- a]at f2;exact#[e,C,d,pins,U,H,H',s,B,_,rfl,I,hw,c,f,hm.up f0 (u1.trans u2),f2]
structure nA(K:Frag)(C:Addr):Prop where
 ex:∃nm q N bs bm hdct sn sub ab col dd k0 k1 k2 k3 k5,K.lookup C=some Qd0/\nsOkIn K N=true/\nsIn K N "__init__" = some none/\tailIn K ny bm=true
theorem Zp{h':Heap}(I:QF)(hm:Heap.MadeExcOf s.heap h' e QS []):Lay X.prog X.w X.stack H s.heap H Qhv h'/\iG Qhv X.stack e C none none h':=by
 obtain⟨t,he,a,d⟩:=hm.there;refine#[#[I.ad7,λb o z _ m=>og _ z m,λb o _ n=>n,λb o z m=>#[o,og _ z m],λb xs z=>z,λb o u z=>z,λb ps z=>#[#[],‹_› ],λb _ o q=>#[ _,hm.keeps _ _ q]],λb o q=>hm.keeps b o (n7 _ q),?_,I.ad8.of_keeps λb o q _=>#[o,hm.keeps b o q,rfl],_,_,he,W2,rfl,rfl];cases c:(hideAll _ _).get? e with
 | none=>rfl
 | some o'=>have:=n7 _ c;rw[hm.new]at this;cases this
def Oi{W:XK}{x:Str}{np j3 pos:Pos}{D:Ends}(j:QaL)(i:Qad)(hm:QnJ)(O:nA X.K C)(hw:W QS none H)(hd:AD x:=by decide) :
  L3.RA QP (.Raise (some (.Call (.Name x np) [] [] j3)) none pos) D U H:=λpins s I=>by
 have J:=I.dN;obtain⟨nm,q,N,bs,bm,hdct,sn,sub,ab,col,dd,k0,k1,k2,k3,k5,g,c,f,d⟩:=O.ex;have tl:=tail_of_in J.nS d;refine wpAny_Raise_call_subT (nm:=nm) (q:=q) (N:=N) (bs:=bs) (k0:=k0) (k1:=k1) (k2:=k2) (k3:=k3) (k5:=k5) (dd:=dd) (col:=col) (ab:=ab) (sub:=sub) (sn:=sn) (hdct:=hdct) zr (tl.hasType rfl) (J.ok.hd j) rfl (PySem.W.nsMap_none_of_in J.nS c f) (iB I i hm #[rfl,?_] hd);refine evalArgs_empty #[rfl,W2,J.nS _ _ g,.of_isNs (isNs_of_in J.nS c),tl,λh' e h=>?_];obtain⟨a,b⟩:=Zp J h;exact#[e,C,_,pins,U,H,H,s,_,_,rfl,J,hw,rfl,J.bare,a,b]
structure Lies(X:Cx)(pins:At)(U:St)(H:Hp)(s:Qr)(H':Hp)(e C:Addr)(d:Bi)(B:Heap)(s':Qr):Prop where
 inv:Inv X pins U H s
 os:s'.os=s.os
 bare:AllBare s'.gens
 pj:iG B X.stack e C d Qoa s'.heap
 lay:Lay X.prog X.w X.stack H s.heap H' B s'.heap
variable{H':Hp}{s':Qr}
theorem Lies.now(L:Qhu):Inv X pins U H' s':=L.inv.Me L.os (L.lay.un L.pj.1 L.lay.fr) (L.lay.bZ.kept L.pj.1) L.bare λb z=>absurd z fo
theorem Lies.move(L:Qhu){h':Heap}{t':Nat}(hf:iG B X.stack e C d Qoa h')(u:s'.heap.UpToSlots h'):Lies X pins U H s H' e C d B {s' with heap:=h',toks:=t'}:=
 #[L.inv,L.os,L.bare,hf,L.lay.up L.pj u]
abbrev Cx.hand(X:Cx)(e:Addr):Cx:={X with A:=X.A.mark (some QaB),calm:=false}
theorem Inv.hand(I:QF)(e:Addr):Inv QoN pins U H s:=
 #[#[I.ok.mod,I.ok.kind,I.ok.glob,I.ok.blt,I.ok.above,I.ok.inj,I.ok.has,I.ok.nV,W2,I.ok.frames,I.ok.o9,I.ok.vk,I.ok.bs,I.ok.QO,I.ok.G8,I.ok.M5,I.ok.sF,I.ok.Xk],I.os,I.bare,I.base,I.loc,I.cell,I.free,I.kT,I.pin,I.bZ,I.len]
theorem Inv.Cr(ok:X.Ok)(I:Inv QoN pins U H s):Inv X pins U H s:=#[ok,I.os,I.bare,I.base,I.loc,I.cell,I.free,I.kT,I.pin,I.bZ,I.len]
abbrev _root_.EM:=List ExceptHandler
def SU{Q:Qh9}{h:EM}(f:QbN)(n:QbM)(L:Qhu)
  (k:∀s3,Lies X pins U H s H' e C d B s3->wpAny Qy X.A Qtj Q E s3) :
  wpAny Qy X.A (noteFrame QaB X.env) (λ_ b=>wpAny Qy X.A (setFlight QaB none) (λ_ a=>wpAny Qy X.A Qtj Q E a) E b) E s':=by
 have m:X.A.frames=some QiF:=by rw[L.inv.ok.frames,f]
 have i:=L.pj;rw[f]at i;refine i.note m n rfl λp g l=>iG.yE g _ λo c j=>k _ ?_;rw[<- f]at c;exact L.move c (l.trans j)
def NA{Q:Qh9}{x:Str}{Dd:Addr}{np pos:Pos}{b₀:Stmt}{suite:CI}{rest:EM}{m:Bool}(L:Qhu)(h:Qad)(hm:X.mg x=some QeL)
  (g:exmOne X.K QS QeL=some m)
  (k:if m then ∀s4,Lies X pins U H s H' e C d B s4->wpAny Qy (X.hand e).A (execs (b₀::suite) X.env) Q Qmu s4 else ∀s4,Lies X pins U H s H' e C d B s4->wpAny Qy X.A (handleBy QaB X.env rest) Q E s4)
  (hd:AD x:=by decide) :
  wpAny Qy X.A (handleBy QaB X.env Qkr) Q E s':=by
 have I:=L.now;obtain⟨i,b,a,_⟩:=L.pj.there;have LT:PySem.W.Looks Qy s'.heap (typeOf QaB) QS:=a▸(PySem.W.Looks.ld b).andThen .now;refine wpAny_handleBy_cons (codeAny_handlers_test (iB (I.hand e) h hm ?_ hd)) (λq=>by cases q);apply(PySem.W.exm_one I.nS LT g).here;cases m with
 | false=>exact k s' L
 | true=>
  refine codeAny_handlers_suite (L.pj.yE _ λj c f=>?_);exact hJ (k _ (L.move c f)) (λ_ _ z=>z) W2
end
variable{X:Cx}
abbrev Cx.pinned(X:Cx)(p:At):Cx:={X with pn:=X.pn++p}
theorem Cx.Ok.pinned(ok:X.Ok)(p:At):(X.pinned p).Ok:=#[ok.mod,ok.kind,ok.glob,ok.blt,ok.above,ok.inj,ok.has,ok.nV,ok.hd,ok.frames,ok.o9,ok.vk,ok.bs,ok.QO,ok.G8,ok.M5,ok.sF,ok.Xk]
theorem Inv.Zl{pins:At}{U:St}(I:QF):Inv Qw1 [] U H s:=
 #[I.ok.pinned pins,I.os,I.bare,I.base,I.loc,I.cell,I.free,I.kT,(λp hp=>I.pin p (by rw[ft]at hp;exact hp)),I.bZ,I.len]
theorem Inv.aea{pins p2:At}{U:St}(ok:X.Ok)(I:Inv Qw1 p2 U H s):Inv X pins U H s:=
 #[ok,I.os,I.bare,I.base,I.loc,I.cell,I.free,I.kT,(λp hp=>I.pin p (hj _ hp)),I.bZ,I.len]
end L2
namespace L3
open PySem PySem.Spec PyProof.Rows L2
abbrev Ex:=Str×Option CA
abbrev HR(c:Str):Ex:=(c,none)
def rk(Z:Hp)(d:Bi):Option CA->Prop
 | none=>d=none
 | some fs=>∃dx,d=some dx/\Z dx=some (.xd fs)
variable{H:Hp}
theorem rk.iV{Z Z':Hp}{d:Bi}{p:Qkb}(h:rk Z d p)(zh:Qfe)(tp:∀a o,H a=some o->iQ o=true->Z' a=some o):rk Z' d p:=by
 cases p with
 | none=>exact h
 | some fs=>
  obtain⟨dx,e,q⟩:=h;exact#[dx,e,tp _ _ (zh _ _ q) rfl]
def eW(b:Bx)(E:XK)(C:Addr)(p:Qkb:=none):Prop:=∀(H' Z':Hp) (d:Bi),aA b.B H'->aA b.Z Z'->aA Z' H'->(∀a o,Z' a=some o->b.Z a=none->b.B a=none)->(∀a o,H' a=some o->iQ o=true->Z' a=some o)->rk Z' d p->E QS d H'
variable{A:Type}
def m2(K:Frag)(CL:BM)(n:Nat)(arg:Qae)(Pre:Q4)(exc:Qa1):Sp:=λvs H _ E=>
 ∃(W:Hp) (a:A),aA W H/\(∀c o,H c=some o->iQ o=true->W c=some o)/\aF K CL W Qdm vs/\(arg a).length=n/\Pre a/\j4 CL W/\eW #[H,W] E Qc9 (exc a).2
section
variable{X:Cx}{CL:BM}{b:Bx}{δ δ1 δ2:Ap}{e:Expr}{es:CC}{dm:CI}{D:cM}{x c:Str}{cx:Ex}{i:Nat}{pos pp:Pos}{W:XK}
def Ct{np j3:Pos}(d:QaL)(a:Gl X c)(hm:X.mg c=some Qdn)(O:nA X.K (CL c))(e:eW b W (CL c))(hd:AD c:=by decide) :
  cK QP CL b (.Raise (some (.Call (.Name c np) [] [] j3)) none pos::dm) δ D:=bI λH Z U ts vs E S M=>
 Oi d a hm O (e H Z none S.bh S.zz S.zh S.new S.tp rfl) hd
structure u3(X:Cx)(CL:BM)(x:Str)(k n:Nat){A:Type}(arg:Qae)(Pre:Q4)(exc:Qa1):Prop where
 ex:∃f fd ps,e9 X.prog X.w X.K X.mg X.base Qdj k f fd ps QhL/\X.mg x=some Qar/\keepIn X.K Qar=true/\Binds X.K fd ps []
 room:dX k X.A
def Cu(X:Cx)(CL:BM)(b:Bx)(Z:Hp)(δ1:Ap)(ts:Bz)(vs:BS)(C:Addr)(p:Qkb)(ev:Value)(s':Qr):Prop:=
 ∃(e:Addr) (d:Bi) (B:Heap) (pins:At) (U:L2.St) (H:Hp) (s:Qr) (H' Z':Hp),ev=.ref e/\Lies X pins U H s H' e C d B s'/\aA Z Z'/\bP X.K CL b H' Z' δ1 U ts vs/\rk Z' d p
def t5(X:Cx)(CL:BM)(b:Bx)(e:Expr)(δ:Ap)(c:Ex)(δ1:Ap):Prop:=
 ∀(H Z:Hp) (U:L2.St) (ts:Bz) (vs:BS),bP X.K CL b H Z δ U ts vs->Ag QqZ e U H λ_ _=>False
def NU(X:Cx)(CL:BM)(b:Bx)(st:CI)(δ:Ap)(c:Ex)(δ1:Ap):Prop:=
 ∀(H Z:Hp) (U:L2.St) (ts:Bz) (vs:BS) (D:Ends),bP X.K CL b H Z δ U ts vs->Yi QqZ st D U H
def Oj{U:L2.St}{Q:EO}{E:BB}(a:Qg0)(h:Ah X es U H Q):Ah QeT es U H Q:=λpos pins s I=>
 hJ (h pos pins s I.dN) (λus s' ⟨vs,H',b,r,q⟩=>#[vs,H',b.et E,r,q]) λev s' z=>by rw[a]at z;exact z.elim
theorem bP.grown{K:Frag}{H' Z W W':Hp}{U:L2.St}{ts:Bz}{vs:BS}(S:QaQ)(e:QbY)(c:aA Z W)(ww:aA W W')(d:aA W' H')(new:∀a o,W' a=some o->W a=none->H a=none)
  (tp:∀a o,H' a=some o->iQ o=true->W' a=some o):∃Z',aA Z Z'/\bP K CL b H' Z' δ U ts vs:=by
 obtain⟨Z',z,g⟩:=S.back e c ww d new tp QeJ mx (λa f=>by cases f) Qam;exact#[Z',z,g.pop]
theorem Y3{k n:Nat}{arg:Qae}{Pre:Q4}{exc:Qa1}{f:Addr}{fd:QaK}{ps:AT}{ds:BC}{dv:B0}{i:BS}(a:A)(T:Qg0)(z:e9 X.prog X.w X.K X.mg X.base Qdj k f fd ps QhL)(G:QcT)(hm:Qe7)(V:Qe8)(hb:Binds X.K fd ps dv)(L:Vals i dv)(hd:∀H ws,aF X.K CL H ds ws->aF X.K CL H Qdm (ws++i))(Y:Qad)(h:GZ X CL b Qan δ ds δ1)(hp:Pre a)(hn:Qb0)(R:AD x)(he:Qaz)(hpl:QaY) :
  t5 X CL b Qbn δ (exc a) δ1:=λH Z U ts vs S pins s I=>by
 have hA:Ah X Qan U H λus H1=>∃Z1,aA Z Z1/\bP X.K CL b H1 Z1 δ1 U ts vs/\aF X.K CL H1 ds us:=h H Z U ts vs _ S λus H1 Z1 l k1 g r=>#[Z1,l,g,r];refine oD (iB I Y hm ?_ R);refine w7 (h₀:=X.base) I.ok.mod.pf V (cS (Oj T hA pos pins s I) λus s1 zz=>?_) he hpl;obtain⟨ws,H1,j,r,Z1,l,g,J⟩:=zz;refine#[j.nS,?_];have y:m2 X.K CL n arg Pre exc (ws++i) H1 Qmu (λcv d H'=>cv=.ref Qc9/\∃Z',aA Z Z'/\bP X.K CL b H' Z' δ1 U ts vs/\rk Z' d (exc a).2):=#[H1,a,.refl _,λ_ _ q _=>q,hd _ _ J,hn,hp,g.NF,λH' Z' d W ww m nw tp pp=>#[rfl,by
  obtain⟨Z2,D,t⟩:=g.grown W g.zh ww m nw tp;exact#[Z2,l.trans D,t,pp.iV m t.tp]]]
 have o:Vals (ws++i) (us++dv):=r.append L;have p:=z.len _ _ _ _ y;rw[o.length]at p;refine wpAny_call (oI (z.run X.A X.stack s1 H1 #[us,[]] _ _ _ _ G j.dN.XS (hb s1 us j.nS p) o y) λF s' c=>?_);cases F with
 | error ev=>
  obtain⟨e1,C,d,B,H',rfl,P,O,N,M,hC,Z',E,S'⟩:=c;cases hC;exact#[e1,d,B,pins,U,H1,s1,H',Z',rfl,#[j.dN,P,O,N,M],E,S']
 | ok fl=>
  cases fl with
  | ret u=>
   obtain⟨v,H',_,_,_,_,_,q⟩:=c;exact q.elim
  | next=>exact False.elim c
  | brk=>exact False.elim c
  | cont=>exact False.elim c
def aec{k n:Nat}{arg:Qae}{Pre:Q4}{exc:Qa1}(a:A)(d:Qg0)(F:QtT)(i:Qad)(h:QgR)(hp:Pre a)(hn:Qb0:=by rfl)
  (c:AD x:=by decide) (he:Qaz:=by exact aZ rfl) (hpl:QaY:=by rfl) :
  t5 X CL b Qbn δ (exc a) δ1:=by
 obtain⟨f,fd,ps,j,hm,g,hb⟩:=F.ex;exact Y3 a d j F.room hm g hb .nil (λ_ ws r=>by rw[ft];exact r) i h hp hn c he hpl
theorem t5.any{Z:Hp}{U:L2.St}{ts:Bz}{vs:BS}{Q:VK}(h:Qve)(S:Qlw):Ag (X.et Qrl) e U H Q:=λpins s I=>
 hJ (h H Z U ts vs S pins s I) (λ_ _ ⟨_,_,_,_,q⟩=>q.elim) λ_ _ z=>z
def Y2{pos':Pos}(nd:Qbd)(n:Qa0)(h:Qve)(a:Qcn:=by rfl):NU X CL b Qfs δ cx δ1:=λH Z U ts vs D S=>
 RC (xZ yY RB) (mZ (Hg (X:=X.et Qrl) nd n.hi n.loc bX a n.hf) (h.any S))
theorem Vn.pin{p:At}(h:QaZ):Vn QcD i x:=#[h.hi,h.hv,h.hd,h.iA]
theorem u3.pin{p:At}{k n:Nat}{arg:Qae}{Pre:Q4}{exc:Qa1}(F:QtT):u3 QcD CL x k n arg Pre exc:=#[F.ex,F.room]
inductive Ol(X:Cx)(CL:BM)(c:Str):EM->CI->Prop
 | hit {x:Str} {Dd:Addr} {np pos:Pos} {b₀:Stmt} {suite:CI} {rest:EM}:Gl X x->X.mg x=some QeL->exmOne X.K Qdn QeL=some true->QhY=false->Ol X CL c Qkr (b₀::suite)
 | miss {x:Str} {Dd:Addr} {np pos:Pos} {b₀:Stmt} {suite st:CI} {rest:EM}:Gl X x->X.mg x=some QeL->exmOne X.K Qdn QeL=some false->QhY=false->Ol X CL c rest st->Ol X CL c Qkr st
theorem Ol.run{Q:Qh9}{E:BB}{f:EM}{st:CI}{pins p:At}{U:L2.St}{H':Hp}{s s':Qr}{e:Addr}{d:Bi}{B:Heap}(h:Ol X CL c f st)(L:Lies QcD pins U H s H' e (CL c) d B s')
  (k:∀s4,Lies QcD pins U H s H' e (CL c) d B s4->wpAny Qy (X.hand e).A Qnd Q Qmu s4):wpAny Qy X.A (handleBy QaB X.env f) Q E s':=by
 induction h generalizing s' with
 | hit h1 h2 b a=>exact NA (X:=X.pinned p) L h1 h2 b k a
 | miss h1 h2 b a _ g=>exact NA (X:=X.pinned p) L h1 h2 b (λs4 i=>g i k) a
theorem aed{body:CI}{h0:ExceptHandler}{i:EM}{st:CI}{c:Ex}(m:QbN)(x:QbM)(n:Qg0)(r:∀p,NU QcD CL b body δ c δ1)(o:Ol X CL c.1 (h0::i) st)
  (k:∀e,cK QoN CL b st δ1 {D with nx:=λδ2=>cK X CL b dm δ2 D}):cK X CL b (.Try body (h0::i) [] [] pos::dm) δ D:=bI λH Z U ts vs E S M pins s I=>by
 refine wpAny_Try_except (hJ (r pins H Z U ts vs {nx:=λ_ _=>False,rt:=λ_ _=>False} S [] s (I.Zl.et _)) (λf s1 z=>?_) λev s1 z=>?_)
 .cases f with
  | next=>obtain⟨_,_,_,q⟩:=z;exact q.elim
  | brk=>obtain⟨_,_,_,q⟩:=z;exact q.elim
  | cont=>obtain⟨_,_,_,q⟩:=z;exact q.elim
  | ret u=>obtain⟨_,_,_,_,_,q⟩:=z;exact q.elim
 .obtain⟨e,d,B,y,U',H1,s0,H',Z',rfl,L,j,t,_⟩:=z;refine SU (X:=X.pinned pins) m x L λs3 L3=>o.run L3 λs4 w=>?_;have J:=(w.now.aea I.ok).hand e;refine hJ (k e H' Z' U' ts vs E t (M.mono j) pins s4 J) (λf s5 z=>?_) λ_ _ z=>by grind
  cases f with
  | next=>obtain⟨a,h,g,q⟩:=z;exact#[a,h,g.Cr I.ok,q]
  | brk=>obtain⟨a,h,g,q⟩:=z;exact#[a,h,g.Cr I.ok,q]
  | cont=>obtain⟨a,h,g,q⟩:=z;exact#[a,h,g.Cr I.ok,q]
  | ret u=>obtain⟨v,a,h,g,l,q⟩:=z;exact#[v,a,h,g.Cr I.ok,l,q]
theorem aef{body:CI}{h0:ExceptHandler}{c:EM}(a:Qg0)(h:cK X CL b body δ {D with nx:=λδ2=>cK X CL b dm δ2 D}):cK X CL b (.Try body (h0::c) [] [] pos::dm) δ D:=bI λH Z U ts vs E S M pins s I=>by
 refine wpAny_Try_except (hJ (h H Z U ts vs E S M pins s I) (λf s1 z=>?_) λev s1 z=>by rw[a]at z;exact z.elim);cases f with
 | next=>exact wpAny_execs_nil z
 | brk=>exact z
 | cont=>exact z
 | ret u=>exact z
end
end L3
namespace L2
open PySem PySem.Spec PyProof.Rows
structure yF(K:Frag)(D:Addr):Prop where
 ga:findIn K QeU "__getattribute__" = some (some (.builtin "BaseException.__getattribute__"))
 gn:findIn K QeU "__getattr__" = some none
 hd:hasDictIn K D=true
 fi:findIn K QeU "__class__" = some (some Qk5)
 sp:PySem.W.specialIn K Qk5 "__get__" = some (some (.builtin "getset_descriptor.__get__"))
 tk:PySem.W.takesIn K Qk5=some true
 mr:PySem.W.mroIn K D QiA=some true
 mb:PySem.W.mroIn K D QlE=some true
section
variable{w:World}{s:Qr}{K:Frag}{x D:Addr}{dE:Bi}
theorem yF.there(O:yF K D):∃c d cd sl,K.lookup D=some #[c,d,.cls cd,sl]:=by
 obtain⟨cd,q,_⟩:=PySem.W.any_some O.hd;unfold clsIn at q;split at q
 .rename_i c d a sl e;exact#[c,d,a,sl,e]
 .cases q
theorem fJ.got{P:Q1}{H:Hp}{h:Heap}{a:Addr}{o:HO}(x:QnX):∃u,h.get? a=some u:=by
 cases o with
 | lst xs=>obtain⟨_,_,_,_,z⟩:=x;exact#[_,z]
 | tup xs=>obtain⟨_,_,_,_,z,_⟩:=x;grind
 | dK aO=>obtain⟨_,_,_,_,_,_,_,z,_⟩:=x;grind
 | dT aO=>obtain⟨_,_,_,_,_,_,_,z,_⟩:=x;grind
 | set S n=>obtain⟨_,_,_,_,z,_⟩:=x;grind
 | ins C dx fs=>obtain⟨_,_,_,z,_⟩:=x;exact#[_,z]
 | own y=>exact x
 | xd fs=>obtain⟨_,⟨_,_,_,z,_⟩,_⟩:=x;grind
 | m4 lo hi=>obtain⟨_,_,_,z⟩:=x;exact#[_,z]
 | dJ b u=>exact#[_,x.1]
 | Xj ps=>exact#[_,x]
 | tabs q=>obtain⟨_,z,_⟩:=x;simp_all
 | cod q=>obtain⟨_,_,_,z,_⟩:=x;exact#[_,z]
 | met f y=>exact#[_,x]
 | ext φ=>exact x.2.1
end
theorem aA.off{H H':Hp}{a:Addr}(h:QbY)(n:H' a=none):H a=none:=by
 cases q:H a with
 | none=>rfl
 | some o=>rw[h a o q]at n;cases n
end L2
namespace L3
open PySem PySem.Spec PyProof.Rows L2
section
variable{X:Cx}{CL:BM}{b:Bx}{δ δ1:Ap}{e:Expr}{dm:CI}{D:cM}{x c:Str}{i:Nat}{pos:Pos}
theorem EJ{H:Hp}{a:Addr}{o:HO}(h:H a=none):aA H Qa4:=λc u q=>by
 rw[show upd H a o c=H c from cq Wc];exact q
def S8{H H':Hp}{a:Addr}{o:HO}(h:QbY):aA Qa4 (upd H' a o):=λc u q=>by
 by_cases z:c=a
 .rw[show upd H' a o c=some o from dU z];rw[show upd H a o c=some o from dU z]at q;exact q
 .rw[show upd H' a o c=H' c from cq z];rw[show upd H a o c=H c from cq z]at q;exact h c u q
theorem Ln.hand{a:Addr}(h:Qa0):Ln (X.hand a) i x:=#[#[h.hi,h.hv,h.hd,h.iA],h.loc,h.hf]
def aeg{t:T}{pos':Pos}(nd:Qbd)(n:Qa0)(h:Qaw)(k:Qsd)(c:QbH:=by exact eL rfl)(a:Qcn:=by rfl) :
  cK X CL b Qfs δ D:=bI (RM i h k c nd n.hi n.loc a n.hf)
end
variable{prog:Q1}{w:World}{A:Qat}{E:BB}{s:Qr}
def cD(ns:AT):Nat->Nat
 | 0=>0
 | i+1=>cD ns i+Qkw
theorem Lg(ns:AT):∀i,cD ns i<=i
 | 0=>eA _
 | i+1=>by have:=Lg ns i;unfold cD;split<;>lia
variable{a:Addr}{ns:AT}
theorem Om{R:Qh1}{I:Addr}{items:D2}(V:A.in1.handled=none)(X:a≠I){S:Addr}(l:S≠I)(H:S≠a)(hn:QvM)(hb:Qw2)
  (hv:∀(i:Nat) (v:Value),items[i]? = some v->∃x t,ns[i]? = some x/\v=Value.str x t) :
  ∀(k i:Nat) (h:Heap) (tk:Nat),i+k=ns.length->h.IsListIter I a i->h.IsList a items->h.SetOf Qcw S (k6 ns i) (cD ns i) →
   (∀h' c,(∀b o,b≠S->b≠I->h.get? b=some o->h'.get? b=some o)->h'.SetOf Qcw S QmX Qdc->R Qvf {s with heap:=h',toks:=c}) →
   codeAny Qaa A (.builtin "set.update.loop" #[[.ref S,.ref I],[]]) R {s with heap:=h,toks:=tk}:=by
 have W:=Walks.list (prog:=prog) (w:=w) (A:=A.in1) V I a X items;have p:∀{h h':Heap} {f:Qkc} {n:Nat},(∀b o,b∉[I]->h.get? b=some o->h'.get? b=some o)->h.SetOf Qcw S f n->h'.SetOf Qcw S f n:=λg ⟨o,es,ep,t,U,r⟩=>#[o,es,ep,t,g S o (by simp[l]) U,r];intro k
 induction k with
 | zero=>
  intro i h tk hi hit D u J;have K:i=items.size:=by lia
  refine codeAny_builtin F.entry_set_update_loop ?_;rw[Around.under_plainId zv _];refine eM (m:=pyNext (.ref I)) (W.done {s with heap:=h,toks:=tk} _ _ #[K▸hit,D] λh' c g=>?_);refine gL (J h' c (λb o _ b2 e=>g b o (by simp[b2]) e) (p g ?_));rw[<- hn,<- K];rw[K]at u ⊢;exact u
 | succ k O=>
  intro i h tk hi hit D u J;refine codeAny_builtin F.entry_set_update_loop ?_;rw[Around.under_plainId zv _];refine eM (m:=pyNext (.ref I)) (W.item i {s with heap:=h,toks:=tk} _ _ Wc #[hit,D] λv h1 t1 z j g=>?_);obtain⟨x,t,y,rfl⟩:=hv i v z;have C:=p g u;have P:i<ns.length:=by lia
  have T:ns[i]=x:=(hR.1 y).2;have hle:=Lg ns i;have G:ns.getD i Str.empty=x:=by rw[e5,y];rfl
  refine eM (m:=holding [Value.str x t] (setAdd S QoT)) (qe ?_);unfold setAdd;refine qe (eM ((strKind prog w).pyHash (k:=x) QuQ ?_));refine wpAny_setAddHashed_of (knd:=strKind prog w) QuQ rfl C Wc λh2 M N=>?_;have B:h2.SetOf Qcw S (k6 ns Q3) (cD ns Q3):=by
   have ec:cD ns Q3=(if k6 ns i x=true then cD ns i else cD ns i+1):=by
    show cD ns i+Qkw=_;rw[G];split<;>rfl
   have e:(λL=>k6 ns i L || decide (L=x))=k6 ns Q3:=by
    funext q;unfold k6;rw[js,y,<- Bool.decide_or];exact decide_eq_decide.2 W2
   rw[<- e,ec];exact N
  have d:∀b o,b≠S->h1.get? b=some o->h2.get? b=some o:=λb o hb e=>(M.2 b hb).trans e;refine gL #[plainId_quiet zv _,O Q3 h2 _ Wc (j.1.at λo e=>d I o (hV l) e) (j.2.at λo e=>d a o (hV H) e) B λh' c E Y=>?_];exact J h' c (λb o b1 b2 e=>E b o b1 b2 (d b o b1 (g b o (by simp[b2]) e))) Y
theorem Cv{items:D2}{Q:BB}(I:QnY)(y:s.heap.IsList a items)(hn:QvM)(hb:Qw2)
  (hv:∀(i:Nat) (v:Value),items[i]? = some v->∃x t,ns[i]? = some x/\v=Value.str x t)
  (L:∀h' tk,h'.SetOf Qcw s.heap.objs.size QmX Qdc->(∀b o,s.heap.get? b=some o->h'.get? b=some o)->Q Qb4 {s with heap:=h',toks:=tk}) :
  wpAny Qaa A (call Qi4 [.ref a]) Q E s:=by
 obtain⟨c,tl,W⟩:=mI.mro;have V:=mI.made;have U:=mI.sub;have T:=mI.notType;have P:=mI.canCreate;have O:=F.typeCall_set_1 Qab;refine wpAny_call (codeAny_of_tree (show wpAny _ _ (callAny Qi4 _) _ _ _ from gL #[Code.quiet_builtin _ Wl,codeAny_builtin F.entry_type_call ?_]));rw[Around.under_plain (weight_type_call_type "set" [.ref a] []) rfl]
 repeat (any_goals (first|assumption|wp_step))
 refine oI (code_set_new_1 Qab (E:=E) (Q₁:=λz g=>∃led:Bool,z=.ref s.heap.objs.size/\g={s with heap:=s.heap.push {cls:=.type "set",dict:=none,data:=.set #[] 0 Qb7}}) λled=>#[led,rfl,rfl]) λr s1 k=>?_;cases r with
 | error e=>exact k
 | ok fl=>
  cases fl with
  | ret z=>
   obtain⟨led,rfl,rfl⟩:=k;have C:(s.heap.push {cls:=.type "set",dict:=none,data:=.set #[] 0 Qb7}).get? s.heap.objs.size=some {cls:=.type "set",dict:=none,data:=.set #[] 0 Qb7}:=hX _ rfl;have K:Shared.TypeIs {s with heap:=s.heap.push {cls:=.type "set",dict:=none,data:=.set #[] 0 Qb7}} (.ref s.heap.objs.size) "set":=#[_,C,rfl];have N:=mI.init.lookup;have M:=mI.init.bind Qb4
   repeat (any_goals (first|assumption|wp_step))
   refine oI (codeAny_call_builtin (R:=wants (λr s2=>r=.none/\∃h' tk,s2={s with heap:=h',toks:=tk}/\h'.SetOf Qcw s.heap.objs.size QmX Qdc/\∀b o,s.heap.get? b=some o->h'.get? b=some o) E) mI.init.plain F.entry_set_init (check_set_init_1 K ?body)) λG s2 d=>?back
   case back=>
    cases G with
    | error e=>exact d
    | ok fl=>
     cases fl with
     | ret z=>
      obtain⟨rfl,h',tk,rfl,f,l⟩:=d
      repeat (any_goals (first|assumption|wp_step))
      exact L _ _ f l
     | _=>exact d.elim
   case body=>
    have h0:=y;obtain⟨⟨oc,od,Z,os⟩,h,n,nl,m⟩:=y;cases n;cases m;have u:(s.heap.push {cls:=.type "set",dict:=none,data:=.set #[] 0 Qb7}).get? a=some {cls:=.type "list",dict:=od,data:=.seq items nl,slots:=os}:=gx _ h;have D:(s.heap.push {cls:=.type "set",dict:=none,data:=.set #[] 0 Qb7}).IsList a items:=#[_,u,rfl,nl,rfl];have Y:=F.sub_list_set;have p2:=F.sub_list_frozenset;have X:(Value.type "list" == Value.type "dict")=false:=by decide
    have B:a<s.heap.objs.size:=fA h;have hz:(s.heap.push {cls:=.type "set",dict:=none,data:=.set #[] 0 Qb7}).objs.size=s.heap.objs.size+1:=Heap.size_push ..;unfold Builtin.«set.__init__» noKeywords Builtin.Frozenset.updateFrom;generalize p:pyIter=PI
    wp_walk
    subst p;refine wpAny_pyIter_list D (eM (wpAny_runValue ?_));refine Om (A:=A.in1.in1) (S:=s.heap.objs.size) (by simp[I]) (by rw[hz];exact hG (Nat.lt_succ_of_lt B)) (by rw[hz];exact hG (mi _)) (qi B) hn hb hv ns.length 0 _ _ Qm6 #[_,hX _ rfl,rfl,rfl] (D.push _) ?_ λh' j H f=>?_
    .have J:((s.heap.push {cls:=.type "set",dict:=none,data:=.set #[] 0 Qb7}).push {cls:=.type "list_iterator",data:=.fields (List.toArray [.ref a,.int 0 0])}).get? s.heap.objs.size=some {cls:=.type "set",dict:=none,data:=.set #[] 0 Qb7}:=gx _ C;exact SetOf_congr ((setObjOf_fresh (knd:=strKind prog w) led).setOf J (by unfold scanBound;lia)) (λq=>by unfold k6;simp) rfl
    .refine gL (gL #[rfl,h',j,rfl,f,λb o e=>H b o Qoq ?_ (gx _ (gx _ e))]);rw[hz];exact hG (Nat.lt_succ_of_lt (fA e))
  | _=>exact k.elim
variable{X:Cx}
theorem HS(m:QaL):nU X Qi4 (λxs H Q=>∃(p:Addr) (ns:AT),xs=[.ref p]/\jX X.K H p QxJ/\ns.length<=1000/\∀l,H l=none->Q (.ref l) (upd H l (.ext (SV X.prog X.w l Qdc)))):=by
 intro pins s U H xs us Q I r h;obtain⟨p,ns,rfl,hp,hn,q⟩:=h;obtain⟨u,rfl,c⟩:=vals1 r;cases c;obtain⟨its,b,f,hz⟩:=I.list hp;have j:its.length=ns.length:=by rw[<- b.length,eu]
 have hv:∀{ns:AT} {us:B0},Vals QxJ us->∀(i:Nat) (v:Value),us[i]? = some v->∃x t,ns[i]? = some x/\v=Value.str x t:=by
  intro ns
  induction ns with
  | nil=>intro us h i v e;cases h;cases i<;>cases e
  | cons y ns g=>
   intro us h i v e;cases h with
   | cons r d=>
    obtain⟨t,rfl⟩:=r;cases i with
    | zero=>cases e;exact#[y,t,rfl,rfl]
    | succ i=>exact g d i v e
 refine Cv (ns:=ns) Qot f.isList (by rw[List.size_toArray,j]) (by unfold scanBound;lia) (λi v e=>hv b i v (by simpa using e)) λh' tk n ek=>?_;have a:SV X.prog X.w s.heap.objs.size Qdc h':=#[_,n];refine#[.ref s.heap.objs.size,_,I.laid (t':=tk) (o:=.ext (SV X.prog X.w s.heap.objs.size Qdc)) ek (eA _) #[a,?_,?_],rfl,q _ Qc7]
 .obtain⟨_,o,_,_,_,e,_⟩:=a;exact#[o,e]
 .rintro h1 h2 ⟨S,o,es,ep,t,e,rest⟩ k;exact#[S,o,es,ep,t,k o e,rest]
variable{CL:BM}{b:Bx}{δ δ1:Ap}{e:Expr}{pos pp pq pr:Pos}
def HV(g:Gx X)(hm:Qi1)(d:X.mg "set" = none)(h:b5 X CL b e δ (.lst (ns.map D.str)) δ1)(hn:ns.length<=1000)(u:Qj9)(f:Gl X "set")(j:QaD:=by exact aZ rfl) :
  bG X CL b (.Call (.Name "len" pp) [.Call (.Name "set" pq) [e] [] pr] [] pos) δ (.sh Qs2) δ1:=λH Z U ts vs Q S k=>
 bU (oG Cq u hm PySem.boot_len (bE (lU (HS g.calm) f d Og Qoj (he:=j)) cT (aZ rfl)) (he:=aZ rfl)) (h H Z U ts vs _ S λv H1 Z1 l k1 i r=>by
  cases r with
  | lst s n=>
  have x:=Oh n;refine#[_,ns,rfl,by rw[<- x];exact s,hn,λr p=>#[r,cD ns ns.length,rfl,aM,fg (Lg ns ns.length) hn,?_]];have same:aA H1 (upd H1 r (.ext (SV X.prog X.w r Qdc))):=aA.upd p;obtain⟨Z',m,y⟩:=i.back (t:=.sh Qs2) (v:=.int (cD ns ns.length:Nat)) (fp:=[]) (W:=Z1) (W':=Z1) same QA QA (i.zh.trans same) (λa o q z=>by rw[q]at z;cases z) (λa o q im=>by
   by_cases c:a=r
   .subst c;rw[aM]at q;cases q;cases im
   .rw[ay c]at q;exact i.tp a o q im) (.sh QbU) mx (λa c=>by cases c) Qay
  exact k _ _ _ (l.trans m) (k1.trans same) y)
theorem Lh{ns:AT}:∀i,i<=ns.length->(cD ns i=i↔(ns.take i).Nodup)
 | 0,_=>by rw[List.take_zero];exact#[λ_=>mx,λ_=>rfl]
 | i+1,hi=>by
  have b:=Lh (ns:=ns) i Wc;have hle:=Lg ns i;have d:ns[i]? = some (ns.getD i Str.empty):=by rw[e5,gh Wc];rfl
  rw[js,d,Option.toList_some,iw,<- b];show cD ns i+Qkw=i+1↔_;unfold k6;by_cases z:ns.getD i Str.empty∈ns.take i
  .rw[dU (e6 z)];refine#[λq=>by lia,λq=>absurd rfl (q.2.2 _ z _ QeC)]
  .rw[cq (λq=>z (eI q))];refine#[λq=>#[Wc,iq.2 #[fo,mx],λa g c f e=>z ?_],λq=>by lia];rw[<- eR.1 f,<- e];exact g
def aej:cD ns ns.length=ns.length↔ns.Nodup:=by
 have:=Lh (ns:=ns) ns.length (eA _)
 rwa [hZ]at this
variable{i:Nat}{x:Str}
theorem Ln.pin{p:At}(h:Qa0):Ln QcD i x:=#[#[h.hi,h.hv,h.hd,h.iA],h.loc,h.hf]
inductive DY where
 | ix (j:Nat)|fld (f:Str)|key (k:EN)
def Oo{α:Type}(k:EN)(t:α):List QfW->List QfW
 | []=>[]
 | (x,u)::r=>if x=k then(x,t)::r else(x,u)::Oo k t r
def T.core:T->T
 | .pin _ t=>t
 | t=>t
def T.HW:T->T->T
 | .pin y _,u=>.pin y u
 | _,u=>u
def T.l9:DY->T->Option T
 | .ix j,.lst ts=>ts[j]?
 | .ix j,.tup ts=>ts[j]?
 | .fld f,.ins _ fs=>fs.lookup f
 | .key k,.dct aO=>EH aO k
 | _,_=>none
def T.S9:DY->T->T->T
 | .ix j,.lst ts,u=>.lst (ts.set j u)
 | .ix j,.tup ts,u=>.tup (ts.set j u)
 | .fld f,.ins c fs,u=>.ins c (Ak f u fs)
 | .key k,.dct aO,u=>.dct (Oo k u aO)
 | _,t,_=>t
def T.sX:List DY->T->Option T
 | [],t=>some t.core
 | s::p,t=>(t.core.l9 s).bind (T.sX p)
def T.yG:List DY->T->T->T
 | [],u,t=>t.HW u
 | s::p,u,t=>match t.core.l9 s with
  | some k=>t.HW (t.core.S9 s (T.yG p u k))
  | none=>t
def Y4(H:Hp)(v:V):DY->V->Prop
 | .ix j,w=>∃a us,v=.ref a/\(H a=some Qdr\/H a=some QlV)/\us[j]? = some w
 | .fld f,w=>∃a C dx gs,v=.ref a/\H a=some (.ins C dx gs)/\gs.lookup f=some w
 | .key k,w=>∃a gs,v=.ref a/\(∃en,H a=some Qoz)/\jo gs k=some w
def Bh(H:Hp):V->List DY->V->Prop
 | v,[],w=>v=w
 | v,s::p,w=>∃u,Y4 H v s u/\Bh H u p w
variable{H H':Hp}
theorem Y4.mono(e:QbY){v w:V}{s:DY}(h:Y4 H v s w):Y4 H' v s w:=by
 cases s with
 | ix j=>obtain⟨a,us,h1,h2,b⟩:=h;exact#[a,us,h1,h2.imp Qj0 Qj0,b]
 | fld f=>obtain⟨a,C,dx,gs,h1,h2,b⟩:=h;exact#[a,C,dx,gs,h1,e _ _ h2,b]
 | key k=>obtain⟨a,gs,h1,h2,b⟩:=h;exact#[a,gs,h1,h2.imp λ_ q=>e _ _ q,b]
theorem Y4.inj{v w i:V}{s:DY}(h:Y4 H v s w)(q:Y4 H v s i):w=i:=by
 cases s with
 | ix j=>
  obtain⟨a,us,h1,h2,m⟩:=h;obtain⟨n,c,d,b,l⟩:=q;subst h1;cases d;have e:us=c:=by
   obtain h2|h2:=h2<;>obtain b|b:=b<;>rw[h2]at b<;>cases b<;>rfl
  simp_all
 | fld f=>
  obtain⟨a,C,dx,gs,h1,h2,m⟩:=h;obtain⟨n,p,o,g,d,b,l⟩:=q;grind
 | key k=>
  obtain⟨a,gs,h1,⟨_,h2⟩,m⟩:=h;obtain⟨n,g,d,⟨_,b⟩,l⟩:=q;simp_all
theorem Bh.mono{H H':Hp}(e:QbY):∀{p:QdZ} {v w:V},Bh H v p w->Bh H' v p w
 | [],_,_,h=>h
 | _::_,_,_,⟨u,h,q⟩=>#[u,h.mono e,Bh.mono e q]
theorem Bh.inj{H:Hp}:∀{p:QdZ} {v w a:V},Bh H v p w->Bh H v p a->w=a
 | [],_,_,_,h,q=>h.symm.trans q
 | _::_,_,_,_,⟨_,h1,h2⟩,⟨_,c,b⟩=>by
  have:=h1.inj c;subst this;exact Bh.inj h2 b
theorem Bh.snoc{H:Hp}{s:DY}:∀{p:QdZ} {v w z:V},Bh H v p w->Y4 H w s z->Bh H v (p++[s]) z
 | [],_,_,z,h,q=>by
  have h':=h;subst h';exact#[z,q,rfl]
 | _::_,_,_,_,⟨u,h1,h2⟩,q=>#[u,h1,Bh.snoc h2 q]
variable{K:Frag}{Z Z':Hp}{U:L2.St}{ts tl:Bz}{vs us:BS}{t u t0:T}{v v0 w:V}{fp:BY}{p:QdZ}
theorem bJ.Tc(h:QgK):bJ K CL H Z t.core v fp/\∀{H' Z':Hp} {u:T} {g:BY},bJ K CL H' Z' u v g->bJ K CL H' Z' (t.HW u) v g:=by
 cases h with
 | pin r=>exact#[r,.pin]
 | sh r=>exact#[.sh r,λq=>q]
 | tup r q=>exact#[.tup r q,λq=>q]
 | lst r q=>exact#[.lst r q,λq=>q]
 | ins r q=>exact#[.ins r q,λq=>q]
 | jq r q=>exact#[.jq r q,λq=>q]
 | dct r q=>exact#[.dct r q,λq=>q]
 | DU r q p=>exact#[.DU r q p,λq=>q]
theorem cL.at{f:Str}:∀(fs:B1) {gs:CA} {fp:BY},cL K CL H Z fs gs fp->fs.lookup f=some t->∃w f1 f2 c,gs.lookup f=some w/\fp=f1++(f2++c)/\bJ K CL H Z t w f2 ∧
  ∀{H':Hp} {t':T} {g:BY},(∀a∈f1++c,H' a=H a)->bJ K CL H' Z t' w g->cL K CL H' Z (Ak f t' fs) gs (f1++(g++c)):=by
 intro fs
 induction fs with
 | nil=>intro gs fp h e;cases e
 | cons p fs k=>
  obtain⟨x,t0⟩:=p;intro gs fp h e;cases h with
  | @cons _ _ v _ vs f0 g0 r rs=>
   rw[h7]at e;cases b:f==x with
   | true=>
    rw[b]at e;cases e;have i:=(i3.1 b).symm;refine#[v,[],f0,g0,by rw[h7,b],rfl,r,λ{H' t' g} kk d=>?_];rw[Ak,dU i];exact cL.cons (fp:=g) d (rs.mono QA λa j=>kk a (‹_›))
   | false=>
    rw[b]at e;obtain⟨w,f1,f2,c,h1,h2,m,l⟩:=k rs e;subst h2;refine#[w,f0++f1,f2,c,by rw[h7,b];exact h1,W2,m,λ{H' t' g} kk d=>?_];rw[Ak,cq (λz=>by grind),fb];exact .cons (r.mono QA λa j=>kk a WE) (l (λa j=>kk a (by rw[fb];exact fx _ j)) d)
theorem eX.l9{k:EN}{aO:Cf}{gs:B2}(h:QvK)(c:EH aO k=some t) :
  ∃v f1 f2 b,jo gs k=some v/\fp=f1++(f2++b)/\bJ K CL H Z t v f2 ∧
   ∀{H':Hp} {t':T} {g:BY},(∀a∈f1++b,H' a=H a)->bJ K CL H' Z t' v g->eX K CL H' Z (Oo k t' aO) gs Qos:=by
 refine eX.ind (P:=λaO gs fp=>EH aO k=some t->∃v f1 f2 b,jo gs k=some v/\fp=f1++(f2++b)/\bJ K CL H Z t v f2 ∧
   ∀{H':Hp} {t':T} {g:BY},(∀a∈f1++b,H' a=H a)->bJ K CL H' Z t' v g->eX K CL H' Z (Oo k t' aO) gs Qos) (λe=>by cases e) (λ{x t0 v0 ts vs fp gp} r f i c=>?_) h c
 by_cases e:x=k
 .rw[SN e]at c;cases c;refine#[v0,[],fp,gp,oJ e,rfl,r,λ{H' t' g} d q=>?_];rw[Oo,dU e];exact(show eX K CL H' Z _ _ (g++gp) from .cons q (f.mono QA d))
 .rw[SQ e]at c;obtain⟨v,f1,f2,b,h1,h2,m,l⟩:=i c;refine#[v,_,f2,b,by rw[lV e];exact h1,by rw[h2,fb],m,λ{H' t' g} d q=>?_];rw[Oo,cq e,fb];exact .cons (r.mono QA λa j=>d a WE) (l (λa j=>d a (by rw[fb];grind)) q)
theorem bJ.l9{s:DY}{k:T}(zh:Qfe)(h:QgK)(i:t.l9 s=some k):∃w f1 f2 d,Y4 H v s w/\fp=f1++(f2++d)/\bJ K CL H Z k w f2 ∧
  ∀{H':Hp} {n:T} {g:BY},(∀c∈f1++d,H' c=H c)->bJ K CL H' Z n w g->bJ K CL H' Z (t.S9 s n) v Qjm:=by
 cases s with
 | ix j=>
  cases h with
  | @lst a us ts g b rs=>
   obtain⟨w,f1,f2,d,h1,h2,m,l⟩:=rs.at i;subst h2;refine#[w,a::f1,f2,d,#[a,us,rfl,.inl b,h1],rfl,m,λ{H' n g} kk e=>?_];have q:=l Qlx e;rw[iE h1]at q;exact .lst ((kk a eB).trans b) q
  | @tup a us ts g b rs=>
   obtain⟨w,f1,f2,d,h1,h2,m,l⟩:=rs.at i;subst h2;refine#[w,f1,f2,d,#[a,us,rfl,.inr (zh _ _ b),h1],rfl,m,λ{H' n g} kk e=>?_];have q:=l kk e;rw[iE h1]at q;exact .tup b q
  | _=>cases i
 | fld f=>
  cases h with
  | @ins a dx c gs fs g b rs=>
   obtain⟨w,f1,f2,d,h1,h2,m,l⟩:=cL.at fs rs i;subst h2;refine#[w,a::f1,f2,d,#[a,_,dx,gs,rfl,b,h1],rfl,m,λ{H' n g} kk e=>?_];exact .ins ((kk a eB).trans b) (l Qlx e)
  | _=>cases i
 | key x=>
  cases h with
  | @dct a gs aO g en b rs=>
   obtain⟨w,f1,f2,d,h1,h2,m,l⟩:=rs.l9 i;subst h2;refine#[w,a::f1,f2,d,#[a,gs,rfl,#[_,b],h1],rfl,m,λ{H' n g} kk e=>?_];exact .dct ((kk a eB).trans b) (l Qlx e)
  | _=>cases i
theorem bJ.focus(zh:Qfe):∀(p:QdZ) {t u:T} {v:V} {fp:BY},bJ K CL H Z t v fp->T.sX p t=some u->∃w f1 f2 a,Bh H v p w/\fp=f1++(f2++a)/\bJ K CL H Z u w f2 ∧
  ∀{H':Hp} {b:T} {g:BY},(∀c∈f1++a,H' c=H c)->bJ K CL H' Z b w g->bJ K CL H' Z (T.yG p b t) v (f1++(g++a))
 | [],t,u,v,fp,h,e=>by
  obtain⟨h1,h2⟩:=h.Tc;cases e;exact#[v,[],fp,[],rfl,W2,h1,λ{H' b g} _ r=>by rw[ft];exact h2 r]
 | s::p,t,u,v,fp,h,e=>by
  obtain⟨h1,h2⟩:=h.Tc;rw[T.sX]at e;cases d:t.core.l9 s with
  | none=>rw[d]at e;cases e
  | some k=>
   rw[d]at e;obtain⟨f,a1,a2,a3,z,y,x,o⟩:=h1.l9 zh d;obtain⟨w,f1,f2,a,m,l,j,i⟩:=bJ.focus zh p x e;subst y l;refine#[w,a1++f1,f2,a++a3,#[f,z,m],W2,j,λ{H' b g} kk n=>?_];rw[T.yG,d];have q:=h2 (o Qwl (i Qwl n));simpa [List.append_assoc] using q
theorem bP.HX(S:QaQ)(ev:U[i]? = some QeM)(hi:δ[i]? = some QeN)(hp:T.sX p t0=some u)(M:Qkd):∃f2 gp,bJ K CL H Z u w f2/\aQ K CL H Z ts vs gp/\(f2++gp).Nodup ∧
  ∀{a:Addr} {o:HO} {x:T} {m:Bz} {l:BS} {g n:BY},w=.ref a->a∈f2->iQ o=false->bJ K CL Qa4 Z x w g->aQ K CL Qa4 Z m l n->(g++n).Nodup->(∀c∈g++n,c∈f2++gp) →
   bP K CL b Qa4 Z (δ.set i (some (T.yG p x t0))) U m l:=by
 obtain⟨fp,gp,e,r,nd,k⟩:=S.rep;obtain⟨v1,e1,e2,e3,hv,G,rt,put,_⟩:=e.get hi;rw[ev]at hv;cases hv;obtain⟨N,f1,f2,t,at',hf,E,put2⟩:=rt.focus S.zh p hp;have hw:=at'.inj M;subst hw;subst hf;subst G;have s:((e1++((f1++(f2++t))++e3))++gp).Perm ((e1++Qob)++(f2++gp)):=tJ.2 λc=>by
  simp only[q4];lia
 have y:=s.nodup_iff.1 nd;have f:=iw.1 y;refine#[f2,gp,E,r,f.2.1,λ{a o x m l g n} I C hm J L A D=>?_];have q:∀c∈e1++Qob,upd H a o c=H c:=λc j=>ay λz=>f.2.2 c j a (hj _ C) z;have F:=put2 (H':=upd H a o) (λc j=>q c (by
  obtain h|h:=eC.1 j
  .simp[h]
  .simp[h])) J
 have B:=put (H':=upd H a o) QA (λc j=>q c (by
  obtain h|h:=eC.1 j
  .simp[h]
  .simp[h])) F
 rw[iE ev]at B;have v:((e1++((f1++(g++t))++e3))++n).Perm ((e1++Qob)++(g++n)):=tJ.2 λc=>by
  simp only[q4];lia
 refine S.R4 hm k (by simp[C]) B L (v.nodup_iff.2 (iw.2 #[f.1,A,λc j d hd=>f.2.2 c j d (D d hd)])) λc j=>?_;refine s.mem_iff.2 ?_;obtain h|h:=eC.1 (v.mem_iff.1 j)
 .exact hj _ h
 .exact fx _ (D c h)
theorem bP.JU(S:QaQ)(ev:U[i]? = some QeM)(hi:δ[i]? = some QeN)(hp:T.sX p t0=some u):∃w f2,Bh H v0 p w/\bJ K CL H Z u w f2:=by
 obtain⟨fp,gp,e,r,nd,k⟩:=S.rep;obtain⟨v1,e1,e2,e3,hv,d,rt,put,_⟩:=e.get hi;rw[ev]at hv;cases hv;obtain⟨a,f1,f2,f,at',hf,c,put2⟩:=rt.focus S.zh p hp;exact#[a,f2,at',c]
theorem bP.Y5(S:Qb3)(ev:U[i]? = some QeM)(hi:δ[i]? = some QeN)(hp:T.sX p t0=some QcC)(n:Qkd) :
  ∃a us,w=.ref a/\H a=some Qdr/\us.length=tl.length/\bP K CL b QhJ Z (δ.set i (some (T.yG p Qfw t0))) U ts vs:=by
 obtain⟨f2,gp,h,j,nd,go⟩:=S.HX ev hi hp n;obtain⟨a,us,g,rfl,rfl,m,rs⟩:=h.gR;cases j with
 | @cons _ _ _ _ f e l k=>
  have ne:∀c∈g++Qe2,c≠a:=λc d z=>by subst z;simp_all
  have pm:((a::(g++(f++[])))++e).Perm ((a::g)++Qe2):=tJ.2 λc=>by simp
  exact#[a,us,rfl,m,rs.length.symm,go rfl eB rfl (.lst aM (aQ.app (rs.mono QA λc d=>ay (ne c (by simp[d]))) (.cons (l.mono QA λc d=>ay (ne c (by simp[d]))) .nil)))
   (k.mono QA λc d=>ay (ne c (by simp[d]))) (pm.nodup_iff.2 nd) λc d=>pm.mem_iff.1 d]
theorem bP.aek{j:Nat}(S:Qb3)(ev:U[i]? = some QeM)(hi:δ[i]? = some QeN)(hp:T.sX p t0=some QcC)(u:Qkd)(q:j<tl.length) :
  ∃a us,w=.ref a/\H a=some Qdr/\us.length=tl.length/\bP K CL b (upd H a (.lst (us.set j v))) Z (δ.set i (some (T.yG p Qvg t0))) U ts vs:=by
 obtain⟨f2,gp,l,m,nd,go⟩:=S.HX ev hi hp u;obtain⟨a,us,g,rfl,rfl,r,rs⟩:=l.gR;cases m with
 | @cons _ _ _ _ f e o n=>
  obtain⟨x,g1,g2,g3,h1,h2,y,s⟩:=rs.at (gh q);subst h2;have ne:∀c∈(g1++(g2++g3))++Qe2,c≠a:=λc d z=>by subst z;simp_all
  have k:((a::(g1++g3))++Qe2).Sublist ((a::(g1++(g2++g3)))++Qe2):=by simp
  have pm:((a::(g1++(f++g3)))++e).Perm ((a::(g1++g3))++Qe2):=tJ.2 λc=>by simp[q4,List.count_cons];lia
  exact#[a,us,rfl,r,rs.length.symm,go rfl eB rfl (.lst aM (s (λc d=>ay (ne c (by
    obtain h|h:=eC.1 d
    .simp[h]
    .simp[h]))) (o.mono QA λc d=>ay (ne c (by simp[d])))))
   (n.mono QA λc d=>ay (ne c (by simp[d]))) (pm.nodup_iff.2 (nd.sublist k)) λc d=>k.subset QvN]
theorem bP.Oq{c f:Str}{fs:B1}(S:Qb3)(ev:U[i]? = some QeM)(hi:δ[i]? = some QeN)(hp:T.sX p t0=some QeF)(s:Qkd) :
  ∃a dx gs,w=.ref a/\H a=some QfI/\gs.length=fs.length/\bP K CL b (upd H a Qlg) Z (δ.set i (some (T.yG p (.ins c QoB) t0))) U ts vs:=by
 obtain⟨f2,gp,l,m,nd,go⟩:=S.HX ev hi hp s;obtain⟨a,dx,gs,g,rfl,rfl,q,rs⟩:=l.NC;cases m with
 | @cons _ _ _ _ h e o n=>
  have ne:∀c∈g++(h++e),c≠a:=λc d z=>by subst z;exact(iq.1 nd).1 d
  obtain⟨g',k,h1,h2,r⟩:=cL.put (f:=f) (o.mono (H':=upd H a Qlg) QA λc d=>ay (ne c (by simp[d]))) (rs.mono (H':=upd H a Qlg) QA λc d=>ay (ne c (by simp[d])));have j:((a::k)++(h++e)).Sublist ((a::g)++(h++e)):=lA (List.Sublist.cons₂ _ h2) (jW _);have pm:((a::g')++e).Perm ((a::k)++(h++e)):=((r.cons a).append_right e).trans (tJ.2 λc=>by simp only[q4,List.count_cons];lia);exact#[a,dx,gs,rfl,q,rs.length.symm,go rfl eB rfl (.ins aM h1) (n.mono QA λc d=>ay (ne c (by simp[d]))) (pm.nodup_iff.2 (nd.sublist j)) λc d=>j.subset QvN]
section
variable{e0 e2:Expr}{t1:T}{Yr:Bz}{D:cM}{pa pb ps:Pos}{dm:CI}
def ub(X:Cx)(CL:BM)(b:Bx)(e:Expr)(δ:Ap)(i:Nat)(p:QdZ):Prop:=
 ∀(H Z:Hp) (U:L2.St) (ts:Bz) (vs:BS) (Q:VK),bP X.K CL b H Z δ U ts vs->(∀v0 v H' Z',aA Z Z'->aA H H'->bP X.K CL b H' Z' δ U ts vs->U[i]? = some QeM->Bh H' v0 p v->Q v H')->Ag X e U H Q
def k7(n:QaZ)(h:δ[i]? = some QaJ):ub X CL b QaA δ i []:=λH Z U ts vs Q S k=>by
 obtain⟨v,hv,_⟩:=S.look h;exact bU Qfy #[v,hv,k v v H Z QA QA S hv rfl]
def Td{z:Int}{j:Nat}(h:ub X CL b e δ i p)(hi:δ[i]? = some QaJ)(q:T.sX p t=some QcC)(h2:b5 X CL b e2 δ (.int z) δ)(c:GY tl.length z=some j)(hp:kU e2:=by exactλ_ _=>rfl) :
  ub X CL b (.Subscript e e2 pos) δ i (p++[.ix j]):=λH Z U ts vs Q S k=>
 bU (yc w9 bX bX hp) (h H Z U ts vs _ S λv0 v H' Z' m s1 s ev u=>h2 H' Z' U ts vs _ s λv2 H2 Z2 l s2 f n=>by
  have at2:=u.mono s2;obtain⟨w,f2,at',r⟩:=f.JU ev hi q;have:=at'.inj at2;subst this;obtain⟨a,us,g,rfl,rfl,d,rs⟩:=r.gR;have o:=(w6 c).2.1;obtain⟨w,_,_,_,hw,_,_,_⟩:=rs.at (gh o);refine#[a,us,z,w,rfl,n.sc rfl,jX.of d,?_,k v0 w H2 Z2 (m.trans l) (s1.trans s2) f ev (at2.snoc #[a,us,rfl,.inl d,hw])];unfold sA;rw[<- rs.length,c];exact hw)
def Cw(x:ub X CL b e0 δ i p)(h0:δ[i]? = some QeN)(f:T.sX p t0=some (.lst Yr))(h:Qaw)(h1:δ1[i]? = some (some t1))(d:T.sX p t1=some QcC)(u:Qm5)(k:cK X CL b dm (δ1.set i (some (T.yG p Qfw t1))) D)
  (y:attributeBase e0 "append" X.env QxK=eval e0 X.env:=by rfl)
  (q:QgS:=by rfl)
  (c:QgT:=by rfl) (j:QaD:=by exact aZ rfl) (o:swapsWith QqU none pos.line X.env=pure false:=by rfl) :
  cK X CL b (.Expr QqU pos::dm) δ D:=bI λH Z U ts vs E S M=>
 mZ (p6 (qN xp zd y8 qa bX Qoj y q c j rfl) o) (x H Z U ts vs _ S λv0 v F A z0 s0 l ev m=>by
  obtain⟨w,f2,at',r⟩:=l.JU ev h0 f;have:=at'.inj m;subst this;refine#[?_,h F A U ts vs _ l λv2 H1 Z1 n k1 C=>?_]
  .obtain⟨_,_,_,rfl,rfl,g,_⟩:=r.gR;exact .inl #[rfl,_,jX.of g]
  .obtain⟨a,us,z,g,s,B⟩:=C.Y5 ev h1 d (m.mono k1);exact#[a,us,v2,z,rfl,g,by rw[s];exact oC u Wp,M.nx _ U _ Z1 (z0.trans n) B k])
def Cy{z:Int}{j:Nat}(h:Qaw)(s:ub X CL b e0 δ1 i p)(h2:b5 X CL b e2 δ1 Qgn δ1)(h1:δ1[i]? = some (some t1))(c:T.sX p t1=some QcC)(f:GY tl.length z=some j)(kk:cK X CL b dm (δ1.set i (some (T.yG p Qvg t1))) D)
  (r:∀v,assign QuA X.env v=(do
   let ov ← holding [v] QxK
   let I ← holding [v,ov] (eval e2 X.env)
   standAt ps
   holding [v,ov,I] (setItem ov I v)
   release [v,ov,I] []):=by intro _;rfl)
  (o:swapsWithSole [.Subscript e0 e2 ps] e pos.line X.env=pure false:=by rfl) (hw:swappedStores [.Subscript e0 e2 ps] e X.env=pure none:=by rfl) (d:(assignEach [.Subscript e0 e2 ps] X.env).map (·.2)=[assign QuA X.env]:=by rfl) :
  cK X CL b (.Assign [.Subscript e0 e2 ps] e pos::dm) δ D:=by
 refine bI λH Z U ts vs E S M=>mZ (acU bX (acT bX bX set_list r) o hw d) (h H Z U ts vs _ S λv H1 Z1 l k1 C=>?_);have q:=(w6 f).2.1;refine s H1 Z1 U _ _ _ C λv0 w H2 Z2 k k2 B ev F=>h2 H2 Z2 U _ _ _ B λv2 G Z3 g k3 A m=>?_;obtain⟨a,us,u,x,n,y⟩:=A.aek ev h1 c (F.mono k3) q;exact#[a,us,z,j,u,m.sc rfl,x,n▸f,M.nx _ U _ Z3 (l.trans (k.trans g)) y kk]
end
section
variable{pos':Pos}{D:cM}{dm:CI}{A:Type}{k:Nat}
theorem ael{z w:Int}(g:Gx X)(nm:Qa0)(d:δ[i]? = some (some (.sh Qgn)))(h:b5 X CL b e δ (.int w) δ)(k:cK X CL b dm (δ.set i (some (.sh (.int (z+w))))) D) :
  cK X CL b (.AugAssign QiZ .Add e pos::dm) δ D:=bI λH Z U ts vs E S M=>
 mZ (acV g.nd nm.hi nm.loc bX acW nm.hf) (by
  obtain⟨v,hv,r⟩:=S.RD d;cases r;refine#[_,hv,h H Z U ts vs _ S λv2 H1 Z1 a k1 j c=>?_];cases c;have f:i<δ.length:=by
   obtain h|h:=Nat.lt_or_ge i _
   .exact h
   simp_all
  exact#[z,w,rfl,rfl,M.nx _ _ H1 Z1 a ((j.push QbU).set f) k])
end
end L3
namespace L2
open PySem PySem.Spec PyProof.Rows
noncomputable def JP{α:Type}(xs:QR)(lo hi st:Bn):List α:=
 (sliceRange (sliceBounds lo hi st xs.length).1 (sliceBounds lo hi st xs.length).2.1 (sliceBounds lo hi st xs.length).2.2).filterMap (xs[·]?)
end L2
namespace L3
open PySem PySem.Spec PyProof.Rows L2
def Bm{α:Type}:Nat->QxL->Prop
 | 0,P=>P []
 | n+1,P=>∀a,Bm n λr=>P (a::r)
def yH{α:Type}{n:Nat}{P:QxL}(h:Bm n P):∀us:List α,us.length=n->P us:=by
 intro us b
 induction us generalizing n P with
 | nil=>subst b;exact h
 | cons a r c=>subst b;exact c (h a) rfl
abbrev Lj(K:Frag)(x:Str)(f:Addr):Prop:=nsIn K mainGlobals x=some Qcy
section
variable{X:Cx}{CL:BM}{o:Expr}{D:cM}{m:Nat}{c mm:Str}{p:QdZ}
structure GS(X:Cx)(CL:BM)(c m:Str)(k n:Nat){A:Type}(arg:Qae)(Pre:Q4)(exc:Qa1):Prop where
 ex:∃f fd ps,Meth X.K (CL c) m f/\e9 X.prog X.w X.K X.mg X.base Qdj k f fd ps QhL/\Binds X.K fd ps []
 room:dX k X.A
 cls:GX X.K (CL c)
theorem GS.pin{p:At}{k n:Nat}{A:Type}{arg:Qae}{Pre:Q4}{exc:Qa1}(F:GS X CL c mm k n arg Pre exc):GS QcD CL c mm k n arg Pre exc:=#[F.ex,F.room,F.cls]
end
instance aoH:DecidableEq D:=λa b=>Classical.propDecidable (a=b)
end L3
namespace L2
open PySem PySem.Spec PyProof.Rows PySem.Builtin PySem.Builtin.Str
variable{X:Cx}{o e i:Expr}{es:CC}{to ty:TE}{ta:TA}{apos j3 pos:Pos}
def Nw:V->BS->Hp->VK->Prop:=λx xs H Q=>∃a gs k v,x=.ref a/\xs=[kV k,v]/\H a=some Qgm/\gs.length<sizeLine/\(∀u,jo gs k=some u->Q u H)/\(jo gs k=none->Q v Qlc)
theorem Y6:F1 X "dict.setdefault" Nw:=by
 intro pins s U H x vs v us Q I g b h;obtain⟨a,gs,k,v',rfl,rfl,e,o,j,q⟩:=h;cases g;cases b with
 | cons i b=>
  cases b with
  | cons d b=>
   cases b;obtain⟨z,hd,ws,rel,dd⟩:=Rt I.bZ e;have hz:ws.length<=sizeLine:=by rw[<- rel.length];exact z
   refine call_meetsIn PySem.F.slot_dict_setdefault dd.typeIs PySem.F.entry_dict_setdefault (PySem.F.args_dict_setdefault_3 _ _ _) (kt_meets_setdefault Qxv a (A9 i) hd _) #[ws,dd,hz,λp hp=>?_,λn h' f m=>?_]
   .have:=rel.val k;rw[hp]at this;cases hv:jo gs k with
    | none=>rw[hv]at this;exact this.elim
    | some u=>rw[hv]at this;exact#[u,H,I.tok _,this,j u hv]
   .have hn:jo gs k=none:=by
     have:=rel.val k;rw[n]at this;cases hv:jo gs k with
     | none=>rfl
     | some u=>rw[hv]at this;exact this.elim
    have c:(putK gs k v').length<=sizeLine:=by have:=oK gs k v';lia
    exact#[v',_,B6 I (by rw[e];exact True.intro) m (let ⟨q,_,_,l,_⟩:=f;#[q,l]) (Rw c hd (rel.put k d) f),d,q hn]
def Y7(p:PE X o to)(q:PA X Qan ta)
  (u:attributeBase o "setdefault" X.env Qdf=eval o X.env:=by rfl)
  (m:((backTo j3 Qt7).all QiX&&(backToKw j3 Qh3).all Qh7&&decide ((e::es).length+([]:List Keyword).length+Qhe<30))=true:=by rfl)
  (b:Qs8:=by rfl) (n:Qaz:=by rfl) (B:AL X j3 es:=by rfl) :
  PE X (.Call (.Attribute o "setdefault" apos) Qan [] j3) (λU H Q=>to U H λx H1=>∃a gs,x=.ref a/\H1 a=some Qgm/\ta U H1 λxs H2=>Nw x xs H2 Q):=by
 intro pins s U H Q I h;refine wpAny_Call_method_late u m b rfl (cS (p pins s U H _ I h) λv s1 zz=>?_);obtain⟨x,H1,g,d,a,gs,rfl,r,k⟩:=zz;have c:=d;cases d;obtain⟨z,hd,ws,rel,dd⟩:=Rt g.bZ r;have y:=dd;obtain⟨l,t,ep,h1,h2,E,D,C⟩:=y;refine#["dict","dict.setdefault",PySem.F.plainAttrs_dict,PySem.F.slot_dict_setdefault,PySem.F.type_dict_setdefault,dd.typeIs,λG w=>#[l,by cases w;exact h1,h2.2.1],?_];have f:=q j3 pins s1 U H1 _ g k;rw[n]at f ⊢;refine Calls.callWith_builtin (by show(false || (backTo j3 Qli).any (·.1))=false;rw[B]<;>rfl) (Calls.evalArgs_plain ?_);refine cS f λus s2 zz=>?_;obtain⟨vs,H2,A,i,j⟩:=zz;exact Y6 pins s2 U H2 _ vs _ us Q A c i j
def Ot:o8 X "str.startswith" (λx xs H Q=>∃z y:Str,x=.str z/\xs=[.str y]/\Q Qs3 H):=by
 intro pins s U H x vs v us Q I a b h;obtain⟨z,y,rfl,rfl,q⟩:=h;obtain⟨t,rfl⟩:=a;obtain⟨u,rfl,t',rfl⟩:=vals1 b;exact SC.startswith #[.bl _,H,I,rfl,q]
def Ou:o8 X "str.lstrip" (λx xs H Q=>∃z y:Str,x=.str z/\xs=[.str y]/\z.length<=sizeLine/\Q (.str (Txt.lstripChars z y)) H):=by
 intro pins s U H x vs v us Q I a b h;obtain⟨z,y,rfl,rfl,hz,q⟩:=h;obtain⟨t,rfl⟩:=a;obtain⟨u,rfl,t',rfl⟩:=vals1 b;exact SC.lstripChars (λt' k=>#[.str _,H,I.tok k,#[_,rfl],q]) hz
noncomputable def part3(x y:Str):AT:=match occurrences x y 0 x.length 1 with
 | i::_=>[strSub x 0 i,y,strSub x (i+y.length) x.length]
 | []=>[x,Str.empty,Str.empty]
def Y8:o8 X "str.partition" (λx xs H Q=>∃z y:Str,x=.str z/\xs=[.str y]/\Qja=false/\z.length<=sizeLine/\∀p,H p=none->Q Qbw (upd H p (.tup ((part3 z y).map V.str)))):=by
 intro pins s U H x vs v us Q I a c h;obtain⟨z,y,rfl,rfl,d,hz,q⟩:=h;obtain⟨t,rfl⟩:=a;obtain⟨u,rfl,t',rfl⟩:=vals1 c;refine n4 F.slot_str_partition Qf9 F.entry_str_partition (F.args_str_partition_2 _ _) (meets_str_partition z y t t' d hz) ?_;have hf:H s.heap.objs.size=none:=I.bZ.fresh (eA _);unfold part3 at q
 revert q
 cases occurrences z y 0 z.length 1 with
 | nil=>intro q;exact#[.ref _,_,I.laid (o:=.tup ([z,Str.empty,Str.empty].map V.str)) QfE (eA _) #[fg (show 3<=10 by decide) (by rw[fR];decide),_,.cons #[_,rfl] Qsm,#[_,hX _ rfl,rfl,_,rfl]],rfl,q _ hf]
 | cons i r=>intro q;exact#[.ref _,_,I.laid (o:=.tup ([strSub z 0 i,y,strSub z (i+y.length) z.length].map V.str)) QfE (eA _) #[fg (show 3<=10 by decide) (by rw[fR];decide),_,.cons #[_,rfl] Qsm,#[_,hX _ rfl,rfl,_,rfl]],rfl,q _ hf]
def Ov:nU X QxB (λxs H Q=>∃(z:Str) (n:Int),xs=[.str z]/\intText? z=some n/\z.length<=640/\Q QcL H):=by
 intro pins s U H xs us Q I r h;obtain⟨z,n,rfl,hn,a,q⟩:=h;obtain⟨u,rfl,t,rfl⟩:=vals1 r;exact PySem.W.KIN.call_text hn a #[.int n,H,I.tok _,#[_,rfl],q]
def GD(X:Cx)(x:Str)(f:Qke):Prop:=∃(a:Addr) (es:QgI) (n:Nat),X.mg x=some Qab/\X.K.lookup a=some #[.type "dict",none,.dict es n,#[]]/\KeysLit X.w.params es.toList/\∀k z,f k=some z->∃t,nsIn X.K a k=some Qwm
def Y1{x:Str}{f:Qke}{px:Pos}(hm:GD X x f)(l:Qad)(hi:QdT)(g:HC i)(hd:AD x:=by decide) :
  PE X Qtk (λU H Q=>ty U H λy H1=>∃(k:Str) (z:Int),y=.str k/\f k=some z/\Q Qgn H1):=by
 intro pins s U H Q I h;obtain⟨a,es,n,hm,b,j,hf⟩:=hm;refine B7 zp.lookup g (iB I l hm (cS Qee λm s2 zz=>?_) hd);obtain⟨y,H2,c,d,k,z,rfl,hz,q⟩:=zz;obtain⟨t,rfl⟩:=d;obtain⟨t2,e⟩:=hf k z hz;have mp:=mapOf_K (prog:=X.prog) (w:=X.w) c.nS b j;exact#[mp.typeIs,wpAny_getItem_of Qlk mp (PySem.W.find_K b e) #[.int z,H2,c.tok _,#[_,rfl],q]]
end L2
namespace L3
open PySem PySem.Spec PyProof.Rows L2 PySem.Builtin PySem.Builtin.Str
variable{X:Cx}{CL:BM}{b:Bx}{e o e2 e3:Expr}{δ δ1 δ2:Ap}{pos apos pp px pa:Pos}{i:Nat}{x:Str}{aO:EQ}{d:L3.D}{z:Str}
def Ow{y:Str}(h1:Qff)(h2:QgZ)
  (j:attributeBase o "startswith" X.env Qdf=eval o X.env:=by rfl)
  (i:Qfg:=by rfl)
  (a:Qfh:=by rfl) (c:QaD:=by exact aZ rfl) :
  bG X CL b (.Call (.Attribute o "startswith" apos) [e] [] pos) δ (.sh Qs3) δ2:=λH Z U ts vs Q S k=>
 bU (qN q0 PySem.F.slot_str_startswith PySem.F.type_str_startswith Ot bX Qjh j i a c rfl)
  (h1 H Z U ts vs _ S λv1 H1 Z1 f k1 m h=>by
   have e1:=h.sc rfl;subst e1;refine#[rfl,h2 H1 Z1 U ts vs _ m λv2 H2 Z2 d k2 l g=>?_];have e2:=g.sc rfl;subst e2;exact#[z,y,rfl,rfl,k _ _ _ Qf5 Qaf QwL])
def Ox{y w:Str}(h1:Qff)(h2:QgZ)(hz:QgY)(hw:Txt.lstripChars z y=w)
  (j:attributeBase o "lstrip" X.env Qdf=eval o X.env:=by rfl)
  (i:Qfg:=by rfl)
  (a:Qfh:=by rfl) (c:QaD:=by exact aZ rfl) :
  bG X CL b (.Call (.Attribute o "lstrip" apos) [e] [] pos) δ (.sh (.str w)) δ2:=λH Z U ts vs Q S k=>
 bU (qN q0 PySem.F.slot_str_lstrip PySem.F.type_str_lstrip Ou bX Qjh j i a c rfl)
  (h1 H Z U ts vs _ S λv1 H1 Z1 f k1 m h=>by
   have e1:=h.sc rfl;subst e1;refine#[rfl,h2 H1 Z1 U ts vs _ m λv2 H2 Z2 d k2 l g=>?_];have e2:=g.sc rfl;subst e2;subst hw;exact#[z,y,rfl,rfl,hz,k _ _ _ Qf5 Qaf (l.push QcK)])
def Te{y:Str}{l:AT}(h1:Qff)(h2:QgZ)(m:Qja=false)(hz:QgY)(n:part3 z y=l)
  (q:attributeBase o "partition" X.env Qdf=eval o X.env:=by rfl)
  (j:Qfg:=by rfl)
  (a:Qfh:=by rfl) (d:QaD:=by exact aZ rfl) :
  bG X CL b Qqz δ (.sh QnS) δ2:=by
 have:bG X CL b Qqz δ (.tup ((l.map L3.D.str).map T.sh)) δ2:=λH Z U ts vs Q S k=>
  bU (qN q0 PySem.F.slot_str_partition PySem.F.type_str_partition Y8 bX Qoi q j a d rfl)
   (h1 H Z U ts vs _ S λv1 H1 Z1 g k1 t i=>by
    have e1:=i.sc rfl;subst e1;refine#[rfl,h2 H1 Z1 U ts vs _ t λv2 H2 Z2 f k2 s h=>?_];have e2:=h.sc rfl;subst e2;subst n;refine#[z,y,rfl,rfl,m,hz,λp c=>?_];have rc:aF X.K CL Z2 ((part3 z y).map L3.D.str) ((part3 z y).map V.str):=aF.Bg _;obtain⟨c1,c2,r⟩:=(bP.nX rc s).rO W2 c;exact k _ _ _ (g.trans (f.trans c1)) (k1.trans (k2.trans c2)) r)
 have:=yg this
 rwa [T.dJ,fS]at this
def Cz{n:Int}(hm:X.mg "int" = none)(h:Qti)(hn:intText? z=some n)(d:z.length<=640)(f:Gl X "int")(a:QaD:=by exact aZ rfl):bG X CL b (.Call (.Name "int" pp) [e] [] pos) δ (.sh QcL) δ1:=λH Z U ts vs Q S k=>
 bU (lU Ov f hm NR Qjg (he:=a)) (h H Z U ts vs _ S λv H1 Z1 c k1 g r=>#[z,n,by rw[r.sc rfl],hn,d,k _ H1 Z1 c k1 QwI])
def Nt{f:Qke}{k:Str}{z:Int}(hm:GD X x f)(g:Qad)(h:Qlq)(hf:f k=some z)(d:HC e:=by exactλ_ _=>rfl)(hd:AD x:=by decide):bG X CL b Qtl δ (.sh Qgn) δ1:=λH Z U ts vs Q S kk=>
 bU (Y1 hm g bX d hd) (h H Z U ts vs _ S λv H1 Z1 a k1 i c=>#[k,z,c.sc rfl,hf,kk _ H1 Z1 a k1 (i.push Qgn)])
def Y9(k:Key)(n:QaZ)(h1:δ[i]? = some QpB)(h2:b5 X CL b e2 δ (N9 k) δ)(F:bG X CL b e3 δ (.sh d) δ){e:EQ}(g:if (kN aO k).isSome=true then e=aO else e=vU aO k d)(E:QxI)
  (I:attributeBase Qb9 "setdefault" X.env (eval Qb9 X.env)=eval Qb9 X.env:=by rfl)
  (C:((backTo pos (starEach [e2,e3] X.env)).all QiX&&(backToKw pos Qh3).all Qh7&&decide ([e2,e3].length+([]:List Keyword).length+Qhe<30))=true:=by rfl)
  (c:(pa.endLine==pos.line)=true:=by rfl) (s:starEach [e2,e3] X.env=(false,eval e2 X.env)::starEach [e3] X.env:=by exact aZ rfl) (B:AC X e3 []:=by exact aZ rfl) (L:(backTo pos (starEach [e3] X.env)).any (·.1)=false:=by rfl) :
  ue X CL b (.Call (.Attribute Qb9 "setdefault" pa) [e2,e3] [] pos) δ (.sh .any) (δ.set i (some (.jq e))):=λH Z U ts vs Q S kk=>
 bU (Y7 Qfy (bE bX (bE bX cT B) s) I C c s L) (by
  obtain⟨v0,e0,r⟩:=S.look h1;rw[T.dJ]at r;cases r with
  | @jq a l _ j z=>
   refine#[_,e0,a,l,rfl,j,h2 H Z U _ _ _ S λv2 H2 Z2 p k2 K A=>F H2 Z2 U _ _ _ K λy N Z3 o k3 m=>?_];obtain⟨v1,e1,q⟩:=m.look h1;rw[T.dJ]at q;rw[e0]at e1;cases e1;cases q with
   | @jq _ gs _ t w=>
    have hv:=yx (k:=k) w;have h:gs.length=aO.length:=w.length.symm;refine#[a,gs,k,y,rfl,by rw[A.key],t,by rw[h];exact oC E (by rw[fR];decide),λu D=>?_,λhn=>?_]
    .rw[D]at hv;rw[dU (by rw[<- hv];rfl)]at g;refine kk _ _ Z3 (p.trans o) ?_;rw[g,iE h1];exact m.pop.push (.any _)
    .rw[hn]at hv;rw[cq (by rw[<- hv];exact gm)]at g;obtain⟨a2,G,v,f,M,J⟩:=m.Ss k h1;rw[e0]at v;cases v;rw[t]at f;cases f;refine kk _ _ Z3 (p.trans o) ?_;rw[g];exact J.push (.any _))
end L3
namespace L3
open PySem PySem.Spec PyProof.Rows L2
abbrev _root_.DA:=List (Str×Int)
def qh{k a:Str}{z v:Int}{l:DA}(h:((a,v)::l).lookup k=some z):(k=a/\z=v)\/l.lookup k=some z:=by
 rw[h7]at h;split at h
 .rename_i e;exact .inl #[eq_of_beq e,(fO h).symm]
 .exact .inr h
end L3
namespace L2
open PySem PySem.Spec PyProof.Rows PySem.Builtin PySem.Builtin.Str
abbrev _root_.EU:=List (Str×AT)
variable{X:Cx}{i:Expr}{ty:TE}{pos px:Pos}{x:Str}{l:EU}
def uk(K:Frag)(es:Qg1)(l:EU):Prop:=∀k:Str,(l.lookup k=none/\findBy Value.isStrOf es.toArray k=none)\/∃ts b,l.lookup k=some ts/\findBy Value.isStrOf es.toArray k=some Qgl/\∀H:Hp,lS K H b Qem
def aeo{K:Frag}:uk K [] []:=λk=>.inl #[rfl,rfl]
def Za{h:Int}{y:Str}{t:Tok}{v:Value}{es:Qg1}{k:Str}:findBy Value.isStrOf ((#[h,.str y t,v]:DictEntry)::es).toArray k=if k=y then some v else findBy Value.isStrOf es.toArray k:=by
 unfold findBy;rw[List.find?_toArray,List.find?_toArray,mB];have e:Value.isStrOf k (.str y t)=decide (k=y):=by
  show(y==k)=_;by_cases h:k=y
  .subst h;rw[beq_self_eq_true,e6 rfl]
  .rw[fw h];exact mv.2 λz=>h z.symm
 show Option.map _ (match Value.isStrOf k (.str y t) with|true=>_|false=>_)=_;rw[e];by_cases h:k=y
 .rw[e6 h,dU h];rfl
 .rw[fw h,cq h]
def qj{K:Frag}{h:Int}{y:Str}{t:Tok}{b:Addr}{es:Qg1}{ts:AT}(hb:∀H:Hp,lS K H b Qem)(r:uk K es l):uk K (#[h,.str y t,.ref b]::es) ((y,ts)::l):=λk=>by
 rw[Za,h7];by_cases e:k=y
 .rw[dU e,i3.2 e];exact .inr #[ts,b,rfl,rfl,hb]
 .rw[cq e,mv.2 e];exact r k
def GE(X:Cx)(x:Str)(l:EU):Prop:=∃(a:Addr) (es:Qg1) (n:Nat),X.mg x=some Qab/\QbO=false/\X.K.lookup a=some #[.type "dict",none,.dict es.toArray n,#[]]/\KeysLit X.w.params es/\uk X.K es l
def Nq{K:Frag}{ts:AT}{b:Addr}{od:Bi}{its:D2}{n:Nat}{sl:Cc}(h2:QqQ)(c:Qm7)(a:QuR):∀H:Hp,lS K H b Qem:=λH=>.inr #[_,its,n,h2,rfl,rfl,c,a]
def aep(hm:Qkf)(p:Qad)(hi:QdT)(j:HC i)(hd:AD x:=by decide) :
  PE X Qtk (λU H Q=>ty U H λy H1=>∃(k:Str) (ts:AT),y=.str k/\l.lookup k=some ts/\∀b,(∀H:Hp,lS X.K H b Qem)->Q Qgl H1):=by
 intro pins s U H Q I h;obtain⟨a,es,n,hm,g,m,o,hf⟩:=hm;refine B7 zp.lookup j (iB I p hm (cS Qee λr s2 zz=>?_) hd);obtain⟨y,H2,c,f,k,ts,rfl,hz,q⟩:=zz;obtain⟨t,rfl⟩:=f;have mp:=mapOf_K (prog:=X.prog) (w:=X.w) c.nS m (by simpa using o);obtain⟨e,_⟩|⟨d,b,e,e2,hb⟩:=hf k
 .rw[hz]at e;cases e
 .rw[hz]at e;cases e;exact#[mp.typeIs,wpAny_getItem_of Qlk mp e2 #[.ref b,H2,c.tok _,rfl,q b hb]]
def aeq(hm:Qkf)(o:Qad)(hi:QdT)(hd:AD x:=by decide) :
  PC X .In i Qb9 (λU H Q=>ty U H λy H1=>∃k:Str,y=.str k/\Q (.bl (l.lookup k).isSome) H1):=by
 intro pins s U H Q I h;obtain⟨a,es,n,hm,c,j,m,hf⟩:=hm;refine cS Qee λp s1 zz=>?_;obtain⟨y,H1,d,g,k,rfl,q⟩:=zz;obtain⟨t,rfl⟩:=g;refine iB d o hm ?_ hd;refine wpAny_in_of Qlk c (mapOf_K (prog:=X.prog) (w:=X.w) d.nS j (by simpa using m)) ?_;refine#[.bl (l.lookup k).isSome,H1,d.tok _,?_,q];obtain⟨e,e2⟩|⟨f,b,e,e2,_⟩:=hf k
 .rw[e,e2];rfl
 .rw[e,e2];rfl
end L2
namespace L3
open PySem PySem.Spec PyProof.Rows L2 PySem.Builtin PySem.Builtin.Str
variable{X:Cx}{CL:BM}{b:Bx}{e:Expr}{δ δ1:Ap}{pos px:Pos}{x k:Str}{l:EU}
def aer(hm:Qkf)(d:Qad)(h:Qlq)(hd:AD x:=by decide):m5 X CL b (.Compare e [.In] [.Name x px] pos) δ (l.lookup k).isSome δ1:=λH Z U ts vs Q S kk=>
 sP (BR (aeq hm d bX hd) rfl) (h H Z U ts vs _ S λv H1 Z1 a k1 f c=>#[k,c.sc rfl,_,rfl,kk H1 Z1 a k1 f])
def aes{ts:AT}(hm:Qkf)(f:Qad)(h:Qlq)(hf:l.lookup k=some ts)(d:HC e:=by exactλ_ _=>rfl)(hd:AD x:=by decide):bG X CL b Qtl δ (.sh (.tup QnT)) δ1:=λH Z U us vs Q S kk=>
 bU (aep hm f bX d hd) (h H Z U us vs _ S λv H1 Z1 a k1 g c=>#[k,ts,c.sc rfl,hf,λi hb=>kk _ H1 Z1 a k1 (g.push (.tup (hb Z1) (aF.Bg ts)))])
variable{o:Expr}{δ2:Ap}{apos:Pos}
def Oz:o8 X "str.split" (λx vs H Q=>∃z y,x=.str z/\vs=[.str y]/\Qja=false/\z.length<=sizeLine/\(Txt.split z y).length<=sizeLine/\∀p,H p=none->Q Qbw (upd H p (.lst ((Txt.split z y).map V.str)))):=by
 intro pins s U H x vs v us Q I c d h;obtain⟨z,y,rfl,rfl,b,hz,hp,q⟩:=h;obtain⟨t,rfl⟩:=c;obtain⟨u,rfl,f⟩:=d.one;obtain⟨t',rfl⟩:=f;by_cases h1:(decide Qvh || decide Qwn)=true
 .have e:Txt.split z y=[z]:=by unfold Txt.split;rw[dU h1]
  rw[e]at q;exact n4 F.slot_str_split Qf9 xc QjT (meets_str_split_cannot_occur z y t t' h1) #[.ref _,_,I.Ro (ys:=[V.str z]) (its:=[.str z t]) QkN (by rw[fR];exact eL rfl),rfl,q _ I.fresh]
 .have h1:(decide Qvh || decide Qwn)=false:=by simpa using h1
  by_cases a:(occurrences z y 0 z.length (z.length+1)).isEmpty=true
  .have e:Txt.split z y=[z]:=by unfold Txt.split;rw[cq (by rw[h1];exact gm),dU a]
   rw[e]at q;exact n4 F.slot_str_split Qf9 xc QjT (meets_str_split_not_found z y t t' h1 b a) #[.ref _,_,I.Ro (ys:=[V.str z]) (its:=[.str z t]) QkN (by rw[fR];exact eL rfl),rfl,q _ I.fresh]
  .have a:(occurrences z y 0 z.length (z.length+1)).isEmpty=false:=by simpa using a
   have e:Txt.split z y=splitM z y:=by unfold Txt.split splitM;rw[cq (by rw[h1];exact gm),cq (by rw[a];exact gm)]
   rw[e]at q hp;exact n4 F.slot_str_split Qf9 xc QjT (meets_str_split_sep z y t t' h1 b a hz hp) #[.ref _,_,I.Ro (its:=strsFrom s.toks (splitM z y)) Qvc (by rw[eu];exact hp),rfl,q _ I.fresh]
def uM{z y:Str}{l:AT}(h1:Qff)(h2:QgZ)(n:Qja=false)(hz:QgY)(q:Txt.split z y=l)(hp:QxH)
  (r:QqW:=by rfl)
  (m:Qfg:=by rfl)
  (a:Qfh:=by rfl) (f:QaD:=by exact aZ rfl) :
  bG X CL b QqP δ (.lst ((l.map L3.D.str).map T.sh)) δ2:=λH Z U ts vs Q S k=>
 bU (qN q0 PySem.F.slot_str_split PySem.F.type_str_split Oz bX Qok r m a f rfl)
  (h1 H Z U ts vs _ S λv1 H1 Z1 h k1 u j=>by
   have e1:=j.sc rfl;subst e1;refine#[rfl,h2 H1 Z1 U ts vs _ u λv2 H2 Z2 g k2 t i=>?_];have e2:=i.sc rfl;subst e2;subst q;refine#[z,y,rfl,rfl,n,hz,hp,λp d=>?_];have rc:aF X.K CL Z2 ((Txt.split z y).map L3.D.str) ((Txt.split z y).map V.str):=aF.Bg _;obtain⟨c,s⟩:=(bP.nX rc t).rP (g0:=[]) W2 d;exact k _ _ _ Qf4 Qd8 s)
end L3
namespace L3
open PySem PySem.Spec PyProof.Rows L2
section
variable{X:Cx}{CL:BM}{b:Bx}{δ:Ap}{pos:Pos}{x:Str}{d:D}
def ai{i:Int}{j:Nat}:b5 X CL b QlC δ (.int i) δ:=ak uG
def aD{j:Nat}:b5 X CL b QlI δ (.str x) δ:=ak bQ
def aL{n:Nat}(h:Nat.ble n 1000=true:=by rfl):n<=sizeLine:=gZ h
variable{α:Type}{l:QR}{u0 u1 u2 v:α}
def dP:sA (v::l) 0=some v:=gq rfl
def eV:sA (u0::v::l) 1=some v:=gq rfl
def gS:sA (u0::u1::v::l) 2=some v:=gq rfl
def yI:sA (u0::u1::u2::v::l) 3=some v:=gq rfl
section
variable{scope:Scope}{Nc:AT}{C:Addr}{s:Qr}{H:Hp}{fp:BY}(i:Nat)
def An(h1:Nc[i]? = some x:=by rfl)(h2:Qk9:=by decide +kernel)(hd:AD x:=by decide)(iA:AE x:=by decide):Vn Qbg i x:=RV h1 h2 hd iA
def Ao(h1:Nc[i]? = some x:=by rfl)(h2:Qtf:=by decide +kernel)(hd:AD x:=by decide)(iA:AE x:=by decide):Vn Qbg i x:=adH h1 h2 hd iA
def eU(h:δ[i]? = some Qca:=by rfl)(n:Vn Qbg i x:=by exact An _):b5 Qbg CL b QaA δ d δ:=ak (v_ n h)
def oV(h:δ[i]? = some Qca:=by rfl)(n:Vn Qbg i x:=by exact Ao _):b5 Qbg CL b QaA δ d δ:=ak (v_ n h)
def iY(h2:Qrn:=by decide +kernel):Gl Qbg x:=Yt h2
end
def OB{K:Frag}{ts:AT}{b:Addr}{od:Bi}{its:D2}{n:Nat}{sl:Cc}(h2:QqQ)(c:Qm7:=by exact gZ rfl)(a:QuR:=by repeat (first|exact .nil|refine .cons #[_,rfl] ?_))(H:Hp):lS K H b Qem:=L2.Nq h2 c a H
abbrev Dds(X:Cx)(CL:BM)(b:Bx)(st:Stmt)(N:AT){A:Type}(arg:Qae)(Pre:Q4)(res:QaM):Prop:=∀ ⦃a:A⦄,Pre a->cK X CL b Qbb Qdb {nx:=λ_=>res a=.sh .non,rt:=λc _=>c=res a}
end
abbrev IsC(X:Cx)(s:Str):Prop:=X.env.kindOf s=some .cell
structure Wq(n:Nat)(p:Prop):Prop where
 h:p
structure Zb(K:Frag)(x:Str)(st:Stmt)(f:Addr)(fd:QaK):Prop extends Qz K x x st f fd where
 m:Lj K x f
 dn:fd.defaults=.none
structure Zc(K:Frag)(C:Addr)(x qual:Str)(st:Stmt)(f:Addr)(fd:QaK):Prop extends Qz K x qual st f fd where
 a:findIn K QS x=some Qcy
 i:isFn K Qar=true
 dn:fd.defaults=.none
variable{K:Frag}{x:Str}{st:Stmt}{f:Addr}{fd:QaK}{ps:AT}
theorem Zb.binds(F:Qi6)
  (h:∀(kV doc pm:Value) (an:Bi) (eS ct:Value) (us:B0),us.length=ps.length->bindArgs QkA #[us,[]]=pure QcG):Binds K fd ps []:=F.1.binds F.dn h
variable{C:Addr}{qual:Str}
theorem Zc.binds(F:Qvi)
  (h:∀(kV doc pm:Value) (an:Bi) (eS ct:Value) (us:B0),us.length=ps.length->bindArgs Qfl #[us,[]]=pure QcG):Binds K fd ps []:=F.1.binds F.dn h
variable{A:Type}
abbrev Lk(X:Cx)(CL:BM)(b:Bx)(st:Stmt)(N:AT)(arg:A->Bz)(Pre:Q4)(res:QaM)(out:A->Bz):Prop:=
 ∀a,Pre a->cK X CL b Qbb Qn3 {nx:=λδ=>res a=.sh .non/\Keeps δ (out a),rt:=λc δ=>c=res a/\Keeps δ (out a)}
section
variable{oc kV doc pm eS ct:Value}{od an:Bi}{Ed:Cc}
def fn1(m:Qtm)(l:Qq9)(c:codeIn K eS x=true)(k:Qit):Zb K x st f QkA:=#[Rr l c k,m,rfl]
def fn2(a:findIn K QS x=some Qcy)(i:isFn K Qar=true)(l:Qre)(c:Qmy)(k:Qit):Zc K C x qual st f Qfl:=#[Rr l c k,a,i,rfl]
end
abbrev yJ(x qual:Str)(st:Stmt)(ps:AT):Prop:=∀(kV doc pm:Value) (an:Bi) (eS ct:Value),Bm ps.length λus=>bindArgs (W.fnOf x qual (gP st) Qbb Qas Value.none kV doc pm an eS ct) {pos:=us}=pure QcG
def Np(P:Q1)(w:World)(mg:BN)(base:Heap){K:Frag}{h:Heap}(CL:BM)(j:K.In h)(G:Qik){x:Str}{st:Stmt}{f:Addr}{fd:QaK}{N ps:AT}(k:Nat){A:Type}(arg:Qae)(Pre:Q4)(res:QaM)(F:Qi6)(S:QcU)
  (hb:∀{eS:Value} {i:Qat} {outer:Cn} {s:Qr} {H:Hp} {E:XK} {b:Bx} {a:A},dX k QqA->EF (mY uE P w K mg base N x Qas f eS i outer s H E).Xl->Pre a →
   cK (mY uE P w K mg base N x Qas f eS i outer s H E).Xl CL b Qbb Qdb {nx:=λ_=>res a=.sh .non,rt:=λt _=>t=res a})
  (q:QoE:=by(repeat intro _);rfl) :
  ∃f fd g,e9 P w K mg base uE Qac f fd g QrQ/\mg x=some Qar/\keepIn K Qar=true/\Binds K fd g []:=#[f,fd,ps,yi F.1 S λ_ _ _ _ _ _ _ _ _ r p=>hb r #[#[S.nd,rfl,.never],r.units] p,gr j G F.m,F.kp,F.binds λa b c d e f=>yH QiS]
section
variable{X:Cx}{CL:BM}{b:Bx}{δ δ1:Ap}{e:Expr}{t:T}{D:cM}{pa pb pc:Pos}{i:Nat}{c f:Str}{dm:CI}{gs:B1}{a:Addr}
def nB(m:Qol)(n:QnK)(nm:QaZ)(h:Qmt)(h1:δ1[i]? = some (some (.pin a (.ins c gs))))(l:gs.length<1000)(k:cK X CL b dm (δ1.set i (some (.pin a (.ins c (Ak f t gs))))) D)
  (j:swapsWith e (some (.Attribute (.Name x pa) f pb)) pc.line X.env=pure false:=by rfl):cK X CL b (.Assign [.Attribute (.Name x pa) f pb] e pc::dm) δ D:=bI λH Z U ts vs E S M=>
 mZ (ada (iT nm.hi nm.hv nm.hd nm.iA) bX j) (h H Z U ts vs _ S λv H' Z' z d=>by
  obtain⟨v0,e0,_⟩:=d.look h1;obtain⟨q,dx,ws,o,g,hlen,r⟩:=d.Oq (p:=[]) (f:=f) e0 h1 rfl rfl;exact#[_,e0,q,CL c,dx,ws,o,g,m,n,hlen▸l,M.nx _ U _ Z' z r k])
end
variable{X:Cx}
def Nl{W:XK}:Passes Qdj QP W:=λpins U H s ev s' I h=>by
 obtain⟨e,C,d,B,H',rfl,g,f,c,b,a⟩:=h;exact#[e,C,d,pins,U,H,H',s,B,_,rfl,I.dN,a,g,f,b,c]
def T.bad:T:=.pin 0 QeJ
section
variable{CL:BM}{b:Bx}{e o:Expr}{D:cM}{W:XK}{c:Str}{k n:Nat}{Pre:Q4}{exc:Qa1}
def RS(K:Frag)(CL:BM)(n:Nat)(arg:A->Bz)(Pre:Q4)(exc:Qa1):Sp:=λvs H _ E=>
 ∃(W:Hp) (a:A) (gp:BY),aA W (Cm H gp)/\(∀c o,H c=some o->iQ o=true->W c=some o)/\aQ K CL H W Qdm vs gp/\gp.Nodup/\(arg a).length=n/\Pre a/\j4 CL W/\eW #[Cm H gp,W] E Qc9 (exc a).2
theorem Zd{P:Q1}{w:World}{mg:BN}{base:Heap}{N:AT}{arg:A->Bz}(F:QdS)(S:QcU)
  (hb:∀(eS:Value) (e:Qat) (outer:Cn) (s:Qr) (H:Hp) (E:XK) (b:Bx) (a:A),dX k (e.deeper Qfm)->Pre a->eW b E Qc9 (exc a).2 →
   cK ((mY Qci P w K mg base N qual Qas f eS e outer s H E).et (XE (mY Qci P w K mg base N qual Qas f eS e outer s H E) E)) CL b Qbb Qn3 {nx:=λ_=>False,rt:=λ_ _=>False}) :
  e9 P w K mg base Qci Qac f fd ps (RS K CL ps.length arg Pre exc):=by
 obtain⟨dV,oc,od,kV,doc,pm,an,eS,ct,Ed,rfl,lk,iA⟩:=F.ex;refine Rh lk iA S (λvs H Q E h=>?_) λe outer s H vs Q E j h=>?_
 .obtain⟨W,a,gp,_,_,r,_,i,_⟩:=h;rw[<- r.length];exact i
 .obtain⟨W,a,gp,g,tp,r,nd,i,hp,tb,l⟩:=h;have wn:∀c∈gp,W c=none:=λc d=>by
   cases q:W c with
   | none=>rfl
   | some o=>exact absurd d (uL (g c o q)).1
  have h0:fK K CL H W Qn3 (start N vs) gp:=by
   unfold yC L2.start;rw[<- r.length];exact EG _ r
  have h1:∀c o,W c=some o->W c=none->Cm H gp c=none:=λc o q z=>by grind
  have body:=hb eS e outer s H E #[Cm H gp,W] a j hp l H W _ [] [] {nx:=λ_ _=>False,rt:=λ_ _=>False} #[#[gp,[],h0,.nil,by rw[ft];exact nd,λc d=>by rw[ft]at d;exact#[wn c d,Lc d]],λc o q=>(uL q).2,.refl _,λc o q=>(uL (g c o q)).2,h1,tp,tb] #[λ_ _ _ _ _ _ z=>z.elim,λ_ _ _ _ _ _ _ _ z=>z.elim,λ_ _ _ _ _ _ z=>z.elim,λ_ _ _ _ _ _ z=>z.elim];refine#[ _,RB,λpins s1 I=>?_];refine hJ (body pins s1 (I.et _)) (λfl s' z=>?_) λev s' z=>ad9 rfl rfl rfl rfl z;cases fl with
  | next=>obtain⟨_,_,_,q⟩:=z;exact q.elim
  | brk=>obtain⟨_,_,_,q⟩:=z;exact q.elim
  | cont=>obtain⟨_,_,_,q⟩:=z;exact q.elim
  | ret u=>obtain⟨_,_,_,_,_,q⟩:=z;exact q.elim
def aeu{P:Q1}{w:World}{mg:BN}{base:Heap}{N:AT}{arg:Qae}(F:QdS)(S:QcU)
  (hb:∀(eS:Value) (c:Qat) (outer:Cn) (s:Qr) (H:Hp) (E:XK) (b:Bx) (a:A),dX k Qwh->Pre a->eW b E Qc9 (exc a).2 →
   cK ((mY Qci P w K mg base N qual Qas f eS c outer s H E).et (XE (mY Qci P w K mg base N qual Qas f eS c outer s H E) E)) CL b Qbb Qdb {nx:=λ_=>False,rt:=λ_ _=>False}) :
  e9 P w K mg base Qci Qac f fd ps (m2 K CL ps.length arg Pre exc):=
 (Zd (arg:=λa=>(arg a).map T.sh) F S λeS c outer s H E b a h hp d=>by
  unfold yC;rw[ey,eu];exact hb eS c outer s H E b a h hp d).imp λvs H Q E z=>by
  obtain⟨W,a,g,tp,r,i,hp,tb,d⟩:=z;have e:Cm H []=H:=by funext;simp[Cm]
  exact#[W,a,[],e▸g,tp,aQ.Pd r,.nil,by simpa using i,hp,tb,e.symm▸d]
end
variable{CL:BM}{b:Bx}{δ δ1:Ap}{e1:Expr}{pos:Pos}{c:Str}{fs:List (Str×L3.D)}
def Ze{d:Nat}{p2:Pos}(h:b5 X CL b e1 δ (.ins c fs) δ1):m5 X CL b QkF δ false δ1:=λH Z U ts vs Q S k=>
 sP (BR (G9 bX)) (h H Z U ts vs _ S λv H1 Z1 a k1 e r=>by
   obtain⟨_,_,_,rfl,_,_⟩:=r.NC;exact#[_,rfl,by simpa using k H1 Z1 a k1 e])
structure EL(X:Cx)(N G:AT):Prop extends EF X where
 ll:∀(i:Nat) {x:Str} (_:N[i]? = some x:=by rfl),Ln X i x
 gg:∀(i:Nat) {x:Str} (_:G[i]? = some x:=by rfl),Gl X x
noncomputable abbrev HY(N:AT):Bool:=N.all λx=>!(x==("__debug__":Str)) && !(x==("__classdict__":Str))
variable{N G:AT}{tb:Co}
def xr{sc:Scope}(h:pl sc tb=true){k:NameKind}(m:(x,k)∈tb):sc.names.lookup x=some k:=by
 obtain⟨i,hi⟩:=List.mem_iff_getElem?.1 m;exact Yv h i hi
def cE(u:EF X)(c:pl X.env.scope tb=true)(a:X.N=N:=by rfl)(hf:∀x,X.fn x=true:=by exactλ_=>rfl)(hd:HY N=true:=by decide +kernel)
  (b:∀x∈N,(x,.local)∈tb\/(x,.cell)∈tb:=by decide +kernel) (d:∀x∈G,(x,.globalImplicit)∈tb:=by decide +kernel):EL X N G:=
 #[u,λi x h=>by
  have:=hB.1 hd _ (gc h);simp only[fD,kq]at this;obtain m|m:=b x (gc h)
  .exact Pe (by rw[a];exact h) (xr c m) (hf x) this.1 this.2
  .exact Pf (by rw[a];exact h) (xr c m) (hf x) this.1 this.2,λi x h=>xr c (d x (gc h))]
abbrev QG(K:Frag)(x:Str):Prop:=nsIn K mainGlobals x=some none
abbrev sY(K:Frag)(x:Str)(n:Int)(t:Tok):Prop:=nsIn K mainGlobals x=some (some (.int n t))
theorem Zb.bA(F:Qi6)(ps:AT)(q:QoE:=by(repeat intro _);rfl):Binds K fd ps []:=F.binds λa b c d e f=>yH QiS
theorem Zc.bA(F:Qvi)(ps:AT)(q:yJ x qual st ps:=by(repeat intro _);rfl):Binds K fd ps []:=F.binds λa b c d e f=>yH QiS
structure A1(X:Cx)(CL:BM)(x:Str)(k n:Nat){A:Type}(arg:Qae)(Pre:Q4)(exc:Qa1)(i:Int):Prop where
 ex:∃f fd ps,e9 X.prog X.w X.K X.mg X.base Qdj k f fd ps QhL/\X.mg x=some Qar/\keepIn X.K Qar=true/\∃u,Binds X.K fd ps [.int i u]
 room:dX k X.A
variable{n:Nat}
theorem A1.pin{p:At}{k:Nat}{arg:Qae}{Pre:Q4}{exc:Qa1}{i:Int}(F:A1 X CL x k n arg Pre exc i):A1 QcD CL x k n arg Pre exc i:=#[F.ex,F.room]
end L3
namespace L2
open PySem PySem.Spec PyProof.Rows
abbrev Cx.re(Y:Cx)(P:Q1)(w:World)(K:Frag)(mg:BN)(base:Heap):Cx:={Y with prog:=P,w:=w,K:=K,mg:=mg,base:=base}
end L2
namespace L3
open PySem PySem.Spec PyProof.Rows L2
variable{A:Type}
abbrev PH(S:Qg2):A->BC:=λa=>(S a).1
abbrev Pc(S:Qg2):A->Prop:=λa=>(S a).2.1
abbrev OT(S:Qg2):A->T:=λa=>(S a).2.2
abbrev DdS(X:Cx)(CL:BM)(b:Bx)(st:Stmt)(N:AT)(S:Qg2):Prop:=∀ ⦃a:A⦄,(S a).2.1->cK X CL b Qbb (entry N (S a).1) {nx:=λ_=>(S a).2.2=.sh .non,rt:=λc _=>c=(S a).2.2}
abbrev OE(X:Cx)(CL:BM)(x:Str)(k n:Nat)(S:Qg2):Prop:=Fc X CL x k n Qud QtU (λa=>(S a).2.2)
structure Sq(A:Type) where
 x:Str
 k:Nat
 m:Nat
 st:Stmt
 N:AT
 f:A->BC×Prop×T
abbrev jM(X:Cx)(CL:BM)(b:Bx)(S:Sq A):Prop:=DdS X CL b S.st S.N S.f
abbrev jS(X:Cx)(CL:BM)(S:Sq A):Prop:=OE X CL S.x S.k S.m S.f
abbrev OD(st:Stmt):Co:=(aE st).names
def gN(st:Stmt):AT:=(OD st).filterMap fun|(x,.globalImplicit)=>some x|_=>none
def cN(st:Stmt):AT:=(OD st).filterMap fun|(x,.cell)=>some x|_=>none
def aew{st:Stmt}:∀x∈gN st,(x,NameKind.globalImplicit)∈OD st:=λx h=>by
 obtain⟨⟨y,k⟩,m,e⟩:=q8.1 h;cases k<;>cases e;exact m
def aex{st:Stmt}:∀x∈cN st,(x,NameKind.cell)∈OD st:=λx h=>by
 obtain⟨⟨y,k⟩,m,e⟩:=q8.1 h;cases k<;>cases e;exact m
section
variable{X:Cx}{CL:BM}{b:Bx}{δ δ1:Ap}{e:Expr}{x:Str}{pos:Pos}{k n i:Nat}{P:Qfb}{D:cM}{dm:CI}
theorem vO.to{a:Qfb}(h:Qih)(k:∀t,P t->a t):vO X CL b e δ a δ1:=λH Z U ts vs Q S kk=>h H Z U ts vs Q S λt v H' Z' p=>kk t v H' Z' (k t p)
def HZ{pos':Pos}(g:Gx X)(n:Qa0)(h:Qih)(k:∀t,P t->cK X CL b dm (δ1.set i QaJ) D)(c:QbH:=by exact eL rfl)(a:Qcn:=by rfl) :
  cK X CL b Qfs δ D:=bI (xh i h k c g.nd n.hi n.loc a n.hf)
end
def He(st:Stmt)(N P:AT):Bool:=
 (aE st).kind == .function && !(aE st).isCoroutine && !(aE st).isGenerator&&decide N.Nodup&&N.take P.length==P&&P.all (λx=>(OD st).lookup x==some .local || (OD st).lookup x==some .cell)&&(OD st).all (λy=>y.2 != .free)&&pl Qas (OD st)&&HY N&&N.all λx=>decide ((x,NameKind.local)∈OD st) || decide ((x,NameKind.cell)∈OD st)
structure x7(st:Stmt)(N P:AT):Prop where
 s:d9 N P Qas
 c:pl Qas (OD st)=true
 d:HY N=true
 l:∀x∈N,(x,.local)∈OD st\/(x,.cell)∈OD st
def Ic{st:Stmt}{N P:AT}(h:He st N P=true):x7 st N P:=by
 unfold He at h;simp only[fD,kq,hB,my,i3,hq,bne_iff_ne]at h;obtain⟨⟨⟨⟨⟨⟨⟨⟨⟨h1,h2⟩,j⟩,i⟩,g⟩,f⟩,e⟩,d⟩,c⟩,b⟩:=h;exact#[#[h1,h2,j,i,g,f,e],d,List.all_eq_true.2 λx a=>by simpa using c x a,b]
end L3
namespace L2
open PySem PySem.Spec PyProof.Rows
def lE(e C:Addr)(d:Bi)(h:Heap):Prop:=∃t:Value,h.get? e=some {cls:=.ref C,dict:=d,data:=.fields (List.toArray [t,.none,.none,.none,.bool false,.none])}
theorem lE.ok{P:Q1}{w:World}{H:Hp}{e C:Addr}{d:Bi}{h:Heap}(x:lE e C d h):fJ P w H h e (.ext (lE e C d)):=by
 obtain⟨t,q⟩:=id x;exact#[x,#[_,q],λh1 h2 ⟨t,q⟩ k=>#[t,k _ q]]
def EK:B0->Bool
 | .ref _::r=>EK r
 | l=>l==ny
structure yK(K:Frag)(C:Addr)(f:Str):Prop where
 sa:findIn K QS "__setattr__" = some (some Qhh)
 ov:((clsIn K C).any λcd=>cd.hasDict&&EK cd.mro)=true
 tk:findIn K QS f=some none
section
open PySem.W Builtin Builtin.ObjectAttr
variable{prog:Q1}{w:World}{A:Qat}{E:BB}{s:Qr}{K:Frag}{e C:Addr}{f:Str}{v:Value}{ox:Obj}
theorem ER(self:Value):∀{l:B0},EK l=true->refuseLoop self "__setattr__" l=pure ()
 | .ref c::r,q=>by
  rw[refuseLoop_ref];exact ER self q
 | [],q=>rfl
 | .type n::r,q=>i3.1 q▸F.store_ValueError.passes self
 | .int a b::r,q=>by cases q
 | .str a b :: r, q => by cases q
 | .none::r,q=>by cases q
theorem Bj:∀{l:B0},EK l=true->l.contains QiA=true
 | .ref c::r,q=>by rw[List.contains_cons,Bj (l:=r) q,Bool.or_true]
 | [],q=>by cases q
 | .type n::r,q=>by
  rw[i3.1 q];decide
 | .int a b::r,q=>by cases q
 | .str a b :: r, q => by cases q
 | .none::r,q=>by cases q
theorem OG{tk:Tok}{R:Qh1}(X:QgD)(S:yK K C f)(d:s.heap.get? e=some ox)(k:ox.cls=.ref C)(hd:ox.dict=none)(hf:∃vs,ox.data=.fields vs)
  (q:∀h' tk,h'.get? e=some {ox with dict:=some s.heap.objs.size}->h'.Ns1 s.heap.objs.size Qqw->(∀b o,b≠e->s.heap.get? b=some o->h'.get? b=some o)->R Qvf {s with heap:=h',toks:=tk}) :
  codeAny Qaa A (.call Qhh #[[.ref e,.str f tk,v],[]]) R s:=by
 obtain⟨vs,hf⟩:=hf;have I:InstAt s.heap e ox C none:=#[d,k,by unfold notCls;rw[hf],by rw[hd];trivial];have c:=F.store_object;obtain⟨cd,iA,g⟩:=any_some S.ov;rw[fD]at g;have u:cd.mro.contains QiA=true:=Bj g.2;have ne:cd.mro.isEmpty=false:=by grind
 have sub:Looks Qaa s.heap (isInstance QaB QiA) true:=I.type.andThen (looks_mroIn X (by unfold mroIn;rw[iA,Option.bind_some,cq (by rw[ne];decide),u]));refine codeAny_call_builtin c.slot.plain c.entry (@check_slot Qaa _ _ s "object.__setattr__" "object" "__setattr__" (.ref e) [.str f tk,v] [] _ c.kind c.split sub (c.args QaB (.str f tk) v) ?_);have hm:Looks Qaa s.heap (mroOf QS) cd.mro:=(looks_clsIn X iA).andThen .now;rw[osa_eq,refuse_eq];refine eM (eM (I.type.here (eM (hm.here ?_))));rw[ER _ g.2];refine gL (eM (I.type.here (eM ((looks_findIn X S.tk).here (eM (gL ?_))))));obtain⟨oc,od,n,Ed⟩:=ox;dsimp only at k hd hf;subst k hd hf;refine eM (gL (eM (eM (wpAny_loadPart d (eM ((looks_clsIn X iA).here ?_))))));rw[g.1];have lt:=fA d;have m:e≠s.heap.objs.size:=hG lt;rw[cq Wp];have a:=gx {cls:=.type "dict",data:=.dict #[]} d;refine eM (wpAny_alloc' (eM (wpAny_update' a (gL ?_))));have gd:((s.heap.push {cls:=.type "dict",data:=.dict #[]}).update e λo=>{cls:=o.cls,dict:=some s.heap.objs.size,data:=o.data,slots:=o.slots}).Ns s.heap.objs.size λ_=>none:=
  #[_,#[],_,(Heap.get?_update_ne _ _ _ _ m.symm).trans (Heap.get?_push_at rfl rfl),rfl,(λy p=>absurd p W2),λ_=>rfl]
 unfold storeInDict newKeyGuard;refine eM (gL (eM (wpAny_nsSet1 (Heap.Ns1.of_empty gd) λh' hn l=>?_)));obtain⟨x,r,t,h,i,j⟩:=hn.count (PySem.Within.cons f v PySem.Within.nil);refine eM (wpAny_lookBehind h (i▸pastItsLine_dict (fg j (by rw[gv,List.length_nil,fR];lia))) (gL (q h' _ ?_ hn λb o hb z=>?_)))
 .exact(l.2 e m).trans (v8 _ a rfl)
 .exact(l.2 b (hG (fA z))).trans ((Heap.get?_update_ne _ _ _ _ hb).trans (gx _ z))
theorem Zf{Q:Qgz}(X:QgD)(S:yK K C f)(a:s.heap.get? e=some ox)(c:ox.cls=.ref C)(hd:ox.dict=none)(hf:∃vs,ox.data=.fields vs)
  (q:∀h' tk,h'.get? e=some {ox with dict:=some s.heap.objs.size}->h'.Ns1 s.heap.objs.size Qqw->(∀b o,b≠e->s.heap.get? b=some o->h'.get? b=some o)->Q () {s with heap:=h',toks:=tk}) :
  wpAny Qaa A (setAttr QaB f v) Q E s:=
 set_plain X (od:=none) #[a,c,by obtain⟨vs,hf⟩:=hf;unfold notCls;rw[hf],by simp_all ] S.sa (OG X S a c hd hf q)
end
variable{X:Cx}{pins:At}{U:St}{H:Hp}{s:Qr}{e C:Addr}{f:Str}{y:V}{u:Value}
theorem OI{A:Qat}{E:BB}{Q:Qgz}(I:QF)(he:H e=some Qc3)(S:yK X.K C f)(r:Qbl)
  (h:∀dx s',H dx=none->dx≠e->Inv X pins U QrY s'->Q () s'):wpAny Qy A (setAttr QaB f u) Q E s:=by
 obtain⟨⟨t,j⟩,_⟩:=I.bZ e _ he;have G:=I.bZ.fresh (eA _);have lt:=fA j;have d:∀{b:Addr},H b=none->b≠e:=λ{b} n z=>by lia
 have F:∀{b:Addr} {o:Obj},s.heap.get? b=some o->b≠s.heap.objs.size:=λ{b o} z=>hG (fA z);have D:∀{b:Addr} {o:HO},H b=some o->b≠s.heap.objs.size:=λ{b o} z y=>by simp_all
 refine Zf I.nS S j rfl rfl #[_,rfl] λh' tk i x a=>h _ _ G (qi lt) ?_;have out:∀{b:Addr},b≠e->b≠s.heap.objs.size->upd (upd H e (.ext (lE e C (some s.heap.objs.size)))) _ Qcb b=H b:=λ{b} p l=>by rw[ay l,ay p]
 have keep:∀{b:Addr} {o:HO},H b=some o->o ≠ .ext (lE e C none)->upd _ _ _ b=some o:=λ{b o} z n=>by
  rw[out Wc (D z)];exact z
 refine I.step (ch:=[]) QsJ (λb o _ _ _ z n=>a b o (d n) z) (λb o _ _ _ z n=>#[o.slots,a b o (d n) z]) (λb o _ z n=>(out (d n) (F z)).trans n) (λb o _ z=>?_) (λb xs z=>keep z W2) (λb o w z=>keep z W2) (λb ps z=>#[#[],by exact keep z W2])
  (λm hn=>hn.at' λo z=>a _ o (d I.free) z) (λb o z=>?_) I.bare
 .by_cases w:b=e
  .exact w▸#[_,i]
  .exact#[o,a b o w z]
 .by_cases w:b=s.heap.objs.size
  .subst w;rw[aM]at z;cases z;refine#[_,x,λg=>?_];by_cases k:g=f
   .rw[dU k,k];simp;exact r
   .rw[cq k];simp only[h7,mv.2 k,List.lookup_nil];trivial
  .rw[ay w]at z;by_cases v:b=e
   .subst v;rw[aM]at z;cases z;exact lE.ok #[t,i]
   .rw[ay v]at z;refine(I.bZ b o z).rL (λc B J k=>a c B ?_ k) (λc k=>keep k W2) (λc xs k=>keep k W2) λc q k=>keep k W2;lia
def Tf(C:Addr)(f:Str):Sp:=λvs H Q _=>∃(e:Addr) (y:V),vs=[.ref e,y]/\H e=some Qc3/\∀dx,H dx=none->dx≠e->Q .non QrY
def Zg{P:Q1}{w:World}{K:Frag}{mg:BN}{base:Heap}{qual n:Str}{st:Stmt}{d:Addr}{fd:QaK}{k:Nat}{c p2 b a:Pos}(F:Qz K n qual st d fd)(S:d9 ["self",f] ["self",f] Qas)
  (hb:bW st=[.Assign [.Attribute Qwo f p2] (.Name f b) a]) (T:yK K C f) (v0:QN Qas "self") (v1:QN Qas f) (d1:AD f) (d2:AE f)
  (l:∀env,swapsWith (.Name f b) (some (.Attribute Qwo f p2)) a.line env=pure false):e9 P w K mg base Qci Qac d fd ["self",f] (Tf C f):=by
 obtain⟨dV,oc,od,kV,doc,pm,an,eS,ct,Ed,rfl,lk,iA⟩:=F.ex;refine Rh lk iA S (λvs H Q E h=>?_) λt outer s H vs Q E r h=>#[_,L3.RB,?_]
 .obtain⟨e,y,rfl,_⟩:=h;rfl
 .obtain⟨e,y,rfl,he,q⟩:=h;rw[hb];refine L3.RC (xZ L3.yY L3.RB) λpins s1 I=>?_;refine plainObj_wpAny_Assign_Attribute (cS (iT (i:=1) rfl v1 d1 d2 pins s1 _ H (λv H1=>v=y/\H1=H) I #[y,rfl,rfl,rfl]) λu s2 zz=>?_) (l _);obtain⟨_,_,p,g,rfl,rfl⟩:=zz;refine cS (iT (i:=0) rfl v0 (rfl) (rfl) pins s2 _ _ (λv H1=>v=.ref e/\H1=_) p #[ _,rfl,rfl,rfl]) λov s3 zz=>?_;obtain⟨_,_,o,j,rfl,rfl⟩:=zz;obtain rfl:ov=Value.ref e:=j;exact OI o he T g λdx s4 n ne m=>#[_,_,m,L3.RC KC (q dx n ne)]
end L2
namespace L2
open PySem PySem.Spec PyProof.Rows
open Sem (wp)
structure CB(K:Frag)(C fI:Addr):Prop where
 ex:∃nm q N bs bm hdct sn sub ab col dd k0 k1 k2 k3 k5,K.lookup C=some Qd0/\nsOkIn K N=true/\nsIn K N "__init__" = some (some QeI)/\tailIn K ny bm=true
 fn:isFn K QeI=true
section
variable{prog:Q1}{w:World}{A:Qat}{E:BB}{h:Heap}{g:QnQ}{d:Drawn}{t:Nat}{os:OsState}{nm q:Str}{C N fI:Addr}{bs bm sub:B0}{hdct ab:Bool}{sn:AT}{col:Qkg}{dd:Bi}{k0 k1 k2 k3 k5:Dx}
def exc_type{i:BN}{rest:B0}{f:Obj}{Q:Fin->Shared->Prop}(T:OwnTail h ny bm)(c:h.get? C=some Qd0)(hn:h.Ns N i)(hi:i "__init__" = some QeI)(l:h.get? fI=some f)(m:f.cls=.type "function")(j:QvO)
  (k:∀h' e,Heap.MadeExcOf h h' e QS rest->wpAny Qaa A Qx4 (λr s'=>r=.none/\Q (.done (.ret QaB)) s') E #[h',g,d,t,os]) :
  wpAny Qaa A (Builtin.«type.__call__» #[.ref C::rest,[]]) Q E #[h,g,d,t,os]:=by
 have F:=zr
 repeat (first|with_reducible refine so c ?_|with_reducible refine wpAny_madeBy_exc c ?_|wp_step)
 refine codeAny_call_builtin_code (Code.quiet_builtin _ F.quiet) (wpAny_check_new_subT F T c (codeAny_exc_new_subT F T c ?_ j));have keeps:∀b o,h.get? b=some o->((h.push {cls:=.type "tuple",data:=.seq rest.toArray}).push {cls:=.ref C,data:=.fields (List.toArray [.ref h.objs.size,.none,.none,.none,.bool false,.none])}).get? b=some o:=λb o z=>gx _ (gx _ z);have he:((h.push {cls:=.type "tuple",data:=.seq rest.toArray}).push {cls:=.ref C,data:=.fields (List.toArray [.ref h.objs.size,.none,.none,.none,.bool false,.none])}).get? QxM=some {cls:=.ref C,data:=.fields (List.toArray [.ref h.objs.size,.none,.none,.none,.bool false,.none])}:=by heap_get
 have ct:(Value.ref C::bm).contains QS=true:=by simp
 have a:=keeps _ _ c;show wpAny _ _ _ _ _ _;unfold isInstance
 repeat (first|with_reducible refine so he ?_|(with_reducible refine wpAny_isSubtype_exc a ?_;rw[ct])|wp_step)
 show wpAny _ _ (typeLookup QS _) _ _ _;refine wpAny_typeLookup_tail a (hn.keeps keeps) (T.keeps keeps) F.mroIs F.init.lookup ?_;rw[hi];refine qe (eM ?_);unfold bindSpecial;refine eM (wpAny_typeOf (T:="function") #[_,keeps _ _ l,m] ?_);rw[dU Wp];refine gL (eM (hJ (k _ QxM #[keeps,vx (lr _),h.objs.size,he,vx (eA _),gx _ (Heap.get?_push_at rfl rfl)]) (λr s' z=>?_) λ_ _ x=>x));obtain⟨rfl,z⟩:=z
 wp_walk
 exact z
def Tg{c:BN}{rest:B0}{b:Obj}{Q:BB}(T:OwnTail h ny bm)(a:h.get? C=some Qd0)(hn:h.Ns N c)(hi:c "__init__" = some QeI)(i:h.get? fI=some b)(j:b.cls=.type "function")(f:QvO)
  (k:∀h' e,Heap.MadeExcOf h h' e QS rest->wpAny Qaa (A.under (.builtin "type.__call__" #[.ref C::rest,[]])) Qx4 (λr s'=>r=.none/\Q QaB s') E #[h',g,d,t,os]) :
  wpAny Qaa A (call QS rest) Q E #[h,g,d,t,os]:=by
 have f1:=tc_lookup;have f2:=tc_bind QS;have l:(#[h,g,d,t,os]:Shared).TypeIs QS "type":=#[_,a,rfl];refine wpAny_call (codeAny_of_tree ?_)
 repeat (any_goals (first|assumption|with_reducible refine so a ?_|wp_step))
 exact#[rfl,codeAny_call_builtin_at (Code.quiet_builtin _ Wl) entry_typeCall (wpAny_check_type_call_sub a (exc_type T a hn hi i j f k))]
end
variable{h:Heap}{e:Addr}
theorem oz.hide{P:Q1}{w:World}{H:Hp}{l:BY}{φ:Heap->Prop}(x:Qbc)(he:H e=some (.ext φ))(f:∀b∈l,b=e\/H b=none):oz P w (λb=>if b=e then none else H b) (hideAll h l):=λb o q=>by
 dsimp at q;have ne:b≠e:=λz=>by lia
 rw[cq ne]at q;have a:∀{c:Addr} {u:HO},H c=some u->u ≠ .ext φ->(if c=e then none else H c)=some u:=λ{c u} z n=>by
  rw[cq Wc];exact z
 refine(x b o q).rL (λc u d z=>og _ z λm=>?_) (λc z=>a z W2) (λc xs z=>a z W2) λc y z=>a z W2;obtain rfl|n:=f c m
 .obtain rfl|d:=d
  .exact ne rfl
  lia
 simp_all
section
variable{M:Model}{A:Qat}{E:BB}{s:Qr}{env:Env}{nm q:Str}{C N:Addr}{bs bm sub:B0}{hdct ab:Bool}{sn:AT}{col:Qkg}{dd:Bi}{k0 k1 k2 k3 k5:Dx}
def OJ{x:Sem Value}{Q:Qh9}(hb:bm.contains QlE=true)(c:QnY)
  (h:wpAny M A x (λv a=>∃e d t,v=.ref e/\a.heap.get? C=some Qd0/\a.heap.get? e=some {cls:=.ref C,dict:=d,data:=.fields (List.toArray [t,.none,.none,.none,.bool false,.none])}/\E QaB a) E s):wpAny M A (raiseStmt env (some x) none) Q E s:=by
 have g:(Value.ref C::bm).contains QlE=true:=‹_›;refine eM (hJ h (λv a z=>?_) W2);obtain⟨e,d,t,rfl,b,he,f⟩:=z
 repeat (first|with_reducible refine so he ?_|with_reducible refine so b ?_|(with_reducible refine wpAny_isSubtype_exc b ?_;rw[g])|wp_step)
 exact wpAny_raiseNew_none c f
end
variable{X:Cx}{pins:At}{U:St}{H:Hp}{s:Qr}{C:Addr}
theorem Inv.newExc{h':Heap}{r:B0}(I:QF)(hm:Heap.MadeExcOf s.heap h' e QS r):H e=none/\Inv X pins U (upd H e Qc3) {s with heap:=h'}:=by
 obtain⟨t,he,_⟩:=hm.there;have hn:H e=none:=by
  cases q:H e with
  | none=>rfl
  | some o=>
   obtain⟨u,z⟩:=(I.bZ e o q).got;rw[hm.new]at z;cases z
 have nb:∀{b:Addr} {o:Obj},s.heap.get? b=some o->b≠e:=λ{b o} z y=>by simp_all [hm.new]
 have a:∀{b:Addr} {o:HO},H b=some o->upd H e Qc3 b=some o:=λ{b o} z=>by
  rw[ay Wc];exact z
 refine#[hn,I.step QsJ (λb o _ _ _ z _=>hm.keeps b o z) (λb o _ _ _ z _=>#[ _,hm.keeps b o z]) (λb o _ z n=>(ay (nb z)).trans n) (λb o _ z=>#[o,hm.keeps b o z]) (λb xs z=>a z) (λb o w z=>a z) (λb ps z=>#[#[],a z ]) (λm hn=>hn.at' λo z=>hm.keeps _ o z) (λb o z=>?_) I.bare];by_cases w:b=e
 .subst w;rw[aM]at z;cases z;exact lE.ok #[_,he]
 .rw[ay w]at z;exact(I.bZ b o z).rL (λc u _ y=>hm.keeps c u y) (λc y=>a y) (λc xs y=>a y) λc y k=>a k
theorem Zh{K:Frag}{N:Addr}{n:Str}{v:Value}(X:K.In h)(e:nsIn K N n=some QaU):h.nsMap N n=some v:=by
 unfold nsIn at e;split at e
 .rename_i c d es a sl q;have:=X _ _ q;split at e
  .unfold Heap.nsMap;unfold nsFind findBy;simp_all
  lia
 lia
theorem Ie{W:XK}{x f:Str}{fI:Addr}{fd:QaK}{k:Nat}{np j3 pos:Pos}{arg:Expr}{D:Ends}(S7:QaL)(hg:Qad)(hm:QnJ)(O:CB X.K C fI)(hk:keepIn X.K QS=true)(F:e9 X.prog X.w X.K X.mg X.base Qdj k fI fd ["self",f] (Tf C f))(hb:Binds X.K fd ["self",f] [])(rm:Qjd)
  (J:L3.Ah QP [arg] U H λus H1=>∃y,us=[y]/\∀dx,H1 dx=none->W QS (some dx) (upd H1 dx Qcb))
  (hd:AD x:=by decide) (he:AC X arg []:=by rfl) :
  L3.RA QP (.Raise (some (.Call (.Name x np) [arg] [] j3)) none pos) D U H:=λpins s I=>by
 obtain⟨nm,q,N,bs,bm,hdct,sn,sub,ab,col,dd,k0,k1,k2,k3,k5,S,o2,o3,R⟩:=O.ex;obtain⟨B,o5,o6⟩:∃B,X.K.lookup fI=some B/\B.cls=.type "function":=by
  have:=i3.1 O.fn;unfold typeIn at this;exact j1.1 this
 have tl:=tail_of_in I.nS R;have ef:=tl.hasType zr.hasBase;rw[arm_exec_Raise];refine eM (qr (OJ (C:=C) (nm:=nm) (q:=q) (N:=N) (bs:=bs) (k0:=k0) (k1:=k1) (k2:=k2) (k3:=k3) (k5:=k5) (dd:=dd) (col:=col) (ab:=ab) (sub:=sub) (sn:=sn) (hdct:=hdct) ef (I.dN.ok.hd S7) ?_));refine eM (hJ (oD (iB I hg hm ?_ hd)) (λv s3 z=>eM (qr (gL z))) λ_ _ z=>z);refine w7 (h₀:=X.base) I.ok.mod.pf hk (cS (J j3 pins s I) λus s1 zz=>?_) he;obtain⟨_,H1,c,M,y,rfl,hw⟩:=zz;have j:=c.dN;refine#[c.nS,?_];have r:=tail_of_in c.nS R;obtain⟨g1,gn,gd,gt,go⟩:=s1;refine Tg r (c.nS _ _ S) (.of_isNs (isNs_of_in c.nS o2)) (Zh c.nS o3) (c.nS _ _ o5) o6 (by have:=M.length;rw[fR];simp at this ⊢;lia) λh2 e d=>?_;obtain⟨nE,l⟩:=j.newExc d;have G:=rm.make C us [];have h:Vals [V.ref e,y] (Value.ref e::us):=.cons rfl M;have sp:Tf C f [V.ref e,y] (upd H1 e Qc3) (λv Y=>v=.non/\∃dx,upd H1 e Qc3 dx=none/\dx≠e/\Y=upd QkB dx Qcb) Ql6:=#[e,y,rfl,aM,λdx n ne=>#[rfl,dx,n,ne,rfl]];refine wpAny_call (oI (F.run _ X.stack _ _ #[Value.ref e::us,[]] _ _ _ _ G (l.XS.make C us []) (by have:=hb {heap:=h2,gens:=gn,drawn:=gd,toks:=gt,os:=go} (Value.ref e::us) l.nS (by rw[ft];exact h.length.symm);rw[ft]at this;exact this) h sp) λZ s3 i=>?_);cases Z with
 | error ev=>
  obtain⟨_,_,_,_,_,_,_,_,_,_,q⟩:=i;exact q.elim
 | ok fl=>
  cases fl with
  | ret u=>
   obtain⟨v,Y,a1,a2,a3,a4,a5,rfl,dx,nd,ne,rfl⟩:=i;cases a5;refine#[rfl,?_];have L:=l.Me (s':=s3) a1 a3 a4 a2 λb z=>absurd z fo;obtain⟨⟨t,P⟩,_⟩:=a4 e _ ((ay ne.symm).trans aM);have nb:∀{b:Addr} {o:Obj},g1.get? b=some o->b≠e:=λ{b o} z w=>by rw[w,d.new]at z;cases z
   have T:H1 dx=none:=(ay ne).symm.trans nd;have nD:∀{b:Addr} {o:Obj},g1.get? b=some o->b≠dx:=λ{b o} z w=>by
    subst w;have:=a3.free b o QiT nd fo;rw[aM]at this;cases this
   have eH:(λb=>if b=e then none else upd QkB dx Qcb b)=upd H1 dx Qcb:=funext λb=>by
    by_cases z:b=e
    .rw[dU z,z,ay ne.symm];exact nE.symm
    .rw[cq z];by_cases p:b=dx
     .rw[p,aM,aM]
     .rw[ay p,ay p,ay z,ay z]
   have hl:∀b∈e::nR X.stack,b=e\/upd QkB dx Qcb b=none:=λb hb=>(ew.1 hb).imp id λz=>L.sG b z;have bZ:=oz.hide a4 ((ay ne.symm).trans aM) hl;rw[eH]at bZ;have g:∀{b:Addr} {o:Obj},s3.heap.get? b=some o->b≠e->b∉nR X.stack->(hideAll s3.heap (e::nR X.stack)).get? b=some o:=λ{b o} z n m=>og _ z λw=>(ew.1 w).elim n m;have fr:qg X.stack g1 s3.heap:=λb hb o z=>a3.slot b o QiT (l.sG b hb) hb fo;have E:∀{b:Addr} {o:HO},H1 b=some o->upd H1 dx Qcb b=some o:=λ{b o} z=>by
    rw[ay λw=>by rw[w,T]at z;cases z];exact z
   refine#[e,some dx,t,rfl,L.nS _ _ S,P,e,C,some dx,pins,U,H1,upd H1 dx Qcb,_,hideAll s3.heap (e::nR X.stack),none,rfl,j,hw dx T,a1,a2,#[bZ,λb o z n m=>g (a3.keep b o QiT ((ay (nb z)).trans n) m fo) (nb z) m,λb o z n=>(ay (nD z)).trans n,λb o z m=>?_,λb xs z=>E z,λb o u z=>E z,λb ps z=>#[#[],by rw[Array.append_empty];exact E z],fr],#[λb o z=>n7 _ z,vy _ eB,funFrames_hide L.stack λenv he a J=>eD _ (q8.2 #[env,he,J]),_,_,P,#[rfl,rfl],rfl,rfl]];obtain⟨o',w⟩:=a3.there b o QiT fo;exact#[o',g w (nb z) m]
  | next=>exact False.elim i
  | brk=>exact False.elim i
  | cont=>exact False.elim i
theorem iG.sub{B a h':Heap}{l:Cn}{d:Bi}{fl:Dx}(x:Qnj)(sub:∀b o,a.get? b=some o->B.get? b=some o)(st:a.StaysIn h')(k:∀b o,b∈nR l\/(∃vs,o.data=.fields vs)->h.get? b=some o->h'.get? b=some o):iG a l e C d fl h':=by
 have g:∀{b:Addr},B.get? b=none->a.get? b=none:=λ{b} n=>by
  cases q:a.get? b with
  | none=>rfl
  | some o=>rw[sub b o q]at n;cases n
 have c:∀{l:Cn},(∀b o,b∈nR l->h.get? b=some o->h'.get? b=some o)->h.FunFrames B l->h'.FunFrames a l:=λ{l}=>by
  induction l with
  | nil=>intro _ _;trivial
  | cons env r p=>
   rintro kk ⟨u,⟨L,o,hf,hn,t,hd⟩,s⟩;refine#[u,#[L,o,hf,g hn,kk L o (by unfold nR;rw[kz,hf];exact eB) t,hd],p (λb o hb=>kk b o ?_) s];unfold nR at hb ⊢;rw[kz,hf];exact eD _ hb
 obtain⟨k1,k2,k3,j,vs,he,v,hd,r⟩:=x;refine#[st,g k2,c (λb o hb=>k b o (.inl hb)) k3,j,vs,k _ _ (.inr #[vs,hd]) he,v,hd,?_];cases fl with
 | none=>exact r
 | some f=>
  obtain⟨T,m,ts,h1,hn,ne,w,i,y⟩:=r;exact#[T,m,ts,h1,g hn,ne,k _ _ (.inr #[ts,i]) w,i,y]
theorem iG.pass{α:Type}{M:Model}{A:Qat}{E:BB}{B:Heap}{l:Cn}{d:Bi}{f:Value}{m:QaP}{env:Env}{Q:Qu3}(x:Qlj)(q:∀h' g,iG B l e C d (some g) h'->s.heap.UpToSlots h'->E QaB {s with heap:=h'}):wpAny M A (PySem.passOn m QaB env:Sem α) Q E s:=by
 obtain⟨_,_,_,b,vs,he,h,hd,T,c,ts,h1,r⟩:=id x;refine eM (q2 he hd h1 ?_);exact eM (x.yE _ λh' a u=>wpAny_throw (q h' _ a u))
theorem Lay.hide{P:Q1}{w:World}{l:Cn}{h0:Heap}{H':Hp}{B h':Heap}{c:Addr}(y:Qmb)(hn:H' c=none)(j:c∉nR l)(k:∀b o,b∈nR l->h.get? b=some o->∃sl,h'.get? b=some {o with slots:=sl}):Lay P w l H (hideAll h0 [c]) H' (hideAll B [c]) h':=by
 have out:∀{g:Heap} {b:Addr} {o:Obj},(hideAll g [c]).get? b=some o->g.get? b=some o/\b≠c:=λ{g b o} z=>#[n7 _ z,λw=>by
  rw[w,vy _ QeC]at z;cases z]
 have d:∀{g:Heap} {b:Addr} {o:Obj},g.get? b=some o->b≠c->(hideAll g [c]).get? b=some o:=λ{g b o} z n=>og _ z λw=>n (eR.1 w);refine#[λb o z=>(y.bZ b o z).rL (λa u e f=>d f λw=>?_) W2 λ_ _ z=>z,λb o z n m=>d (y.keep b o (out z).1 n m) (out z).2,λb o z n=>y.free b o (out z).1 n,λb o z m=>?_,y.n6,y.dF,y.n8,λb hb o z=>?_]
 .obtain rfl|e:=e
  .rw[w,hn]at z;cases z
  .rw[w,hn]at e;cases e
 .obtain⟨o',w⟩:=y.there b o (out z).1 m;exact#[o',d w (out z).2]
 .obtain⟨sl,w⟩:=y.fr b hb o (out z).1;obtain⟨s2,i⟩:=k b _ hb w;exact#[s2,i]
end L2
namespace L3
open PySem PySem.Spec PyProof.Rows L2
variable{X:Cx}{pins:At}{U:L2.St}{H:Hp}{s s':Qr}{scope:Scope}{Nc:AT}{fp:BY}{W:XK}{ev:Value}
theorem EV{use:Option (Value->Sem Unit)}{Q:BB}{acc:Value}(l:QbN)(O:QbM)(I:QgU)(v:∀b∈fp,oF X pins H b)(z:XE QkL W ev s') :
  notedBy Qy X.A (compEnvC scope Qfp s.heap.objs.size X.env) (λx F=>compPost Qy X.A Qfk use Q acc s.heap.objs.size (.error x) F) ev s':=by
 obtain⟨e,C,d,T,U',M,L,s1,B,fl,rfl,J,hw,y,D,hm,N⟩:=z;have h:=hm;have c:iG B X.stack e C d fl _:=N;have G:X.A.frames=some QiF:=by rw[I.ok.frames,l]
 obtain⟨m,hn,_⟩:=J.loc;have hn:s1.heap.Ns s.heap.objs.size m:=hn;have j:=J.free;have a:s.heap.objs.size∉nR _:=λq=>by
  obtain⟨_,o,z,_⟩:=I.stack.mem q;exact absurd (fA z) W2
 obtain⟨u,_,_,f,_⟩:=id hn;have i:=h.free _ u f j;have f0:=c;rw[l]at c;refine c.note G O rfl λh1 f1 u1=>?_;rw[<- l]at f1;have n:=h.up f0 u1;refine#[m,hn.at' λo z=>f1.1 _ o (n.keep _ o z j a),λh2 k S _=>?_];have f2:iG (hideAll B [s.heap.objs.size]) X.stack e C d (some (rawInt X.env.locals)) h2:=by
  refine f1.sub (λb o z=>n7 _ z) (λb o z=>?_) λb o q z=>(k.2 b λw=>?_).trans z
  .have ne:b≠s.heap.objs.size:=λw=>by
    rw[w,vy _ QeC]at z;cases z
   exact(k.2 b ne).trans (f1.1 b o (n7 _ z))
  .subst w;obtain q|⟨vs,q⟩:=q
   .exact a q
   .have:=f1.1 _ _ (n.keep _ _ f j a);lia
 refine iG.pass (s:={s' with heap:=h2}) f2 λR g E t=>?_;have K:=Bc I v J (h'':=hideAll _ [s.heap.objs.size]) #[hideAll_size _ _,λb hb=>?_]
 .refine#[e,C,d,pins,U,M,L,_,_,_,rfl,K,hw,y,D,n.hide i a λb o hb z=>?_,E];have r:=(k.2 b λw=>a (w▸hb)).trans z;obtain⟨_,P,p,nf⟩:=f2.2.2.1.mem hb;rw[r]at p;cases p;exact t b o r nf
 .exact Heap.hide_ne _ hb
section
variable{CL:BM}{b:Bx}{δ δ1 δc:Ap}{xs:AT}{ix:Ch}{elt iter tg e:Expr}{ifs:CC}{pos:Pos}{ds:BC}{p:QdY}{parts:Qnm}{q:QwV}{G:QiK}{t:T}{D:cM}{gd:Qwj}
abbrev Tj(X:Cx)(W:XK)(scope:Scope)(Nc:AT)(C:Addr)(s:Qr)(H:Hp)(fp:BY):Cx:=(aX X scope Nc C s H fp).et (XE Qbg W)
abbrev Lets(W:XK)(b a:Bx):Prop:=∀C p,eW b W C p->eW a W C p
theorem lets{Z W1 f Z3:Hp}{ts:Bz}{vs:BS}(S:Qlw)(g:aA Z W1)(e:aA H f)(h:aA W1 Z3)(nw:∀a o,Z3 a=some o->W1 a=none->H a=none):Lets W b #[f,Z3]:=λC p i H' Z' d a1 a2 a3 a4 a5 a6=>by
 obtain⟨j,k,c⟩:=S.grown (e.trans a1) g (h.trans a2) a3 (λa o q z=>by
  cases u:Z3 a with
  | none=>exact e.off (a4 a o q u)
  | some w=>exact nw a w u z) a5
 exact i H' j d c.bh c.zz c.zh c.new c.tp (a6.iV a3 c.tp)
def Tp(n:QbN)(M:QbM)(g0:QdW)(gs:QdX)(sc:QuS)(x:QaL)(h:Qst)(hb:(δc=sR δ1 ix/\∀l,G ds.length l->T.cA l=true)\/δc=sS δ1 ix)(inner:Qp1)(N:∀a,Lets W b a->∀i d l,ds[i]? = some d->G i l->gd d a)(hlen:QaR)
  (u:Qa7:=by intro _;rfl):vO QP CL b QbK δ (λt=>∃l,t=.lst l/\G ds.length l) δ1:=λH Z U ts vs Q S k pins s I=>by
 obtain⟨O,pi,hw⟩:=h;apply xt rfl u Qpg sc.kind sc.names;refine cS Qhc λv s1 h1=>cS h1 λr s2 zz=>?_;obtain⟨it,fp,tn,J,H1,e,K,y,st,hf,C⟩:=zz;subst e;refine qf g0 gs sc x C K y st hf hb inner hlen (λD R s' H' Z' l gl m io P ch ci f o B=>?_) (λZ1 W1 A c i d l e1 e2 L Z3 w g zh nw tp=>N _ (lets A c w g nw) i d l e1 e2) λD s3 L ev s' F j z=>EV n M F.dN j z;obtain⟨m,hn⟩:=m;exact#[m,hn,λh' E=>#[.ref D,H',ci h' E,rfl,k _ _ H' Z' #[l,rfl,gl] f o B]]
def Zi{y:Str}{py f:Pos}(i:Nat)(u:QbN)(DX:QbM)(g0:QdW)(gs:QdX)(sc:QuS)(L:QaL)(h:Qst)(hb:(δc=sR δ1 ix/\∀l,G ds.length l->T.cA l=true)\/δc=sS δ1 ix)(inner:Qp1)(DW:∀c,Lets W b c->∀i d l,ds[i]? = some d->G i l->gd d c)(hlen:QaR)
  (k:∀l,G ds.length l->D.nx (δ1.set i Qnn)) (F:QbH) (O:Qbd) (hi:X.N[i]? = some y) (x:Qnh) (a:AM X y)
  (o:swapsWith QbK (some Qf1) f.line X.env=pure true)
  (A:Qa7:=by intro _;rfl):RH QP CL b (.Assign [.Name y py] QbK f) δ D:=λH Z U ts vs E S M pins s I=>by
 obtain⟨wi,pi,hw⟩:=h;rw[exec_Assign_Name_used _ _ _ _ o];refine eM (qr (eM ?_));refine eM (hJ (xt rfl A (kY (X:=X.et Qfk) sc I) sc.kind sc.names ?_) (λ_ s' B=>gL (gL B)) λ_ _ e=>e);refine cS Qhc λv s1 h1=>cS h1 λw s2 zz=>?_;obtain⟨it,fp,tn,J,H1,e,I1,P,st,hf,C⟩:=zz;subst e;refine qf g0 gs sc L C I1 P st hf hb inner hlen (λD' C' s' H' Z' l gl m io t ch ci j k' V=>?_) (λZ1 W1 R g i d l e1 e2 H3 Z3 K n zh nw tp=>DW _ (lets R g K n nw) i d l e1 e2) λD s3 H3 ev s' I3 r z=>EV u DX I3.dN r z;exact K9 O hi x a m io t ch ci (M.nx _ _ _ Z' j (V.set F) (k l gl))
end
def Xp(t:T):Prop:=∀(K:Frag) (CL:BM) (H Z:Hp) (v:V) (fp:BY),¬ bJ K CL H Z t v fp
noncomputable def lF:Xp T.bad:=λK CL H Z v fp r=>by
 obtain⟨rfl,b⟩:=r.Le;have a:=b.HD;cases a.2
theorem Nd{K:Frag}{CL:BM}{H Z:Hp}:∀{tl:Bz} {vs:BS} {fp:BY},(∃t∈tl,Xp t)->¬ aQ K CL H Z tl vs fp
 | [],_,_,⟨t,h,_⟩,_=>by cases h
 | t::tl,_,_,⟨u,h,n⟩,r=>by
  cases r with
  | cons b a=>
   obtain rfl|h:=ew.1 h
   .exact n _ _ _ _ _ _ b
   .exact Nd #[u,h,n] a
def Tq{tl:Bz}(h:∃t∈tl,Xp t):Xp (.tup tl):=λK CL H Z v fp r=>by
 obtain⟨_,_,_,_,a⟩:=r.rN;exact Nd h a
section
variable{CL:BM}{b:Bx}{δ δ1 δ2:Ap}{e:Expr}{es:CC}{t:T}{P:Qfb}{D:cM}{dm:CI}{pos pp:Pos}{x c f:Str}{i k n:Nat}{A:Type}{arg:Qae}{Pre:Q4}{res:QaM}{exc:Qa1}
theorem bP.no{K:Frag}{Z:Hp}{ts:Bz}{vs:BS}(S:bP K CL b H Z δ U QbX vs)(h:Xp t):False:=by
 obtain⟨fp,gp,_,r,_⟩:=S.rep;cases r with
 | cons r _=>exact h _ _ _ _ _ _ r
def aez(h:Qaw)(n:Xp t):vO X CL b e δ P δ2:=λH Z U ts vs Q S k=>h H Z U ts vs Q S λv H1 Z1 c k1 a=>(a.no n).elim
theorem vO.of(h:Qaw)(p:P t):vO X CL b e δ P δ1:=λH Z U ts vs Q S k=>h H Z U ts vs Q S λv H' Z'=>k t v H' Z' p
def aeA(h:Qaw)(n:Xp t):cK X CL b QhK δ D:=bI λH Z U ts vs E S M=>mZ (Hf bX) (h H Z U ts vs _ S λv H1 Z1 c k1 a=>(a.no n).elim)
def nF(h:bG X CL b e δ T.bad δ)(a:Qaz:=by exact aZ rfl):Bb X CL b Qan δ [T.bad] δ:=λH Z U ts vs Q S k=>Ai (bE bX DV a) (h H Z U ts vs _ S λv H1 Z1 d k1 c=>(c.no lF).elim)
def oW{tl:Bz}{j:Nat}{pt:Pos}(h:QlZ)(hm:T.bad∈tl)(a:Qim:=by exact gZ rfl):cK X CL b (.Return (some (.Tuple es j pt)) pos::dm) δ D:=aeA (HF h a) (Tq #[_,hm,lF])
def Zj(h:Qaw)(n:Xp t)(a:Qhj:=by rfl):cK X CL b (.Expr e pos::dm) δ D:=bI λH Z U ts vs E S M=>mZ (p6 bX a) Qqv
def yL{pos':Pos}(g:Gx X)(l:Qa0)(h:Qaw)(n:Xp t)(a:Qcn:=by rfl):cK X CL b Qfs δ D:=
 bI λH Z U ts vs E S M=>mZ (Hg g.nd l.hi l.loc bX a l.hf) Qqv
theorem Vn.wx{E:BB}(h:QaZ):Vn QeT i x:=#[h.hi,h.hv,h.hd,h.iA]
theorem Ln.wx{E:BB}(h:Qa0):Ln QeT i x:=#[h.1.wx,h.loc,h.hf]
structure QH(X:Cx)(CL:BM)(x:Str)(k n:Nat){A:Type}(arg:Qae)(Pre:Q4)(ok:Qg3)(res:QaM)(exc:Qa1):Prop where
 give:Fc X CL x k n arg Qtn res
 bad:u3 X CL x k n arg Qs4 exc
variable{ok:Qg3}
theorem QH.cx{C:Addr}{E:BB}(F:QH X CL x k n arg Pre ok res exc):QH ((aX X scope Nc C s H fp).et E) CL x k n arg Pre ok res exc:=#[#[F.give.ex,F.give.room],#[F.bad.ex,F.bad.room]]
def cB(a:A)(F:QkV)(p:Qad)(h:QrZ)(hp:Pre a/\ok a=false)(s:eW b W Qc9 (exc a).2)(hn:Qb0:=by rfl)
  (l:AD x:=by decide) (he:Qaz:=by exact aZ rfl) (hpl:QaY:=by rfl) :
  bG QP CL b Qbn δ t δ2:=λH Z U ts vs Q S kk=>by
 obtain⟨f,fd,ps,v,hm,m,hb⟩:=F.bad.ex;refine bU (wZ v F.bad.room p hm m hb .nil Nl DV l he hpl) (h H Z U ts vs _ S λus H1 Z1 y k1 i r=>?_);simp;refine#[H1,a,.refl _,λ_ _ q _=>q,r,hn,hp,i.NF,λH' Z' d o ww j nw tp g=>?_];obtain⟨u,w,c⟩:=i.grown o i.zh ww j nw tp;exact s H' u d c.bh c.zz c.zh c.new c.tp (g.iV j c.tp)
def wo(a:A)(F:QkV)(d:Qad)(h:QrZ)(hp:Pre a)(g:Qk2)(f:ok a=true->(res a).clean=true)(hn:Qb0:=by rfl)
  (c:AD x:=by decide) (he:Qaz:=by exact aZ rfl) (hpl:QaY:=by rfl) :
  vO QP CL b Qbn δ (λt=>ok a=true/\t=res a) δ1:=by
 cases q:ok a with
 | true=>exact vO.of (c_ a F.give d h #[hp,q] (f q) hn c he hpl) #[rfl,rfl]
 | false=>exact aez (δ1:=δ) (cB a F d h #[hp,q] (g q) hn c he hpl) lF
structure uu(X:Cx)(CL:BM)(c f:Str)(k:Nat):Prop where
 ex:∃fI fd,CB X.K (CL c) fI/\keepIn X.K Qdn=true/\e9 X.prog X.w X.K X.mg X.base Qdj k fI fd ["self",f] (Tf (CL c) f)/\Binds X.K fd ["self",f] []/\X.mg c=some Qdn
 room:dX Qac X.A
def dD{m:Int}{np j3:Pos}(s:QaL)(F:uu QP CL c f k)(p:Gl X c)(h:GZ QP CL b [e] δ [.int m] δ1)(t:eW b W (CL c) (some [(f,.int m)]))(hd:AD c:=by decide)(he:QaD:=by rfl) :
  cK QP CL b (.Raise (some (.Call (.Name c np) [e] [] j3)) none pos::dm) δ D:=bI λH Z U ts vs E S M=>by
 obtain⟨fI,fd,O,l,u,hb,hm⟩:=F.ex;refine Ie s p hm O l u hb F.room (h H Z U ts vs _ S λus H1 Z1 v k1 d r=>?_) hd he;cases r with
 | cons j g=>
  cases g;cases j;refine#[_,rfl,λdx n=>t _ _ _ (d.bh.trans (EJ n)) (d.zz.trans (EJ (d.zh.off n))) (S8 d.zh) (λa o q z=>?_) (λa o q i=>?_) #[dx,rfl,aM]]
  .by_cases w:a=dx
   .exact w▸d.bh.off n
   .rw[ay w]at q;exact d.new a o q z
  .by_cases w:a=dx
   .subst w;rw[aM]at q ⊢;exact q
   .rw[ay w]at q ⊢;exact d.tp a o q i
end
section
variable{CL:BM}{b:Bx}{δ:Ap}{D:cM}{dm:CI}
theorem cK.calm(h:cK (X.et (XE X λ_ _ _=>False)) CL b dm δ D):cK X.Xl CL b dm δ D:=λH Z U ts vs E S M pins s I=>
 hJ (h H Z U ts vs E S M pins s (I.dN.et _)) (λf s' z=>by
  cases f with
  | next=>obtain⟨U',H',a,q⟩:=z;exact#[U',H',a.dN.et _,q]
  | brk=>obtain⟨U',H',a,q⟩:=z;exact#[U',H',a.dN.et _,q]
  | cont=>obtain⟨U',H',a,q⟩:=z;exact#[U',H',a.dN.et _,q]
  | ret u=>obtain⟨v,U',H',a,r,q⟩:=z;exact#[v,U',H',a.dN.et _,r,q]) λev s' z=>by
  obtain⟨_,_,_,_,_,_,_,_,_,_,_,_,q,_⟩:=z;exact q.elim
end
abbrev JO(ok:Bool)(t:T):cM:={nx:=λ_=>ok=true/\t=.sh .non,rt:=λu _=>ok=true/\u=t}
variable{K:Frag}{x:Str}{st:Stmt}{A:Type}
theorem Y0(P:Q1)(w:World)(mg:BN)(base:Heap){h:Heap}(CL:BM)(l:K.In h)(G:Qik){f:Addr}{fd:QaK}{N ps:AT}(k:Nat)(arg:Qae)(Pre:Q4)(ok:Qg3)(res:QaM)(exc:Qa1)(F:Qi6)(S:QcU)
  (hb:∀(CX:Nm) {eS:Value} {i:Qat} {outer:Cn} {s:Qr} {H:Hp} {E:XK} {b:Bx} {W:XK} {a:A},dX k QqA->EF ((mY CX P w K mg base N x Qas f eS i outer s H E).et Qqo)->Pre a->Qk2 →
   cK ((mY CX P w K mg base N x Qas f eS i outer s H E).et Qqo) CL b Qbb Qdb Qyc)
  (q:QoE:=by(repeat intro _);rfl) :
  (∃f fd g,e9 P w K mg base uE Qac f fd g (G0 K CL ps.length arg Qtn res)/\mg x=some Qar/\keepIn K Qar=true/\Binds K fd g [])/\∃f fd g,e9 P w K mg base Qci Qac f fd g (m2 K CL ps.length arg Qs4 exc)/\mg x=some Qar/\keepIn K Qar=true/\Binds K fd g []:=
 have bd:=F.binds λa b c d e f=>yH QiS
 #[#[f,fd,ps,yi F.1 S λeS i outer s H E b a _ j hp=>cK.calm (cK.to (hb uE j #[#[S.nd,rfl,Lf (W:=λ_ _ _=>False) rfl rfl],j.units] hp.1 λz=>by simp_all) (λ_ z=>z.2) (λ_ _ z=>z.2) W2 W2),gr l G F.m,F.kp,bd],
  f,fd,ps,aeu F.1 S λeS i outer s H E b a j hp n=>cK.to (hb _ j #[#[S.nd,rfl,Lf rfl rfl],j.units] hp.1 λ_=>n) (λ_ z=>by simp_all) (λ_ _ z=>by simp_all) W2 W2,gr l G F.m,F.kp,bd]
abbrev DdE(X:Cx)(W:XK)(CL:BM)(b:Bx)(st:Stmt)(N:AT)(arg:Qae)(Pre:Q4)(ok:Qg3)(res:QaM)(exc:Qa1):Prop:=∀ ⦃a:A⦄,Pre a->Qk2->cK QP CL b Qbb Qdb Qyc
variable{C:Addr}
def aeB{nm q:Str}{N:Addr}{bs bm:B0}{hdct:Bool}{sn:AT}{sub:B0}{ab:Bool}{col:Qkg}{dd:Bi}{k0 k1 k2 k3 k5:Dx}(b:QxN)(en:nsOkIn K N=true)(c:nsIn K N "__init__" = some none)(a:tailIn K ny bm=true):nA K C:=
 #[#[_,_,_,_,_,_,_,_,_,_,_,_,_,_,_,_,b,en,c,a]]
structure XJ(K:Frag)(c fl qual:Str)(C:Addr)(st:Stmt):Prop where
 ex:∃fI fd,CB K C fI/\keepIn K QS=true/\Zc K C "__init__" qual st fI fd/\yK K C fl/\Lj K c C
variable{c:Str}
def xj{fl qual nm q:Str}{N fI:Addr}{fd:QaK}{bs bm:B0}{hdct:Bool}{sn:AT}{sub:B0}{ab:Bool}{col:Qkg}{dd:Bi}{k0 k1 k2 k3 k5:Dx}(e:QxN)(en:nsOkIn K N=true)(f:nsIn K N "__init__" = some (some QeI))(d:tailIn K ny bm=true)
  (b:keepIn K QS=true) (a:nsIn K mainGlobals c=some (some QS)) (F:Zc K C "__init__" qual st fI fd) (sa:QqX) (ov:((clsIn K C).any λcd=>cd.hasDict&&EK cd.mro)=true) (tk:findIn K QS fl=some none):XJ K c fl qual C st:=
 #[fI,fd,#[#[_,_,_,_,_,_,_,_,_,_,_,_,_,_,_,_,e,en,f,d],F.i],b,F,#[sa,ov,tk],a]
def Na(P:Q1)(w:World)(mg:BN)(base:Heap){h:Heap}(n:K.In h)(G:Qik){qual fl:Str}{j p2 i g:Pos}(J:XJ K c fl qual C st)
  (S:d9 ["self",fl] ["self",fl] Qas:=by exact xo) (hb:bW st=[.Assign [.Attribute Qwp fl p2] (.Name fl i) g]:=by rfl) (v0:QN Qas "self":=by exact .inl rfl) (v1:QN Qas fl:=by exact .inl rfl) (d1:AD fl:=by decide) (d2:AE fl:=by decide)
  (k:∀env,swapsWith (.Name fl i) (some (.Attribute Qwp fl p2)) g.line env=pure false:=by intro _;rfl) (m:yJ "__init__" qual st ["self",fl]:=by(repeat intro _);rfl) :
  ∃fI fd,CB K C fI/\keepIn K QS=true/\e9 P w K mg base Qci 1 fI fd ["self",fl] (Tf C fl)/\Binds K fd ["self",fl] []/\mg c=some QS:=by
 obtain⟨fI,fd,O,l,F,T,a⟩:=J.ex;exact#[fI,fd,O,l,Zg F.1 S hb T v0 v1 d1 d2 k,F.binds λa b c d e f=>yH (m a b c d e f),gr n G a]
structure Tr(K:Frag)(c:Str)(C M:Addr)(ns:D1):Prop where
 ask:yF K C
 xm:exmOne K QS (.ref M)=some true
 ve:kitOne K QS Que=some true
 is:∀p∈ns,kitOne K QS Qga=some QfQ
section
variable{n:Str}{M D:Addr}{ns r:D1}{b:Bool}
def aeC:∀p∈([]:D1),Tr K p.1 p.2 M ns:=λ_ h=>absurd h fo
def Zk(a:yF K C)(m:exmOne K QS (.ref M)=some true)(v:kitOne K QS Que=some true)(i:∀p∈ns,kitOne K QS Qga=some QfQ)(t:∀p∈r,Tr K p.1 p.2 M ns):∀p∈(c,C)::r,Tr K p.1 p.2 M ns:=List.forall_mem_cons.2 #[#[a,m,v,i],t]
def aeD:∀p∈([]:D1),kitOne K QS Qga=some QfQ:=λ_ h=>absurd h fo
def Zm(h:kitOne K QS QeU=some b)(e:decide (n=c)=b)(t:∀p∈r,kitOne K QS Qga=some QfQ):∀p∈(n,D)::r,kitOne K QS Qga=some QfQ:=List.forall_mem_cons.2 #[h.trans (congrArg some e.symm),t]
end
section
variable{CL:BM}{b:Bx}{δ δ1 δc:Ap}{y:Str}{ix:Ch}{elt iter:Expr}{ifs:CC}{px pos pos' pc:Pos}{ds:BC}{p ok:QdY}{g:QcV}{D:cM}{dm:CI}{i:Nat}
abbrev Ig(X:Cx)(W:XK)(CL:BM)(b:Bx)(scope:Scope)(Nc:AT)(ifs:CC)(elt:Expr)(δc:Ap)(ds:BC)(p ok:QdY)(g:QcV):Prop:=
 ∀C s0 c f0 a (i:Nat) d,ds[i]? = some d->(∀u∈ds.take i,p u=true->ok u=true)->Lets W b a->ri Qsg CL a ifs Qej (p d)/\(p d=true->vO Qsg CL a elt Qej (λt=>ok d=true/\t=g d) Qej)
abbrev yd(ds:BC)(p ok:QdY)(g:QcV)(i:Nat)(l:Bz):Prop:=(∀d∈ds.take i,p d=true->ok d=true)/\l=((ds.take i).filter p).map g
theorem Hk:sV ds p QtV (yd ds p ok g):=by
 rintro i d _ hd ⟨o,rfl⟩;have e:ds.take Q3=ds.take i++[d]:=by rw[js,hd];rfl
 have mem:(p d=true->ok d=true)->∀u∈ds.take _,p u=true->ok u=true:=λh u a z=>by
  rw[e]at a;obtain q|q:=eC.1 a
  .exact o u q z
  .rw[eR.1 q]at z ⊢;exact h z
 refine#[λn=>#[mem Wc,?_],λn t z=>#[mem λ_=>z.1,?_]]
 .rw[e,ig,eE,hY (by simp[n]),List.filter_nil,List.map_nil,ft]
 .rw[e,ig,eE,kn n,z.2];rfl
def HN(sc:Qmc)(h:QkJ)(h1:AD y)(h2:AE y):jR QP CL scope Nc [y].length Qin part1 ifs elt δc ds p QtV (λY=>XE Y W) (λd a=>∃i:Nat,ds[i]? = some d/\(∀u∈ds.take i,p u=true->ok u=true)/\Lets W b a):=λC s0 c f0 a=>
 #[yr sc.nd (Ln.wx (Cj (by rw[sc.hd];rfl) sc.own h1 h2)),λd _ hd=>by
  obtain⟨i,e,o,lt⟩:=hd;exact#[[d],rfl,rfl,(h C s0 c f0 a i d e o lt).1,(h C s0 c f0 a i d e o lt).2]]
def xu(h:Quf):(∀d∈ds,p d=true->ok d=true)/\l=(ds.filter p).map g:=by
 rwa [yd,hZ]at h
def Bk(h:∀d∈ds,(g d).clean=true)(l:Bz)(e:Quf):T.cA l=true:=HM h l e.2
def yM(a:QbN)(j:QbM)(sc:Qmc)(f:QaL)(h:QrK)(hb:(δc=sR δ1 ix/\∀d∈ds,(g d).clean=true)\/δc=sS δ1 ix)(inner:QkJ)(hlen:QaR)
  (c:Qa7:=by intro _;rfl) (h1:AD y:=by decide) (h2:AE y:=by decide):vO QP CL b Qqq δ (λt=>(∀d∈ds,p d=true->ok d=true)/\t=.lst ((ds.filter p).map g)) δ1:=
 (Tp a j #[W2,rfl] Hk QjW f (Bd h) QqR Qvj (λk lt i d l e o=>#[i,e,o.1,lt]) hlen c).to λt ⟨l,e,o⟩=>#[(xu o).1,by rw[e,(xu o).2]]
def sZ(c:Gx QP)(n:Ln QP i x)(f:QbN)(q:QbM)(sc:Qmc)(h:QrK)(hb:(δc=sR δ1 ix/\∀d∈ds,(g d).clean=true)\/δc=sS δ1 ix)(inner:QkJ)(hlen:QaR)
  (k:(∀d∈ds,p d=true->ok d=true)->cK QP CL b dm (δ1.set i Qrq) D) (m:QbH)
  (a:QpZ) (j:Qa7:=by intro _;rfl)
  (h1:AD y:=by decide) (h2:AE y:=by decide):cK QP CL b QrW δ D:=by
 obtain a|a:=a
 .exact bI (Zi i f q #[W2,rfl] Hk QjW c.calm (Bd h) QqR Qvj (λr lt i d l e o=>#[i,e,o.1,lt]) hlen (λl o=>(xu o).2▸k (xu o).1) m c.nd n.hi n.loc n.hf a j)
 .exact bI (xh i (yM f q sc c.calm h hb inner hlen j h1 h2) (λt z=>z.2▸k z.1) m c.nd n.hi n.loc a n.hf)
def Tt{e:Expr}{P:Qfb}(h:Qih)(k:∀t,P t->D.rt t δ1):cK X CL b QhK δ D:=bI λH Z U ts vs E S M=>mZ (Hf bX) (h H Z U ts vs _ S λt v H1 Z1 p a k1 c=>M.rt t v H1 Z1 δ1 U a c (k t p))
end
def vl(K:Frag)(c:Str):Addr:=if yf c=true then 0 else match nsIn K mainGlobals c with
 | some (some (.ref a))=>a
 | _=>0
def Zn(h:yf c=true):vl K c=0:=dU h
def lG{b:BM}{f:Addr}(h:b=vl K)(a:Lj K c f)(t:yf c=false:=by rfl):f=b c:=by
 rw[h,vl,cq (by rw[t];decide),show nsIn K mainGlobals c=some Qcy from a]
def uj(mg:BN)(K:Frag)(x:Str)(l:AT):Prop:=∃a,mg x=some Qab/\∀H:Hp,lS K H a Qcz
def Lp{mg:BN}{l:AT}{a:Addr}{od:Bi}{its:D2}{n:Nat}{sl:Cc}(h1:mg x=some Qab)(h2:K.lookup a=some #[.type "tuple",od,.seq its n,sl])(c:Qm7:=by exact gZ rfl)(b:Vals Qcz its.toList:=by repeat (first|exact .nil|refine .cons #[_,rfl] ?_)):uj mg K x l:=#[a,h1,Nq h2 c b]
abbrev GDk(w:World)(mg:BN)(K:Frag)(x:Str)(f:Qke):Prop:=∃(a:Addr) (es:QgI) (n:Nat),mg x=some Qab/\K.lookup a=some #[.type "dict",none,.dict es n,#[]]/\KeysLit w.params es.toList/\∀k z,f k=some z->∃t,nsIn K a k=some Qwm
abbrev GEk(w:World)(mg:BN)(K:Frag)(x:Str)(l:EU):Prop:=∃(a:Addr) (es:Qg1) (n:Nat),mg x=some Qab/\QbO=false/\K.lookup a=some #[.type "dict",none,.dict es.toArray n,#[]]/\KeysLit w.params es/\uk K es l
structure Aa(A:Type) where
 x:Str
 k:Nat
 m:Nat
 st:Stmt
 N:AT
 f:A->BC×Prop×Bool×T×Ex
abbrev JJ(X:Cx)(CL:BM)(x:Str)(k n:Nat)(S:A->BC×Prop×Bool×T×Ex):Prop:=QH X CL x k n Qud QtU (λa=>(S a).2.2.1) (λa=>(S a).2.2.2.1) (λa=>(S a).2.2.2.2)
abbrev nG(X:Cx)(CL:BM)(S:Aa A):Prop:=JJ X CL S.x S.k S.m S.f
abbrev mw(X:Cx)(W:XK)(CL:BM)(b:Bx)(S:Aa A):Prop:=DdE X W CL b S.st S.N QtK Qto Qs5 QsK QsL
def f7(K:Frag)(x:Str)(st:Stmt):Prop:=∃f fd,Zb K x st f fd
def fnX{f:Addr}{kV doc pm eS ct:Value}{an od:Bi}{oc:Value}{Ed:Cc}(m:Qtm)(l:Qq9)(c:codeIn K eS x=true)(k:Qit):f7 K x st:=#[_,_,fn1 m l c k]
def o4(X:Cx)(CL:BM)(b:Bx)(es:CC)(δ:Ap)(p:Prop)(tl:Bz)(δ':Ap):Prop:=
 ∀(H Z:Hp) (U:L2.St) (ts:Bz) (vs:BS) (Q:EO),bP X.K CL b H Z δ U ts vs →
  (∀us H' Z',p->us.length=tl.length->aA Z Z'->aA H H'->bP X.K CL b H' Z' δ' U QlO QfF->Q us H')->Ah X es U H Q
abbrev rj(X:Cx)(CL:BM)(b:Bx)(e:Expr)(δ:Ap)(p:Prop)(t:T)(δ':Ap):Prop:=vO X CL b e δ (λu=>p/\u=t) δ'
section
variable{CL:BM}{b:Bx}{δ δ1 δ2:Ap}{e:Expr}{es:CC}{t:T}{tl:Bz}{ds:BC}{d:L3.D}{pos:Pos}{p q:Prop}{D:cM}{dm:CI}{j:Nat}
def j7:o4 X CL b [] δ True [] δ:=λH Z U ts vs Q S k=>Ai cT (k [] H Z trivial rfl QA QA S)
theorem gG(h1:Ql3)(h2:QtW)(d:Qaz:=by exact aZ rfl):o4 X CL b Qan δ (p/\q) (t::tl) δ2:=λH Z U ts vs Q S k=>
 Ai (bE bX DV d) (h1 H Z U ts vs _ S λu v H1 Z1 z c k1 h=>h2 H1 Z1 U _ _ _ h λus H2 Z2 y f a k2 g=>k _ H2 Z2 #[z.1,y] (by simp[f]) Qdq Qaf (by rw[z.2]at g;simp_all))
def fV(h1:Qaw)(h2:QtW)(a:Qaz:=by exact aZ rfl):o4 X CL b Qan δ q (t::tl) δ2:=λH Z U ts vs Q S k=>
 gG (p:=True) (λH Z U ts vs Q S k=>h1 H Z U ts vs Q S λv H1 Z1=>k t v H1 Z1 #[trivial,rfl]) h2 a H Z U ts vs Q S λus H1 Z1 y=>k us H1 Z1 y.2
def CD(h:o4 X CL b es δ p tl δ1)(f:Qim:=by exact gZ rfl):rj X CL b Qiy δ p (.tup tl) δ1:=λH Z U ts vs Q S k=>
 bU (Ra DV) (h H Z U ts vs _ S λus H1 Z1 y d e k1 l=>#[d▸f,λa g=>by
  obtain⟨r,c,i⟩:=l.rO d g;exact k _ _ _ _ #[y,rfl] (e.trans r) QfZ i])
def Zo(h:Ql3)(z:t.dJ=d):rj X CL b e δ p Qhz δ1:=λH Z U ts vs Q S k=>h H Z U ts vs Q S λu v H' Z' y f s g=>by
 obtain⟨Z2,c,a⟩:=g.uF;rw[y.2,z]at a;exact k _ v H' Z2 #[y.1,rfl] Qds s a
def iH(h:o4 X CL b es δ p Qby δ1)(a:QaR:=by exact gZ rfl):rj X CL b Qiy δ p (.sh QcJ) δ1:=
 Zo (CD h (by rw[eu];exact a)) (by rw[T.dJ,fS])
def iZ(h:Ql3)(k:p->D.rt t δ1):cK X CL b QhK δ D:=Tt h λ_ z=>z.2▸k z.1
def Po{k n:Nat}{arg:Qae}{Pre:Q4}{ok:Qg3}{res:QaM}{exc:Qa1}{t0:T}{pp:Pos}(F:QkV)(d:Qad)(h:bG QP CL b e δ t0 δ1)(hn:Xp t0)
  (a:AD x:=by decide) (he:starEach [e] X.env=[(false,eval e X.env)]:=by exact aZ rfl) (hpl:(backTo pos (starEach [] X.env)).any (·.1)=false:=by rfl) :
  bG QP CL b (.Call Qbo [e] [] pos) δ t δ2:=λH Z U ts vs Q S kk=>by
 obtain⟨f,fd,ps,i,hm,c,hb⟩:=F.bad.ex;exact bU (wZ i F.bad.room d hm c hb .nil Nl DV a he hpl) (Ai (X:=X.et Qfk) (bE (X:=X.et Qfk) bX DV he) (h H Z U ts vs _ S λv H1 Z1 j k1 g=>(g.no hn).elim))
end
end L3
namespace Law
open PySem L2 L3
noncomputable def top(i:Nat):Stmt:=PySem.Challenge.pw_moodtree_k23_whole_read_is_written.main.body.getD i Qs9
def uN:Nat->BA->Int->BA
 | 0,_,_=>[]
 | n+1,es,k=>if k=-1 then [] else k::uN n es (es.getD k.toNat 0)
def b8(es:BA)(m:Int):BA:=uN QeB es Qvk
def i6(es:BA):Prop:=∀k:Nat,k<es.length->-1<=es.getD k 0/\es.getD k 0<k
variable{es:BA}{k:Int}
theorem i6.at(h:i6 es)(h0:0<=k)(h1:k<es.length):-1<=es.getD k.toNat 0/\es.getD k.toNat 0<k:=by
 have:=h k.toNat Wc;lia
noncomputable def mz(ks:AT)(es ss:BA):L3.D:=.ins "Tree" [("kinds",.lst QcA),("elders",.lst Qbz),("starts",.lst QcB)]
def nI{ks:AT}{ss:BA}:List.lookup ("kinds":Str) [(("kinds":Str),L3.D.lst QcA),("elders",.lst Qbz),("starts",.lst QcB)]=some (.lst QcA):=K6
def dH{ks:AT}{ss:BA}:List.lookup ("elders":Str) [(("kinds":Str),L3.D.lst QcA),("elders",.lst Qbz),("starts",.lst QcB)]=some (.lst Qbz):=rfl
def oX{ks:AT}{ss:BA}:List.lookup ("starts":Str) [(("kinds":Str),L3.D.lst QcA),("elders",.lst Qbz),("starts",.lst QcB)]=some (.lst QcB):=rfl
def cI(ds:BC):T.dJ QtD=.lst ds:=by rw[T.dJ,fS]
def i7(l:BA):(T.lst ((l.map L3.D.int).map T.sh)).clean=true:=gY▸vQ _
theorem gT(l:AT):(T.lst ((l.map L3.D.str).map T.sh)).clean=true:=by
 induction l with
 | nil=>rfl
 | cons x l a=>exact a
noncomputable def qR(ks:AT)(es ss:BA):B1:=[("kinds",.lst ((ks.map .str).map T.sh)),("elders",.lst ((es.map .int).map T.sh)),("starts",.lst ((ss.map .int).map T.sh))]
def Bl(ks:AT)(es ss:BA):T.dJ Qll=mz ks es ss:=by
 unfold qR;rw[T.dJ,T.wm,T.wm,T.wm,cI,cI,cI];rfl
def oY(ks:AT)(es ss:BA):T.cC (qR ks es ss)=true:=by
 unfold qR;rw[T.cC,T.cC,T.cC,gT,i7,i7];rfl
theorem CF{es:BA}(h:i6 es):∀(n:Nat) {k x:Int},-1<=k->k<es.length->x∈uN n es k->0<=x/\x<=k
 | 0,k,x,_,_,a=>by cases a
 | n+1,k,x,h0,h1,a=>by
  rw[uN]at a;split at a
  .cases a
  .have b:=h.at Wc h1;obtain rfl|a:=ew.1 a
   .lia
   .have:=CF h n Wc Wc a;lia
theorem yN{es:BA}(h:i6 es):∀(a b:Nat) {k:Int},-1<=k->k<es.length->k<a->k<b->uN a es k=uN b es k
 | 0,0,_,_,_,_,_=>rfl
 | 0,b+1,k,h0,_,d,_=>by
  rw[uN,uN,dU Wc]
 | a+1,0,k,h0,_,_,hb=>by
  rw[uN,uN,dU Wc]
 | a+1,b+1,k,h0,h1,d,hb=>by
  rw[uN,uN];split
  .rfl
  .have c:=h.at Wc h1;rw[yN h a b c.1 Wc Wc Wc]
variable{m:Int}
theorem rW(h:i6 es)(h0:0<=m)(h1:QoW):b8 es m=if es.getD m.toNat 0=-1 then [] else es.getD m.toNat 0::b8 es Qvk:=by
 have hm:=h.at h0 h1;unfold b8;rw[uN];split
 .rfl
 .rename_i b;have a:=h.at (k:=es.getD m.toNat 0) Wc Wc;rw[yN h es.length QeB a.1 Wc Wc Wc]
variable{x:Int}
theorem xA(h:i6 es)(h0:0<=m)(h1:QoW)(a:x∈b8 es m):0<=x/\x<m/\x<es.length:=by
 have hm:=h.at h0 h1;have:=CF h _ hm.1 Wc a;lia
theorem qk{es:BA}(h:i6 es):∀(n:Nat) {m x:Int},0<=m->m<es.length->m<n->x∈b8 es m->∃pre,b8 es m=pre++x::b8 es x/\∀y∈pre,y∈b8 es m/\x∈b8 es y
 | 0,m,x,h0,_,hn,_=>by lia
 | n+1,m,x,h0,h1,hn,a=>by
  have hm:=h.at h0 h1;have e:=rW h h0 h1;generalize f:es.getD m.toNat 0=k at hm e;by_cases c:k=-1
  .rw[e,dU c]at a;cases a
  .rw[cq c]at e;rw[e]at a;obtain rfl|a:=ew.1 a
   .exact#[[],by rw[e];rfl,λy b=>by cases b]
   .obtain⟨pre,d,p2⟩:=qk h n (m:=k) Wc Wc Wc a;refine#[k::pre,by rw[e,d];rfl,λy b=>?_];obtain rfl|b:=ew.1 b
    .exact#[by rw[e];exact eB,a]
    .exact#[by rw[e];exact eD _ (p2 y b).1,(p2 y b).2]
def g5(es:BA):Prop:=i6 es/\∀k:Nat,k+1<es.length->es.getD Qac 0=k\/es.getD Qac 0∈b8 es k
def Tv(c:QoI)(es:BA)(a b t:Int):Prop:=
 (t=-1/\∀x∈b8 es a,x∈b8 es b->c x=false)\/(t∈b8 es a/\t∈b8 es b/\c t=true/\∀x∈b8 es a,x∈b8 es b->c x=true->x=t\/x∈b8 es t)
variable{a:Int}
theorem Tv.symm{f:QoI}{b t:Int}(h:Tv f es a b t):Tv f es b a t:=by
 obtain⟨e,h⟩|⟨h1,h2,i,g⟩:=h
 .exact .inl #[e,λx d c=>h x c d]
 .exact .inr #[h2,h1,i,λx d c=>g x c d]
theorem Lq{es:BA}{x:Int}(h:i6 es):∀(n:Nat) {k:Int},-1<=k->k<es.length->uN n QdB k=uN n es k
 | 0,_,_,_=>rfl
 | n+1,k,h0,h1=>by
  rw[uN,uN];split
  .rfl
  .have a:=h.at Wc h1;have e:(es++[x]).getD k.toNat 0=es.getD k.toNat 0:=by
    rw[e5,oP Wc,<- e5]
   rw[e,Lq h n a.1 Wc]
def yO{k:Nat}(h:k<es.length):(es++[x]).getD k 0=es.getD k 0:=by
 rw[e5,oP h,<- e5]
theorem tu(h:i6 es)(h0:0<=m)(h1:QoW):b8 QdB m=b8 es m:=by
 have hm:=h.at h0 h1;unfold b8;rw[yO Wc,Lq h _ hm.1 Wc,yN h _ QeB hm.1 Wc WE Wc]
theorem i6.snoc(h:i6 es)(h0:-1<=x)(h1:x<es.length):i6 QdB:=λk a=>by
 simp at a;by_cases e:k<es.length
 .exact yO e▸h k e
 .have:k=es.length:=by lia
  simp_all
theorem g5.snoc(h:g5 es){k:Nat}(d:k+1=es.length)(b:x=k\/x∈b8 es k):g5 QdB:=by
 have a:-1<=x/\x<es.length:=by
  obtain e|e:=b
  .lia
  .have:=xA h.1 Wc Wc e;lia
 refine#[h.1.snoc a.1 a.2,λj c=>?_];simp at c;rw[tu h.1 Wc Wc];by_cases e:j+1<es.length
 .exact yO e▸h.2 j e
 .have:j=k:=by lia
  simp_all
theorem ql:∀(n:Nat) (es:BA) (k:Int),(uN n es k).length<=n
 | 0,_,_=>eA _
 | n+1,es,k=>by
  rw[uN];split
  .exact fv _
  .exact rf (ql n es _)
noncomputable def uO(es:BA)(m:Int):BA:=((List.range es.length).filter (λ(i:Nat)=>decide (es.getD i 0=m))).map (λ(i:Nat)=>(i:Int))
theorem Lr(h:x∈uO es m):0<=x/\x<es.length/\es.getD x.toNat 0=m:=by
 obtain⟨i,hi,rfl⟩:=eJ.1 h;obtain⟨h1,h2⟩:=ir.1 hi;have h1:=g4.1 h1;have h2:=eI h2;exact#[Wc,Wc,‹_› ]
def jG(bs nm:BC)(tr:L3.D)(is os ws:BC):L3.D:=.ins "Chart" [("boxes",.lst bs),("names",.lst nm),("tree",tr),("ins",.lst is),("outs",.lst os),("ways",.lst ws)]
section
variable{bs nm is os ws:BC}{tr:L3.D}
def f9:List.lookup ("boxes":Str) [(("boxes":Str),L3.D.lst bs),("names",.lst nm),("tree",tr),("ins",.lst is),("outs",.lst os),("ways",.lst ws)]=some (.lst bs):=K6
def cO:List.lookup ("names":Str) [(("boxes":Str),L3.D.lst bs),("names",.lst nm),("tree",tr),("ins",.lst is),("outs",.lst os),("ways",.lst ws)]=some (.lst nm):=rfl
def j8:List.lookup ("tree":Str) [(("boxes":Str),L3.D.lst bs),("names",.lst nm),("tree",tr),("ins",.lst is),("outs",.lst os),("ways",.lst ws)]=some tr:=rfl
def uP:List.lookup ("ins":Str) [(("boxes":Str),L3.D.lst bs),("names",.lst nm),("tree",tr),("ins",.lst is),("outs",.lst os),("ways",.lst ws)]=some (.lst is):=rfl
def rX:List.lookup ("outs":Str) [(("boxes":Str),L3.D.lst bs),("names",.lst nm),("tree",tr),("ins",.lst is),("outs",.lst os),("ways",.lst ws)]=some (.lst os):=rfl
def rY:List.lookup ("ways":Str) [(("boxes":Str),L3.D.lst bs),("names",.lst nm),("tree",tr),("ins",.lst is),("outs",.lst os),("ways",.lst ws)]=some (.lst ws):=rfl
end
def uQ(bs nm:BC):B1:=[("boxes",.lst (bs.map T.sh)),("names",.lst (nm.map T.sh))]
def uR(is os ws:BC):B1:=[("ins",.lst (is.map T.sh)),("outs",.lst (os.map T.sh)),("ways",.lst (ws.map T.sh))]
def lH(bs nm:BC)(t:T)(is os ws:BC):B1:=uQ bs nm++(("tree":Str),t)::uR is os ws
def yP(bs nm:BC)(t:T)(is os ws:BC):T.dJ (.ins "Chart" QuB)=jG bs nm t.dJ is os ws:=by
 unfold lH uQ uR;rw[iu,iu,List.nil_append,T.dJ,T.wm,T.wm,T.wm,T.wm,T.wm,T.wm,cI,cI,cI,cI,cI];rfl
def bM{ds:BC}(h:QgQ):(T.lst Qby).clean=true:=by
 rw[gY]
 induction ds with
 | nil=>rfl
 | cons d ds a=>
  rw[D.bC,fD]at h;rw[e4,T.cA,a h.2,T.clean,h.1];rfl
def tD{bs nm:BC}(h1:D.bC bs=true)(h2:D.bC nm=true):T.cC (uQ bs nm)=true:=by
 unfold uQ;rw[T.cC,T.cC,bM h1,bM h2];rfl
def tE{is os ws:BC}(h1:D.bC is=true)(h2:D.bC os=true)(a:D.bC ws=true):T.cC (uR is os ws)=true:=by
 unfold uR;rw[T.cC,T.cC,T.cC,bM h1,bM h2,bM a];rfl
def oZ(p:QcF):L3.D:=.tup [.str p.1,.int p.2]
noncomputable def eY(ns:BA)(k:Int):Int:=if k<ns.length then ns.getD k.toNat 0 else 0
noncomputable def wA:Ch:=(List.range 26).map (· + 97)++(List.range 10).map (· + 48)
def Tw:("abcdefghijklmnopqrstuvwxyz0123456789":Str).cps.toList=wA:=by decide +kernel
def yQ(k:Int):Str:=#[(List.toArray [wA.getD k.toNat 0])]
def aeF:∀n∈wA,n<1114112:=by decide +kernel
def Tz(k:Int):PyData.strOk (yQ k)=true:=by
 unfold PyData.strOk yQ;have:wA.getD k.toNat 0<1114112:=by
  simp;cases e:wA[k.toNat]? with
  | none=>decide
  | some n=>exact aeF n (gc e)
 simpa using this
def JI(m:Int):Int:=(m*48271+11) % 2147483647
def Ih(p:Int×Str):Nat->Int×Str
 | 0=>p
 | n+1=>(JI (Ih p n).1,(Ih p n).2++yQ (JI (Ih p n).1 % 36))
def yR(l:BA):qH 60 (.lst Qf0):=.lst λd hd=>by
 obtain⟨i,_,rfl⟩:=eJ.1 hd;exact .int _ _
noncomputable def CG:AT:=["all","and","box","call","do","far","if","in","leaf","near","on","one","open","out","put","say","shut","then","to"]
def isLt(c:Nat):Bool:=decide (97<=c)&&decide (c<=122)
noncomputable def iR(c:Nat):Bool:=decide (48<=c)&&decide (c<=57)
theorem yS(c:Nat):mq #[(List.toArray [c])] "abcdefghijklmnopqrstuvwxyz" = isLt c:=by
 unfold mq;rw[wu];have e:("abcdefghijklmnopqrstuvwxyz":Str).cps.toList=(List.range 26).map (· + 97):=rfl;rw[e];apply ou.2;simp[isLt];constructor
 .rintro⟨a,h,rfl⟩;lia
 .intro h;exact#[c-97,Wc,Wc]
theorem Ls(c:Nat):mq #[(List.toArray [c])] "abcdefghijklmnopqrstuvwxyz0123456789" = (isLt c || iR c):=by
 unfold mq;rw[wu];have e:("abcdefghijklmnopqrstuvwxyz0123456789":Str).cps.toList=(List.range 26).map (· + 97)++(List.range 10).map (· + 48):=rfl;rw[e];apply ou.2;simp[isLt,iR,fD,my,eC,eJ,g4];constructor
 .rintro(⟨a,h,rfl⟩|⟨a,h,rfl⟩)<;>lia
 .intro h;obtain h|h:=h
  .exact .inl #[c-97,Wc,Wc]
  .exact .inr #[c-48,Wc,Wc]
def aU(x:Str):Bool:=decide (1<=x.length)&&(decide (x.length<=12)&&(!decide QoF&&Qp3))
def CJ{x:Str}(h:x.length=0):x="":=by
 obtain⟨⟨l⟩⟩:=x;have:l.length=0:=h;have e:l=[]:=ti this;subst e;rfl
variable{j:Nat}
def yT{x:Str}{d:L3.D}(h:(gK x)[j]? = some d):∃c,d=.str #[(List.toArray [c])]/\x.cps.toList[j]? = some c:=by
 unfold gK at h;rw[fT]at h;obtain⟨c,a,rfl⟩:=j1.1 h;exact#[c,rfl,a]
def Ab(i:Int)(n:Nat):Bool:=decide (0<=i)&&decide (i<(n:Int))
noncomputable def Zq(i:Int):Bool:=decide (-(10 ^ (30:Int).toNat)<i)&&decide (i<10 ^ (30:Int).toNat)
def Ii(n:Nat)(a c:Int):Bool:=(decide (a=-1) || Ab a n)&&Zq c
inductive mT
 | kO (x:Str) (m:Int)
 | num (mk:Str) (a1 c1 a2 c2:Int)
noncomputable def nr:mT->L3.D
 | .kO x m=>.tup [.str x,.int m]
 | .num mk a1 c1 a2 c2=>.tup [.str mk,.tup [.int a1,.int c1],.tup [.int a2,.int c2]]
def va(n m:Nat):mT->Bool
 | .kO _ k=>Ab k n
 | .num mk a1 c1 a2 c2=>decide (mk∈(["<","<=","=","!="]:AT))&&(Ii m a1 c1&&Ii m a2 c2)
def Zr:mT->Prop
 | .kO x _=>x∈(["open","shut"]:AT)
 | .num mk _ _ _ _=>¬ mk∈(["open","shut"]:AT)
def TF:∀al:List mT,D.iV (.tup (al.map nr))=true:=λal=>cR (λq=>by cases q<;>rfl) al
def RO:L3.D->L3.D
 | .tup [_,_,_,d,_,_]=>d
 | d=>d
inductive Lk
 | put (i a c:Int)
 | say (x:Str) (a c:Int)
 | call (x:Str)
noncomputable def Lv:Lk->L3.D
 | .put i a c=>.tup [.str "put",.int i,.tup [.int a,.int c]]
 | .say x a c=>.tup [.str "say",.str x,.tup [.int a,.int c]]
 | .call x=>.tup [.str "call",.str x]
def nH:Lk->Prop
 | .put _ _ _=>True
 | .say x _ _=>x.length<=1000
 | .call x=>x.length<=1000
structure Zt where
 src:Int
 sign:Str
 al:List mT
 dl:List Lk
 m1:Int
 mode:Str
def Zu(w:Zt):L3.D:=.tup [.int w.src,.str w.sign,.tup (w.al.map nr),.tup (w.dl.map Lv),.int w.m1,.str w.mode]
noncomputable def CK(l:BA)(s:Int):BA:=if s∈l then l else l++[s]
def TH(l:BA):EQ:=l.map λs=>((Sum.inl s:Key),L3.D.bl true)
theorem Lw(l:BA)(s:Int):((TH l).any λa=>decide (a.1=Sum.inl s))=decide (s∈l):=by
 unfold TH
 induction l with
 | nil=>rfl
 | cons y l b=>
  by_cases h:y=s
  .subst h;simp
  .have h':¬ s=y:=λe=>h e.symm;simp_all
def Zv(l:BA)(s:Int):vU (TH l) (.inl s) QaG=TH (CK l s):=by
 unfold vU;rw[Lw];unfold CK;by_cases h:s∈l
 .rw[dU (e6 h),dU h];unfold TH;rw[ey];refine hE λy _=>?_;simp
 .rw[if_neg (by simpa using h),if_neg h];unfold TH;rw[eE];rfl
def adds(l:BA):BA:=l.foldl CK []
def OL(l:BA)(x:Int):adds QjU=CK (adds l) x:=by unfold adds;rw[i5];rfl
theorem uS:∀(l acc:BA),(l.foldl CK acc).length<=acc.length+l.length/\∀x,x∈l.foldl CK acc↔x∈acc\/x∈l
 | [],acc=>#[ W2,W2 ]
 | y::l,acc=>by
  obtain⟨h1,h2⟩:=uS l _;rw[kb];refine#[?_,λx=>(h2 x).trans ?_]
  .have:(CK acc y).length<=acc.length+1:=by unfold CK;split<;>simp
   grind
  .unfold CK;by_cases a:y∈acc
   .rw[dU a,ew];constructor
    .rintro(z|z)
     .exact .inl z
     .exact .inr (.inr z)
    lia
   .rw[cq a,eC,eR,ew,or_assoc]
def Zw(l:BA)(s:Int):(kN (TH l) (.inl s)).isSome=decide (s∈l):=by
 rw[<- Lw];unfold kN;generalize TH l=k
 induction k with
 | nil=>rfl
 | cons y k a=>
  rw[mB,lx];cases h:decide (y.1=Sum.inl s) with
  | true=>rfl
  | false=>exact a
def nN(n:Nat):Lk->Bool
 | .put i a c=>Ab i n&&Ii n a c
 | .say x a c=>aU x&&Ii n a c
 | .call x=>aU x
def Zt.Ok(n m:Nat)(w:Zt):Prop:=Ab w.src n=true/\(w.sign.length<=1000/\aU w.sign=true)/\w.mode∈(["new","near","far"]:AT)/\((w.m1=-1/\w.mode="new")\/(w.m1 ≠ -1/\Ab w.m1 n=true))/\∀q∈w.al,Zr q/\va n m q=true
def mc(q:QcF):L3.D:=.tup [.str q.1,.int q.2]
variable{α:Type}
theorem RI{p:Qcm}{l:QR}(h:∀(j:Nat) (x:α),l[j]? = some x->p x=true):l.all p=true:=hB.2 λx a=>by
 obtain⟨j,b,e⟩:=List.getElem_of_mem a;exact h j x WA
def TJ{p:Qcm}{l:QR}{x:α}(h:x∈l)(a:p x=false):l.all p=false:=xb.2 #[x,h,by rw[a];decide]
def uT(p:Qcm)(l:QR)(j:Nat):Prop:=∀(q:Nat) (x:α),q<j->l[q]? = some x->p x=true
theorem uT.zero{p:Qcm}{l:QR}:uT p l 0:=λq x h=>absurd h (Nat.not_lt_zero q)
theorem uT.next{p:Qcm}{l:QR}{x:α}(h:uT p l j)(b:l[j]? = some x)(hp:p x=true):uT p l QaH:=λq y c a=>by
 by_cases e:q=j
 .simp_all
 .exact h q y Wc a
theorem uT.all{p:Qcm}{l:QR}(h:uT p l l.length):l.all p=true:=RI λj x a=>h j x (hR.1 a).1 a
def oh(l:AT):Bool:=l.all aU&&decide l.Nodup
def Aq(l:DA):Bool:=l.all (λq=>Zq q.2)&&oh (l.map (·.1))
noncomputable def yU:AT:=["leaf","one","all"]
def r4(ks:AT)(es:BA)(m:Nat):Bool:=decide (ks.getD m Str.empty∈yU)&&(decide (ks.getD m Str.empty="leaf") == !decide ((m:Int)∈es))
def Ij(ks:AT)(es:BA):Bool:=(List.range ks.length).all (r4 ks es)
def TL(ks:AT)(es ss:BA)(m:Nat):Bool:=if ks.getD m Str.empty="one" then Ab (ss.getD m 0) es.length&&decide (es.getD (ss.getD m 0).toNat 0=(m:Int)) else decide (ss.getD m 0=-1)
def EW(ks:AT)(es ss:BA):Bool:=(List.range ss.length).all (TL ks es ss)
def Xq(p:QcW):L3.D:=.tup [.int p.1,.int p.2]
abbrev _root_.CU:=List (Int×Int)
theorem Lx{l:CU}{d:L3.D}(h:(l.map Xq)[j]? = some d):∃p,l[j]? = some p/\d=Xq p:=by
 rw[fT]at h;cases e:l[j]? with
 | none=>rw[e]at h;cases h
 | some p=>rw[e]at h;exact#[p,rfl,(fO h).symm]
def mC{l:QR}{p:α}(h:l[j]? = some p):l.take QaH=l.take j++[p]:=by
 rw[js,h];rfl
def OO:Nat->Int->Str->Str
 | 0,_,x=>x
 | n+1,r,x=>if 0<r then OO n Qpj Qnp else x
theorem Ly:∀(n:Nat) (r:Int) (x:Str),(OO n r x).length<=x.length+n
 | 0,r,x=>eA _
 | n+1,r,x=>by
  rw[OO];split
  .have:=Ly n Qpj Qnp;rw[str_len]at this;have e:(yQ (r % 36)).length=1:=rfl;lia
  .lia
theorem TN:∀(n:Nat) (r:Int) (x:Str),PyData.strOk x=true->PyData.strOk (OO n r x)=true
 | 0,r,x,h=>h
 | n+1,r,x,h=>by
  rw[OO];split
  .exact TN n _ _ (adL _ _ h (Tz _))
  .exact h
theorem Zx(n:Nat){r:Int}(x:Str)(h:¬ 0<r):OO n r x=x:=by
 cases n with
 | zero=>rfl
 | succ n=>rw[OO,cq h]
def tF(m:Int):Str:=OO 20 Qpk (yQ Qpl)
theorem TQ(m:Int):(tF m).length<=21:=by
 have:=Ly 20 Qpk (yQ Qpl);have e:(yQ Qpl).length=1:=rfl;unfold tF;lia
noncomputable def rr:AT:=["all","and","box","call","do","far","if","in","leaf","near","on","one","open","out","put","say","shut","then","to"]
def Xr(m:Int)(us:AT)(j:Nat):Bool:=!decide (tF QdN∈us) && !decide (tF QdN∈rr)
def jN(m:Int)(us:AT):Str:=match (List.range Qi2).find? Qpm with
 | some j=>tF QdN
 | none=>""
def OQ(m:Int)(us:AT):(jN m us).length<=21:=by
 unfold jN;split
 .exact TQ _
 .exact fv _
def TR(m:Int)(us:AT):PyData.strOk Qpn=true:=by
 unfold jN;split
 .exact TN _ _ _ (Tz _)
 .decide +kernel
variable{us:AT}
def TV(a:j<us.length+20)(b:∀i,i<j->Xr m us i=false)(h:Xr m us j=true):jN m us=tF QdN:=by
 have e:(List.range Qi2).find? Qpm=some j:=by
  rw[y6];exact#[h,g4.2 a,λi hi=>by rw[b i hi];rfl]
 unfold jN;rw[e]
def TX(a:∀i,i<us.length+20->Xr m us i=false):jN m us="":=by
 have e:(List.range Qi2).find? Qpm=none:=by
  rw[List.find?_eq_none];intro i hi;exact a i (g4.1 hi)▸gm
 unfold jN;rw[e]
def qI(c st:Int):Nat->AT
 | 0=>[]
 | n+1=>qI c st n++[jN (c+n*st) (qI c st n)]
theorem tG(c st:Int):∀n,(qI c st n).length=n
 | 0=>rfl
 | n+1=>by rw[qI,eP,tG c st n];rfl
theorem Lz(c st:Int):∀n,∀x∈qI c st n,x.length<=21/\PyData.strOk x=true
 | 0,x,h=>by cases h
 | n+1,x,h=>by
  obtain h|h:=eC.1 h
  .exact Lz c st n x h
  .cases eR.1 h;exact#[OQ _ _,TR _ _]
def Bo(s:BA):Int:=([1,26,936,33696,1213056]:BA).getD (eY s 1 % 5).toNat 0
def B5(s:BA)(n:Nat):AT:=qI (eY s 0 % (26*36 ^ (10:Int).toNat)) (Bo s) n
theorem EY(s:BA):0<=Bo s/\Bo s<=1213056:=by
 unfold Bo;have:(eY s 1 % 5).toNat=0\/(eY s 1 % 5).toNat=1\/(eY s 1 % 5).toNat=2\/(eY s 1 % 5).toNat=3\/(eY s 1 % 5).toNat=4:=by lia
 obtain e|e|e|e|e:=this<;>rw[e]<;>decide
def cy(es:BA)(k:Nat):BA:=if (12:Int)<(([(k:Int)]++b8 es k).length:Nat) then cutD ([(k:Int)]++b8 es k) QdF none else [(k:Int)]++b8 es k
theorem pe{k:Nat}(h:i6 es)(f:k+1=es.length):0<(cy es k).length/\(cy es k).length<=es.length+2/\∀x∈cy es k,0<=x/\x<es.length:=by
 have hm:∀x∈[(k:Int)]++b8 es k,0<=x/\x<es.length:=λx a=>by
  obtain h1|h1:=eC.1 a
  .have:x=k:=eR.1 h1;lia
  .have c:=h.at (k:=k) Wc Wc;have:=CF h _ c.1 Wc h1;lia
 have d:([(k:Int)]++b8 es k).length<=es.length+2:=by
  have:=ql QeB es (es.getD (k:Int).toNat 0);rw[eP];unfold b8;rw[hH];lia
 unfold cy;split
 .have e:cutD ([(k:Int)]++b8 es k) QdF none=b8 es k:=by simp[cutD,eP,hH,HT.iy]
  rw[e];have b:=eP (as:=[(k:Int)]) (bs:=b8 es k);rw[hH]at b;exact#[Wc,Wc,λx a=>hm x (fx _ a)]
 simp_all
theorem getD_mem{l:BA}{n:Nat}(h:n<l.length):l.getD n 0∈l:=by simp_all
def mD(es:BA)(p:QcW):BA:=if p.1 % 8<3 then es++[(cy es QiG).getD (p.1 / 8 % ((cy es QiG).length:Nat)).toNat 0] else es
def TY(l:CU):BA:=l.foldl mD [-1]
theorem Zy(p:QcW)(h:i6 es)(h0:Qjx):i6 Qpo/\(mD es p).length=es.length+Qrf:=by
 unfold mD;split
 .obtain⟨e,d,a⟩:=pe (k:=es.length-1) h Wc;have b2:=hI Qgf (b:=((cy es QiG).length)) Wc;have c:=a _ (getD_mem (n:=(p.1 / 8 % ((cy es QiG).length)).toNat) Wc);refine#[h.snoc Wc c.2,?_];simp
 simp_all
def lI:CU->Nat
 | []=>0
 | p::r=>(if p.1 % 8<3 then 1 else 0)+lI r
theorem CM:∀(l:CU) (es:BA),i6 es->0<es.length->i6 Qnw/\(l.foldl mD es).length=es.length+lI l
 | [],es,h,h0=>#[h,rfl]
 | p::r,es,h,h0=>by
  obtain⟨a,c⟩:=Zy p h h0;obtain⟨a2,c2⟩:=CM r _ a Wc;refine#[a2,?_];rw[kb,c2,c,lI];lia
theorem tH:i6 [-1]:=λk a=>by
 have:k=0:=by
  rw[hH]at a;lia
 subst this;exact#[Int.le_refl _,show(-1:Int)<((0:Nat):Int) by decide]
theorem qm:∀l:CU,lI l<=l.length
 | []=>eA _
 | p::r=>by
  have:=qm r;rw[lI,gv];split<;>lia
def CN(l:CU):i6 (TY l)/\(TY l).length=1+lI l:=CM l [-1] tH (mi 0)
def yV(l:CU):BA:=(l.filter λp=>decide (p.1 % 8<3)).map (·.2)
theorem rZ:∀l:CU,(yV l).length=lI l
 | []=>rfl
 | p::r=>by
  have:=rZ r;unfold yV at this ⊢;rw[lI,List.filter_cons];split
  .rename_i h;rw[dU (eI h),e4,gv,this];lia
  simp_all
def kindB(es cs:BA)(k:Nat):Str:=if uO es k=[] then "leaf" else if cs.getD k 0 % 2=1 then "all" else "one"
def nY(es cs:BA)(k:Nat):Int:=if uO es k=[] then -1 else if cs.getD k 0 % 2=1 then -1 else(uO es k).getD (cs.getD k 0 / 2 % ((uO es k).length:Nat)).toNat 0
def fG(es cs:BA)(n:Nat):AT:=(List.range n).map (kindB es cs)
def fQ(es cs:BA)(n:Nat):BA:=(List.range n).map (nY es cs)
def yW(es cs:BA)(n:Nat):(fG es cs n).length=n:=by rw[fG,eu,gz]
def yX(es cs:BA)(n:Nat):(fQ es cs n).length=n:=by rw[fQ,eu,gz]
def pA(es cs:BA)(n:Nat){x:Str}(h:x=kindB es cs n):((fG es cs n).map L3.D.str).map T.sh++[T.sh Qax]=((fG es cs Qap).map L3.D.str).map T.sh:=by
 subst h;rw[fG,fG,lb,eE,eE,eE];rfl
def EZ(es cs:BA)(n:Nat)(h:x=nY es cs n):((fQ es cs n).map L3.D.int).map T.sh++[T.sh QjL]=((fQ es cs Qap).map L3.D.int).map T.sh:=by
 subst h;rw[fQ,fQ,lb,eE,eE,eE];rfl
def Sm:Nat->L3.D->Prop
 | _,.int _=>True
 | _,.str _=>True
 | n+1,.lst ds=>ds.length<=1000/\∀d∈ds,Sm n d
 | n+1,.tup ds=>ds.length<=1000/\∀d∈ds,Sm n d
 | _,_=>False
def Ik(bs:BC)(ns ks:AT)(es ss:BA)(is os ws:BC):L3.D:=.lst [.lst bs,.lst Qex,.lst QcA,.lst Qbz,.lst QcB,.lst is,.lst os,.lst ws]
structure tK(P:Qkh)(d:L3.D):Prop where
 im:d.iV=true
 sm:∀n,Sm (n+2) d
 dp:∀n,qH (n+2) d
 pr:P d
def iI(nb:Nat)(d:L3.D):Prop:=∃a c:Int,d=.tup [.int a,.int c]/\(a=-1\/(0<=a/\a<nb))/\c.natAbs<10 ^ 30
def jH(nb:Nat)(d:L3.D):Prop:=(∃n:Str,d=.tup [.str "call",.str n]/\n.length<=21)\/(∃(k:Int) (t:L3.D),d=.tup [.str "put",.int k,t]/\(0<=k/\k<nb)/\iI nb t)\/(∃(n:Str) (t:L3.D),d=.tup [.str "say",.str n,t]/\n.length<=21/\iI nb t)
def pB(nb nm:Nat)(d:L3.D):Prop:=(∃(w:Str) (k:Int),d=.tup [.str w,.int k]/\(w="open" \/ w="shut")/\0<=k/\k<nm)\/(∃(w:Str) (s t:L3.D),d=.tup [.str w,s,t]/\w∈(["<","<=","=","!="]:AT)/\iI nb s/\iI nb t)
def join_eq(l:AT):Txt.join " " l=Str.join " " l:=vT _ _
variable{l:AT}
theorem tL(h:(l.map (·.length)).sum+l.length<=100000):JoinOk " " l=true:=by
 unfold JoinOk;rw[StrLaws.joinTotal,kq];have e:(" ":Str).length=1:=rfl;rw[e,Nat.mul_one];refine fw ?_;rw[fR];lia
def T3(a c d:Str):Txt.join " " [a,c,d]=a++" " ++ c++" " ++ d:=by
 rw[join_eq];show a++" " ++ (c++" " ++ d)=_;rw[mf (a++" ") c " ",mf (a++" ") (c++" ") d]
noncomputable def CP(c:Int):Int:=if c % 2=1 then 0-c / 2 % 10 ^ (30:Int).toNat else c / 2 % 10 ^ (30:Int).toNat
def mV(p c:Int)(n:Nat):L3.D:=.tup [.int (p % ((n:Int)+1)-1),.int (CP c)]
def Zz(c:Int)(n:Nat):Int:=c % ((n:Int)+1)-1
def T4(a c:Int)(n:Nat):Str:=if Zz c n=-1 then "new" else(["new","near","far"]:AT).getD (a / 8 % 3).toNat Str.empty
def BO(a c src:Int)(n:Nat)(ns:AT):L3.D:=.tup [.int src,.str (ns.getD (a / 24 % (ns.length:Int)).toNat Str.empty),.tup [],.tup [],.int (Zz c n),.str (T4 a c n)]
def Il(a c:Int)(n m:Nat):L3.D:=if a / 8 % 6 > 3 then .tup [.str ((["open","shut"]:AT).getD (a / 8 % 6-4).toNat Str.empty),.int (c % (m:Int))]
 else .tup [.str ((["<","<=","=","!="]:AT).getD (a / 8 % 6).toNat Str.empty),mV (a / 8 / 6) c n,mV (a / 8 / 24) QhS n]
def j9(a c:Int)(n:Nat)(ns:AT):L3.D:=if a / 8 % 3=0 then .tup [.str "call",.str QqH]
 else if a / 8 % 3=1/\0<n then .tup [.str "put",.int (a / 24 / 4 % (n:Int)),mV QjI (c / 3) n] else .tup [.str "say",.str QqH,mV QjI (c / 3) n]
structure WY where
 src:Int
 sg:Str
 qs:BC
 ds:BC
 tg:Int
 md:Str
def WY.d(w:WY):L3.D:=.tup [.int w.src,.str w.sg,.tup w.qs,.tup w.ds,.int w.tg,.str w.md]
abbrev _root_.Da:=List BC
structure OW where
 is:Da
 os:Da
 ws:List WY
noncomputable def l6:WY:=#[0,Str.empty,[],[],0,Str.empty]
def G1(a c src:Int)(n:Nat)(ns:AT):WY:=#[src,ns.getD (a / 24 % (ns.length:Int)).toNat Str.empty,[],[],Zz c n,T4 a c n]
def eZ(l:Qbe):WY:=l.getD Qb6 l6
def g6(l:Da)(d:L3.D):Da:=l.set Qb6 Qvl
def i9(nb nm:Nat)(ns:AT)(o:OW)(p:QcW):OW:=
 if p.1 % 8<3 then#[o.is++[[]],o.os++[[]],o.ws]
 else if p.1 % 8=3 then#[g6 o.is QfK,o.os,o.ws]
 else if p.1 % 8=4 then#[o.is,g6 o.os QfK,o.ws]
 else if p.1 % 8=5\/o.ws=[]\/(eZ o.ws).src≠(o.is.length:Int)-1 then#[o.is,o.os,o.ws++[G1 p.1 p.2 ((o.is.length:Int)-1) nm ns]]
 else if p.1 % 8=6 then#[o.is,o.os,o.ws.set Qda {eZ o.ws with qs:=(eZ o.ws).qs++[Il p.1 p.2 nb nm]}]
 else#[o.is,o.os,o.ws.set Qda {eZ o.ws with ds:=(eZ o.ws).ds++[j9 p.1 p.2 nb ns]}]
def OS:OW:=#[[[]],[[]],[]]
structure M1(nm:Nat)(w:WY):Prop where
 s1:PyData.strOk w.sg=true
 s2:PyData.strOk w.md=true
 s3:w.sg.length<=21
 tg:w.tg=-1/\w.md="new" \/ Qio/\w.md∈(["new","near","far"]:AT)
structure qJ(nb nm m k:Nat)(w:WY):Prop where
 l3:w.qs.length+w.ds.length<=k
 g1:∀d∈w.qs,tK (pB nb nm) d
 g2:∀d∈w.ds,tK Qe0 d
 fin:M1 nm w
 sr:0<=w.src/\w.src<m
structure kP(P:Qkh)(k:Nat)(l:BC):Prop where
 l1:l.length<=k
 g1:∀d∈l,tK P d
structure CQ(nb nm k:Nat)(o:OW):Prop where
 n0:0<o.is.length
 n1:o.is.length<=k+1
 n2:o.os.length=o.is.length
 ii:∀l∈o.is,kP Qe0 k l
 oo:∀l∈o.os,kP Qe0 k l
 wl:o.ws.length<=k
 ww:∀w∈o.ws,qJ nb nm o.is.length k w
variable{nb:Nat}
theorem qJ.up{nm m a k:Nat}{w:WY}(h:Qi7)(hm:m<=a):qJ nb nm a Qac w:=#[hU h.l3,h.g1,h.g2,h.fin,h.sr.1,by have:=h.sr.2;lia]
theorem qJ.l1{nm m k:Nat}{w:WY}(h:Qi7):w.qs.length<=k:=by have:=h.l3;lia
theorem qJ.l2{nm m k:Nat}{w:WY}(h:Qi7):w.ds.length<=k:=by have:=h.l3;lia
variable{P:Qkh}
theorem kP.up{k:Nat}{l:BC}(h:kP P k l):kP P Qac l:=#[hU h.l1,h.g1]
theorem kP.add{k:Nat}{l:BC}{d:L3.D}(h:kP P k l)(g:tK P d):kP P Qac (l++[d]):=by
 refine#[?_,λx a=>?_]
 .have:=h.l1;simp;lia
 .obtain a|a:=eC.1 a
  .exact h.g1 x a
  simp_all
theorem kP.nil(P:Qkh)(k:Nat):kP P k []:=#[fv _,λx a=>by cases a]
theorem iJ{l:QR}(z:α)(h:Qki):l.getD Qb6 z∈l:=by
 rw[e5,gh Wc];exact sk _
def E2{k:Nat}{l:Da}{d:L3.D}(h0:Qki)(h:∀x∈l,kP P k x)(g:tK P d):∀x∈g6 l d,kP P Qac x:=λx a=>by
 obtain a|rfl:=oN a
 .exact(h x a).up
 .exact(h _ QoX).add g
def xB(n:Nat)(p c:Int)(nb:Nat):Sm Qap QoG:=by
 refine#[by show 2<=1000;decide,λd hd=>?_];obtain rfl|hd:=ew.1 hd
 .cases n<;>trivial
 .cases eR.1 hd;cases n<;>trivial
def xC(n:Nat)(p c:Int)(nb:Nat):qH Qap QoG:=by
 refine .tup λd hd=>?_;obtain rfl|hd:=ew.1 hd
 .exact .int _ _
 .cases eR.1 hd;exact .int _ _
def good2{x y:L3.D}(b:P Qjj)(a:x.iV=true)(a2:y.iV=true)(c:∀n,Sm Qap x)(c2:∀n,Sm Qap y)(e:∀n,qH Qap x)(e2:∀n,qH Qap y):tK P Qjj:=by
 refine#[?_,λn=>#[by show(2:Nat)<=1000;decide,λd hd=>?_],λn=>.tup λd hd=>?_,b]
 .rw[L3.D.iV,D.bC,D.bC,D.bC,a,a2];rfl
 .obtain rfl|hd:=ew.1 hd
  .exact c n
  .cases eR.1 hd;exact c2 n
 .obtain rfl|hd:=ew.1 hd
  .exact e n
  .cases eR.1 hd;exact e2 n
def good3{x y z:L3.D}(b:P (.tup [x,y,z]))(a:x.iV=true)(a2:y.iV=true)(a3:z.iV=true)(c:∀n,Sm Qap x)(c2:∀n,Sm Qap y)(f:∀n,Sm Qap z)(e:∀n,qH Qap x)(e2:∀n,qH Qap y)(e3:∀n,qH Qap z):tK P (.tup [x,y,z]):=by
 refine#[?_,λn=>#[by show 3<=1000;decide,λd hd=>?_],λn=>.tup λd hd=>?_,b]
 .rw[L3.D.iV,D.bC,D.bC,D.bC,a,a2,a3];rfl
 .obtain rfl|hd:=ew.1 hd
  .exact c n
  obtain rfl|hd:=ew.1 hd
  .exact c2 n
  .cases eR.1 hd;exact f n
 .obtain rfl|hd:=ew.1 hd
  .exact e n
  obtain rfl|hd:=ew.1 hd
  .exact e2 n
  .cases eR.1 hd;exact e3 n
def r6(n:Nat)(x:Str):Sm Qap Qax:=trivial
def T5(n:Nat)(x:Int):Sm Qap QjL:=trivial
theorem qp(h:∀x∈l,PyData.strOk x=true)(k:Nat):PyData.strOk (l.getD k Str.empty)=true:=by
 simp;cases e:l[k]? with
 | none=>decide +kernel
 | some x=>exact h x (gc e)
theorem yZ(h:∀x∈l,x.length<=21)(k:Nat):(l.getD k Str.empty).length<=21:=by
 rw[e5];cases e:l[k]? with
 | none=>exact fv _
 | some x=>exact h x (gc e)
theorem T6(c:Int):(CP c).natAbs<10 ^ 30:=by
 have d:=hI (c / 2) (show 0<10 ^ (30:Int).toNat by decide +kernel);unfold CP;split<;>lia
theorem qq(p c:Int)(nb:Nat):iI nb QoG:=by
 have a:=hF p (show((nb:Int)+1)≠0 by lia);have d:=hI p (show 0<(nb:Int)+1 by lia);exact#[_,_,rfl,Wc,T6 c]
structure OU(ns:AT):Prop where
 ln:∀x∈ns,x.length<=21
 ok:∀x∈ns,PyData.strOk x=true
variable{ns:AT}
theorem jY(a c:Int)(nb:Nat)(h:OU ns):tK Qe0 (j9 a c nb ns):=by
 unfold j9;split
 .exact good2 (.inl #[_,rfl,yZ h.ln _]) rfl rfl Qdg Qdg Qmd QrL
 split
 .exact good3 (.inr Qq0) rfl rfl rfl Qdg Qvm Qia Qmd QuC Qib
 .exact good3 (.inr (.inr #[_,_,rfl,yZ h.ln _,qq _ _ _])) rfl rfl rfl Qdg Qdg Qia Qmd QrL Qib
def lJ{k:Nat}(h:QgV):l.getD k Str.empty∈l:=by
 rw[e5,gh h];exact sk h
theorem E3(a c:Int)(nb:Nat){nm:Nat}(h:0<nm):tK (pB nb nm) (Il a c nb nm):=by
 unfold Il;split
 .refine good2 (.inl #[_,_,rfl,?_,hF _ Wc,hI _ Wc]) rfl rfl Qdg Qvm Qs6 QuC;have:=lJ (l:=["open","shut"]) (k:=(a / 8 % 6-4).toNat) (by show _<2;lia);simp_all
 .exact good3 (.inr #[_,_,_,rfl,lJ (by show _<4;lia),qq _ _ _,qq _ _ _]) rfl rfl rfl Qdg Qia Qia Qs6 Qib Qib
def aeM(a c:Int)(n:Nat):PyData.strOk (T4 a c n)=true:=by
 unfold T4;split
 .decide +kernel
 .exact qp Wl _
theorem ZC(a c src:Int){nm:Nat}(h:OU ns):M1 nm (G1 a c src nm ns):=by
 have m0:=hF c (show((nm:Int)+1)≠0 by lia);have b:=hI c (show 0<(nm:Int)+1 by lia);refine#[qp h.ok _,aeM _ _ _,yZ h.ln _,?_];show Zz c nm=-1/\T4 a c nm="new" \/ (0<=Zz c nm/\Zz c nm<nm)/\T4 a c nm∈(["new","near","far"]:AT);unfold T4;split
 .rename_i e;exact .inl #[e,rfl]
 .rename_i e;refine .inr #[?_,lJ (by show _<3;lia)];unfold Zz at e ⊢;lia
def T7{nm m k:Nat}{l:Qbe}{w:WY}(h:∀x∈l,qJ nb nm m k x)(hw:qJ nb nm m Qac w):∀x∈l.set j w,qJ nb nm m Qac x:=λx a=>by
 obtain a|rfl:=oN a
 .exact(h x a).up (eA _)
 .exact hw
theorem CT{P:Qo4}{l:QR}{y:α}(h:∀x∈l,P x)(b:P y):∀x∈l++[y],P x:=λx a=>by
 obtain a|a:=eC.1 a
 .exact h x a
 simp_all
theorem ZD{k nm:Nat}{o:OW}(p:QcW)(hn:OU ns)(hm:0<nm)(h:CQ nb nm k o):CQ nb nm Qac Qiz:=by
 obtain⟨n0,n1,n2,ii,oo,wl,ww⟩:=h;have c:∀l∈o.is,kP Qe0 Qac l:=λl a=>(ii l a).up;have b:∀l∈o.os,kP Qe0 Qac l:=λl a=>(oo l a).up;have e:∀w∈o.ws,qJ nb nm o.is.length Qac w:=λw hw=>(ww w hw).up (eA _);unfold i9;split
 .have e1:(o.is++[[]]).length=o.is.length+1:=by rw[eP,hH]
  refine#[?_,?_,?_,CT c (kP.nil _ _),CT b (kP.nil _ _),hU wl,λw hw=>(ww w hw).up ?_]
  .show 0<(o.is++[[]]).length;lia
  .show(o.is++[[]]).length<=_;lia
  .show(o.os++[[]]).length=(o.is++[[]]).length;rw[eP,eP,n2]
  .show o.is.length<=(o.is++[[]]).length;lia
 split
 .have e1:(g6 o.is QfK).length=o.is.length:=by rw[g6,kc]
  refine#[?_,?_,?_,E2 n0 ii (jY _ _ _ hn),b,hU wl,λw hw=>(ww w hw).up ?_]
  .show 0<(g6 o.is _).length;lia
  .show(g6 o.is _).length<=_;lia
  .show o.os.length=(g6 o.is _).length;lia
  .show o.is.length<=(g6 o.is _).length;lia
 split
 .refine#[n0,hU n1,?_,c,E2 Wc oo (jY _ _ _ hn),hU wl,e];show(g6 o.os _).length=_;rw[g6,kc,n2]
 split
 .refine#[n0,hU n1,n2,c,b,?_,CT e #[fv _,(λd hd=>by cases hd),(λd hd=>by cases hd),ZC _ _ _ hn,?_]]
  .show(o.ws++[_]).length<=_;rw[eP,hH];lia
  .show 0<=(o.is.length:Int)-1/\(o.is.length:Int)-1<o.is.length;lia
 rename_i hz;have g:o.ws≠[]:=λz=>hz Qnq;have a:qJ nb nm o.is.length k Qgg:=ww _ (iJ l6 (iU.2 g));have hlen:∀w,(o.ws.set Qda w).length<=k+1:=λw=>by
  rw[kc];lia
 split
 .have:=(kP.mk a.l1 a.g1).add (E3 p.1 p.2 nb hm);have f:=a.l3;exact#[n0,hU n1,n2,c,b,hlen _,T7 ww #[by show((eZ o.ws).qs++[_]).length+(eZ o.ws).ds.length<=_;rw[eP,hH];lia,this.g1,a.g2,#[a.fin.1,a.fin.2,a.fin.3,a.fin.4],a.sr]]
 .have:=(kP.mk a.l2 a.g2).add (jY p.1 p.2 nb hn);have f:=a.l3;exact#[n0,hU n1,n2,c,b,hlen _,T7 ww #[by show(eZ o.ws).qs.length+((eZ o.ws).ds++[_]).length<=_;rw[eP,hH];lia,a.g1,this.g1,#[a.fin.1,a.fin.2,a.fin.3,a.fin.4],a.sr]]
theorem Im{nb nm:Nat}{ns:AT}(hn:OU ns)(hm:0<nm):∀(l:CU) (k:Nat) (o:OW),CQ nb nm k o->CQ nb nm (k+l.length) QmI
 | [],k,o,h=>h
 | p::r,k,o,h=>by
  have:=Im hn hm r _ _ (ZD p hn hm h);simp
  rwa [show k+Qom=k+1+r.length by lia]
def T8(nb nm:Nat):CQ nb nm 0 OS:=#[eA _,eA _,rfl,λl a=>by cases eR.1 a;exact kP.nil _ _,λl a=>by cases eR.1 a;exact kP.nil _ _,eA _,λw hw=>by cases hw]
def T9(nb nm:Nat)(ns:AT)(l:CU):OW:=l.foldl Qde OS
def y9{k:Nat}{l:BC}(h:kP P k l):(L3.D.tup l).iV=true:=by
 rw[L3.D.iV];exact fE λd hd=>(h.g1 d hd).im
section
variable{nm m k:Nat}
def Io{w:WY}(h:Qi7):w.d.iV=true:=by
 have a:=y9 #[h.l1,h.g1];have c:=y9 #[h.l2,h.g2];show(L3.D.tup _).iV=true;rw[L3.D.iV,D.bC,D.bC,D.bC,D.bC,a,c];rfl
def LC{l:Da}(h:∀x∈l,kP P k x):D.bC Qwq=true:=fE λd hd=>by
 obtain⟨x,a,rfl⟩:=eJ.1 hd;exact y9 (h x a)
def ZE{l:Qbe}(h:∀x∈l,qJ nb nm m k x):D.bC (l.map WY.d)=true:=fE λd hd=>by
 obtain⟨x,a,rfl⟩:=eJ.1 hd;exact Io (h x a)
def aeN{l:Qbe}(h:∀x∈l,qJ nb nm m k x):qH 60 (.lst (l.map WY.d)):=by
 refine .lst λd hd=>?_;obtain⟨x,a,rfl⟩:=eJ.1 hd;have a:=h x a;refine .tup λd hd=>?_;obtain rfl|hd:=ew.1 hd
 .exact .int _ _
 obtain rfl|hd:=ew.1 hd
 .exact .str _ _ a.fin.s1
 obtain rfl|hd:=ew.1 hd
 .exact .tup λd hd=>(a.g1 d hd).dp 55
 obtain rfl|hd:=ew.1 hd
 .exact .tup λd hd=>(a.g2 d hd).dp 55
 obtain rfl|hd:=ew.1 hd
 .exact .int _ _
 .cases eR.1 hd;exact .str _ _ a.fin.s2
end
theorem CV(ds:BC):R0 QbC Qf7=decide (ds=[]):=by
 cases ds with
 | nil=>decide +kernel
 | cons d ds=>
  rfl
theorem tM{n:Nat}(h:0<n):GY n (-1)=some (n-1):=by
 unfold GY;rw[cq Wp,dU Wc];congr 1;lia
theorem pC{f:Qb1}{l:QR}(z:α)(h:Qki):sA QbD (-1)=some QuD:=by
 unfold sA;rw[eu,tM h];show(l.map f)[l.length-1]? = _;rw[fT,e5,gh Wc];rfl
theorem Ua{f:Qb1}{l:QR}(z:α)(h:Qki):sA QbD ((l.length:Int)-1)=some QuD:=by
 have:=gE (f:=f) (l:=l) (k:=l.length-1) z Wc Wc;simp_all
theorem Ub{n:Nat}(h:0<n):GY n ((n:Int)-1)=some (n-1):=by
 unfold GY;rw[dU Wc,dU Wc];congr 1;lia
def DZ(l:Da):T:=.lst ((l.map L3.D.tup).map T.sh)
def Uc(l:Qbe):T:=.lst ((l.map WY.d).map T.sh)
def E4(l:Da):T.lst ((l.map L3.D.tup).map T.sh++[T.sh (.tup [])])=DZ (l++[[]]):=by
 rw[DZ,eE,eE];rfl
def Ud(l:Qbe)(w:WY):T.lst ((l.map WY.d).map T.sh++[T.sh w.d])=Uc (l++[w]):=by
 rw[Uc,eE,eE];rfl
def LD(l:Da)(d:L3.D):T.lst (((l.map L3.D.tup).map T.sh).set Qb6 (T.sh (.tup Qvl)))=DZ (g6 l d):=by
 rw[DZ,g6,nZ,nZ]
def LJ(l:Qbe)(j:Nat)(w:WY):T.lst (((l.map WY.d).map T.sh).set j (T.sh w.d))=Uc (l.set j w):=by
 rw[Uc,nZ,nZ]
def CW{bs nm is os ws:BC}{t:T}(h1:D.bC bs=true)(h2:D.bC nm=true)(d:t.clean=true)(c:D.bC is=true)(b:D.bC os=true)(a:D.bC ws=true):T.cC QuB=true:=by
 unfold lH uQ uR;rw[iu,iu,List.nil_append,T.cC,T.cC,T.cC,T.cC,T.cC,T.cC,bM h1,bM h2,d,bM c,bM b,bM a];rfl
def RG:¬ (HT.iy 6 0 none=0/\HT.iy 6 6 Qgo=6):=by decide
noncomputable def JP:¬ (HT.iy 6 0 (some 3)=0/\HT.iy 6 6 none=6):=by decide
def RF:¬ (HT.iy 6 0 none=0/\HT.iy 6 6 (some 3)=6):=by decide
def RE:¬ (HT.iy 6 0 (some 4)=0/\HT.iy 6 6 none=6):=by decide
def aS:L3.D->Nat->L3.D
 | .tup ds,k=>ds.getD k .non
 | _,_=>.non
def sI(i:Int):Str:=Str.ofString QiH
variable{i:Int}
def kg(h:i.natAbs<10 ^ 30):(sI i).length<=31:=by
 have:=int_text_length_le10 (k:=30) Wp h;unfold sI;rw[ofString_length];exact this
def Ue(h:i.natAbs<10 ^ 30):i.natAbs.log2<1920:=by
 by_cases z:i.natAbs=0
 .rw[z];decide
 .exact(Nat.log2_lt z).2 (Nat.lt_trans h Wl)
def ZF(a c:QaP):Str.ofString (a++c)=Str.ofString a++Str.ofString c:=by
 rw[Str.ofString_eq_toList,Str.ofString_eq_toList,Str.ofString_eq_toList];apply Str.ext';show((a++c).toList.map _).toArray=(a.toList.map _).toArray++(c.toList.map _).toArray;simp
def Ug(h:i<0):sI i="-" ++ sI (i.natAbs:Int):=by
 obtain⟨n,rfl⟩:=Int.eq_negSucc_of_lt_zero h;exact ZF "-" _
def xD(k:Int):Str:=if 0<k then "+" else "-"
def LK(k:Int):(xD k).length=1:=by
 unfold xD;split<;>rfl
def eG(bn:AT)(d:L3.D):Str:=if (aS d 0).jF=-1 then sI (aS d 1).jF else if (aS d 1).jF=0 then bn.getD (aS d 0).jF.toNat Str.empty
 else bn.getD (aS d 0).jF.toNat Str.empty++xD (aS d 1).jF++sI ((aS d 1).jF.natAbs:Int)
def dQ(bn:AT)(d:L3.D):Str:=if (aS d 0).toS="call" then "call " ++ (aS d 1).toS
 else(aS d 0).toS++" " ++ QpT++" " ++ eG bn Qbi
def mE(bn ns:AT)(d:L3.D):Str:=if d.cnt=2 then(aS d 0).toS++" " ++ ns.getD (aS d 1).jF.toNat Str.empty
 else eG bn QdH++" " ++ (aS d 0).toS++" " ++ eG bn Qbi
def qu(bn:AT)(a k:Int):eG bn (.tup [.int a,.int k])=if a=-1 then sI k else if k=0 then bn.getD a.toNat Str.empty else bn.getD a.toNat Str.empty++xD k++sI (k.natAbs:Int):=rfl
def Ip(bn:AT)(n:Str):dQ bn QtL="call " ++ n:=dU rfl
def OV(bn:AT)(k:Int)(t:L3.D):dQ bn QhC="put" ++ " " ++ bn.getD k.toNat Str.empty++" " ++ eG bn t:=rfl
def OX(bn:AT)(n:Str)(t:L3.D):dQ bn QhD="say" ++ " " ++ n++" " ++ eG bn t:=rfl
def Uh(bn ns:AT)(w:Str)(k:Int):mE bn ns (.tup [.str w,.int k])=w++" " ++ ns.getD k.toNat Str.empty:=rfl
def Iq(bn ns:AT)(w:Str)(s t:L3.D):mE bn ns (.tup [.str w,s,t])=eG bn s++" " ++ w++" " ++ eG bn t:=rfl
theorem pD(h:∀x∈l,x.length<=21)(k:Nat):(l.getD k Str.empty).length<=21:=by
 rw[e5];cases e:l[k]? with
 | none=>exact fv _
 | some x=>exact h x (gc e)
theorem qv{bn:AT}{d:L3.D}(h:∀x∈bn,x.length<=21)(hd:iI nb d):(eG bn d).length<=53:=by
 obtain⟨a,c,rfl,_,b⟩:=hd;have e:=pD h a.toNat;have e2:=kg b;have e3:=kg (i:=c.natAbs) ‹_›;show(if a=-1 then sI c else if c=0 then bn.getD a.toNat _ else bn.getD a.toNat _++xD c++sI c.natAbs).length<=53;split
 .lia
 split
 .lia
 .rw[str_len,str_len];have:=LK c;lia
theorem E5{bn:AT}{d:L3.D}(h:∀x∈bn,x.length<=21)(hd:jH nb d):(dQ bn d).length<=110:=by
 obtain⟨n,rfl,hn⟩|⟨k,t,rfl,_,a⟩|⟨n,t,rfl,hn,a⟩:=hd
 .show(("call ":Str)++n).length<=110;rw[str_len];have:("call ":Str).length=5:=rfl;lia
 .have:=qv h a;have e:=pD h k.toNat;show(("put":Str)++" " ++ bn.getD k.toNat Str.empty++" " ++ eG bn t).length<=110;rw[str_len,str_len,str_len,str_len];have:("put":Str).length=3:=rfl;have:(" ":Str).length=1:=rfl;lia
 .have:=qv h a;show(("say":Str)++" " ++ n++" " ++ eG bn t).length<=110;rw[str_len,str_len,str_len,str_len];have:("say":Str).length=3:=rfl;have:(" ":Str).length=1:=rfl;lia
def jn(a:Str)(l:AT):Str:=l.foldl (λx w=>x++" " ++ w) a
theorem Ui(z:Str):∀(l:AT) (a:Str),z++jn a l=jn (z++a) l
 | [],a=>rfl
 | w::l,a=>by
  show z++jn _ l=jn (z++a++" " ++ w) l;rw[Ui z l,mf z a " ",mf z _ w]
theorem qx:∀(l:AT) (a:Str),Txt.join " " (a::l)=jn a l
 | [],a=>rfl
 | w::l,a=>by
  have b:=qx l w;rw[join_eq]at b ⊢;show a++" " ++ Str.join " " _=jn _ l;rw[b,Ui]
def uU(f g:Str):AT->AT
 | []=>[]
 | t::r=>f::t::r.flatMap λx=>[g,x]
theorem Uj(f g:Str)(l:AT)(t:Str):uU f g (l++[t])=uU f g l++[if l=[] then f else g,t]:=by
 cases l with
 | nil=>rfl
 | cons x r=>
  show f::x::(r++[t]).flatMap _=_;simp;rfl
theorem k8(f g:Str)(l:AT):(uU f g l).length=2*l.length:=by
 cases l with
 | nil=>rfl
 | cons x r=>
  show(f::x::r.flatMap _).length=_;have:∀r:AT,(r.flatMap λy=>[g,y]).length=2*r.length:=λr=>by
   induction r with
   | nil=>rfl
   | cons y r a=>
    rw[h9,eP,a];show 2+2*r.length=2*Qom;lia
  rw[gv,gv,this,gv];lia
structure CH where
 bs:DA
 ns:AT
 ks:AT
 es:BA
 ss:BA
 is:Da
 os:Da
 ws:List WY
def CH.d(c:CH):L3.D:=jG Qey QiL Qvn QiM QiN Qeq
def CH.p(c:CH):L3.D:=Ik Qey c.ns c.ks c.es c.ss QiM QiN Qeq
def CH.bn(c:CH):AT:=c.bs.map (·.1)
structure Jn(c:CH):Prop where
 nl:c.ns.length=c.es.length
 kl:c.ks.length=c.es.length
 sl:c.ss.length=c.es.length
 il:c.is.length=c.es.length
 e0:0<c.es.length
 e1:c.es.length<=41
 tr:i6 c.es
 nk:∀x∈c.ns,x.length<=21
 b3:c.bs.length<=3
 bk:∀p∈c.bs,p.1.length<=21/\p.2.natAbs<10 ^ 30
 kk:∀x∈c.ks,x.length<=4
 one:∀m,m<c.es.length->(c.ks.getD m Str.empty="one"->0<=c.ss.getD m 0/\c.ss.getD m 0<c.es.length)/\(c.ks.getD m Str.empty≠"one"->c.ss.getD m 0=-1)
 ow:CQ c.bs.length c.es.length 40 #[c.is,c.os,c.ws]
variable{c:CH}
theorem MW(h0:0<=k)(h1:k<c.bs.length):sA Qey k=some (.tup [.str (c.bn.getD k.toNat Str.empty),.int (c.bs.getD k.toNat (Str.empty,0)).2]):=by
 rw[gE (f:=oZ) (Str.empty,0) h0 h1];have a:k.toNat<c.bs.length:=by lia
 unfold CH.bn;rw[e5,e5,fT,gh a];rfl
def OY(ns:AT)(w:WY):AT:=if w.tg=-1 then [] else ["to",ns.getD w.tg.toNat Str.empty]
def LN(w:WY):AT:=if w.md="new" then [] else [w.md]
def Xs(bn ns:AT)(w:WY):AT:=w.sg::(uU "if" "and" (w.qs.map (mE bn ns))++uU "do" "then" (w.ds.map (dQ bn))++(OY ns w++LN w))
def As(bn ns:AT)(w:WY):Str:=jn "on" (Xs bn ns w)
def Uk(c:CH)(m:Nat):Str:=jn Qc5 (c.ns.getD m Str.empty::if c.ks.getD m Str.empty="one" then [c.ns.getD (c.ss.getD m 0).toNat Str.empty] else [])
def Au(c:CH)(m:Nat):Str:=Txt.mul " " ((b8 c.es m).length:Nat)
def E6(c:CH)(m:Nat):AT:=(c.is.getD m []).map (λd=>"in " ++ dQ c.bn d)++(c.os.getD m []).map λd=>"out " ++ dQ c.bn d
def ju(c:CH)(l:Qbe)(m:Nat):AT:=(l.filter λw=>decide QbP).map (As c.bn c.ns)
def qK(c:CH)(m:Nat):AT:=E6 c m++ju c c.ws m
def tN(c:CH)(m:Nat):AT:=(Au c m++Uk c m)::(qK c m).map λt=>Au c m++" " ++ t
def Ul(p:QcF):Str:="box " ++ p.1++" " ++ sI p.2
def kh(c:CH)(n:Nat):AT:=c.bs.map Ul++(List.range n).flatMap (tN c)
def Bp(c:CH)(n:Nat):kh c Qap=kh c n++tN c n:=by
 unfold kh;rw[lb,oa,fb];simp
theorem aeO{n:Nat}(h:n<=1000):MulOk " " (n:Int):=by
 have e:(" ":Str).length=1:=rfl;refine#[WF,λh1 _=>?_,λ_ _=>?_]
 .rw[e];have:(1:Int)<=(2 ^ 63-1) / n:=Int.le_ediv_of_mul_le Wc Wc;lia
 .rw[e,i4];apply fw;rw[fR];lia
def mU(l:AT):Nat:=(l.map (·.length)).sum+l.length
theorem k9(l r:AT):mU (l++r)=mU l+mU r:=by
 unfold mU;rw[eE,la,eP];lia
def b9(a c:Str):(a++c).cps.toList=a.cps.toList++c.cps.toList:=PySem.W.KT.app_list a c
def ja{a c:Str}(h:a.cps.toList=c.cps.toList):a=c:=Str.ext' (Array.toList_inj.1 h)
theorem LQ{c:Nat}:∀{p q r s:Ch},c∉p->c∉q->p++c::r=q++c::s->p=q/\r=s
 | [],[],_,_,_,_,h=>#[rfl,(i8 h).2]
 | [],y::q,_,_,_,a,h=>absurd (i8 h).1 (λe=>a (e▸eB))
 | x::p,[],_,_,hp,_,h=>absurd (i8 h).1 (λe=>hp (e▸eB))
 | x::p,y::q,r,s,hp,a,h=>by
  obtain⟨e1,e2⟩:=i8 h;obtain⟨e3,b⟩:=LQ (λz=>hp (eD _ z)) (λz=>a (eD _ z)) e2;simp_all
def mF(c:Nat)(a e:Str)(l:AT):(Str.join #[(List.toArray [c])] (a::e::l)).cps.toList=a.cps.toList++c::(Str.join #[(List.toArray [c])] (e::l)).cps.toList:=by
 show((a++(#[ _ ]))++Str.join _ _).cps.toList=_;rw[b9,b9,fb];rfl
theorem E7{c:Nat}:∀{l m:AT},l≠[]->m≠[]->(∀p∈l,c∉p.cps.toList)->(∀p∈m,c∉p.cps.toList)->(Str.join #[(List.toArray [c])] l).cps.toList=(Str.join #[(List.toArray [c])] m).cps.toList->l=m
 | [],_,h,_,_,_,_=>absurd rfl h
 | _::_,[],_,h,_,_,_=>absurd rfl h
 | [a],[d],_,_,_,_,e=>by rw[show a=d from ja e]
 | [a],d::d2::m,_,_,b,_,e=>absurd (by
   rw[show a.cps.toList=_ from e,mF];exact fx _ eB) (b a eB)
 | a::a2::l,[d],_,_,_,hm,e=>absurd (by
   rw[show d.cps.toList=_ from e.symm,mF];exact fx _ eB) (hm d eB)
 | a::a2::l,d::d2::m,_,_,b,hm,e=>by
  rw[mF,mF]at e;obtain⟨e1,e2⟩:=LQ (b a eB) (hm d eB) e;have:=E7 W2 W2 (λp hp=>b p Qpp) (λp hp=>hm p Qpp) e2;rw[this,ja e1]
def aeP{x:Str}{c:Nat}(h:Qii)(lim:Nat)(a:1<=lim):∃i r,Builtin.Str.occurrences x #[(List.toArray [c])] 0 x.length lim=i::r/\x.cps.toList[i]? = some c/\∀k,k<i->x.cps.toList[k]? ≠ some c:=by
 obtain⟨_,h2⟩|⟨i,r,h1,h2,f⟩:=StrLaws.occ_head x _ lim a
 .obtain⟨j,d⟩:=List.getElem?_of_mem h;exact absurd ((xa x c j).2 d) (h2 j)
 .exact#[i,r,h1,(xa x c i).1 h2,λk b e=>f k b ((xa x c k).2 e)]
def aeQ{x:Str}{c:Nat}(h:c∉x.cps.toList)(lim:Nat)(a:1<=lim):Builtin.Str.occurrences x #[(List.toArray [c])] 0 x.length lim=[]:=by
 obtain⟨h1,_⟩|⟨i,r,h1,h2,b⟩:=StrLaws.occ_head x _ lim a
 .exact h1
 .exact absurd (gc ((xa x c i).1 h2)) h
def CY{x:Str}{c:Nat}(h:c∉x.cps.toList):part3 x #[(List.toArray [c])]=[x,"",""]:=by
 unfold part3;rw[aeQ h 1 (eA _)];rfl
theorem E8{a r:Str}{c:Nat}(h:c∉a.cps.toList):part3 (a++#[(List.toArray [c])]++r) #[(List.toArray [c])]=[a,#[(List.toArray [c])],r]:=by
 have e:(a++#[(List.toArray [c])]++r).cps.toList=a.cps.toList++c::r.cps.toList:=by
  rw[b9,b9,fb];rfl
 have f:c∈(a++#[(List.toArray [c])]++r).cps.toList:=by
  rw[e];exact fx _ eB
 obtain⟨i,s,b,h1,h2⟩:=aeP f 1 (eA _);have hi:i=a.cps.toList.length:=by
  obtain z|z|z:=Nat.lt_trichotomy i a.cps.toList.length
  .rw[e,oP z]at h1;exact absurd (gc h1) h
  .exact z
  .refine absurd ?_ (h2 _ z);rw[e,lz (eA _),Nat.sub_self];rfl
 unfold part3;rw[b];subst hi;have j:Builtin.Str.strSub (a++#[(List.toArray [c])]++r) 0 a.cps.toList.length=a:=ja (by
  rw[vI,e,List.drop_zero,Nat.sub_zero,List.take_left])
 have g:Builtin.Str.strSub (a++#[(List.toArray [c])]++r) (a.cps.toList.length+(#[(List.toArray [c])]:Str).length) (a++#[(List.toArray [c])]++r).length=r:=ja (by
  have d:(a++#[(List.toArray [c])]++r).length=a.cps.toList.length+1+r.cps.toList.length:=by
   rw[str_len,str_len];show a.length+1+r.length=_;rw[zq,zq];rfl
  have hd:(a.cps.toList++c::r.cps.toList).drop QlK=r.cps.toList:=by
   rw[List.drop_append];simp
  rw[vI,e,d];show List.take (a.cps.toList.length+1+r.cps.toList.length-QlK) (List.drop QlK _)=_;rw[hd,z1,hZ])
 simp_all
theorem vV{x:Str}{n:Nat}(h:x.cps.toList.takeWhile (λc=>(" ":Str).cps.contains c)=x.cps.toList.take n)(hn:n<=x.cps.toList.length):(Txt.lstripChars x " ").cps.toList=x.cps.toList.drop n:=by
 have e:(x.cps.toList.takeWhile ((" ":Str).cps.contains)).length=n:=by rw[h,hM];lia
 unfold Txt.lstripChars;rw[PySem.W.stripBy_eq];show(Builtin.Str.strSub x (x.cps.toList.takeWhile _).length x.length).cps.toList=_;rw[e,vI];exact tm (mu▸eA _)
def iK(x:Str):Bool:=decide (1<=x.length)&&(decide (x.length<=30)&&(!decide (x.cps.toList.getD 0 0=48)&&x.cps.toList.all iR))
noncomputable def ki(x:Str):Str:=if x.cps.toList.head? = some 45 then#[(x.cps.toList.drop 1).toArray] else x
def jO(x:Str):Bool:=decide (x="0") || iK (ki x)
theorem LR(c:Nat):mq #[(List.toArray [c])] "0123456789" = iR c:=by
 unfold mq;rw[wu];have e:("0123456789":Str).cps.toList=(List.range 10).map (· + 48):=rfl;rw[e];apply ou.2;simp[iR];constructor
 .rintro⟨a,h,rfl⟩;lia
 .intro h;exact#[c-48,Wc,Wc]
def r9(m:Nat):(sI (m:Int)).cps.toList=(Nat.toDigits 10 m).map Char.toNat:=PySem.W.KIN.signs_num m
def sd(m:Nat):PySem.NumText.AllDigits (sI (m:Int)).cps.toList:=λc a=>by
 rw[r9]at a;obtain⟨ch,b,e⟩:=eJ.1 a;have r:=PyProof.Rows.digit_range (Nat.isDigit_of_mem_toDigits Wp Wp b);exact e▸r
def LV(m:Nat):(sI (m:Int)).cps.toList≠[]:=by
 rw[r9];intro e;have h:=PySem.toDigits_len_ge 10 m;rw[lp.1 e]at h;exact absurd h Wp
theorem Um:∀m:Nat,0<m->(sI (m:Int)).cps.toList.getD 0 0≠48:=by
 intro m;rw[r9]
 induction m using Nat.strongRecOn with
 | ind m a=>
  intro h0;by_cases hm:m<10
  .rw[zt hm];have:∀k,k<10->0<k->([Nat.digitChar k].map Char.toNat).getD 0 0≠48:=by decide
   exact this m hm h0
  .have t:Nat.toDigits 10 Qpq++Nat.toDigits 10 (m % 10)=Nat.toDigits 10 _:=Nat.toDigits_append_toDigits Wp Wc Wc;rw[Nat.div_add_mod]at t;have:=a Qpq Wc Wc;have b:=PySem.toDigits_len_ge 10 Qpq;rw[<- t,eE];cases e:(Nat.toDigits 10 _).map _ with
   | nil=>
    rw[lp.1 e]at b;simp_all
   | cons c l=>
    rw[e]at this;exact this
theorem E9{m:Nat}(h:m<10 ^ 30):(sI (m:Int)).length<=30:=PyProof.Rows.toString_length_le Wc Wp (by
  have:=Int.ofNat_lt.2 h;exact this)
def aR(x:Str):x.cps.toList.length=x.length:=zq
def Ir{m:Nat}(h0:0<m)(h:m<10 ^ 30):iK (sI (m:Int))=true:=by
 unfold iK;have h1:1<=(sI m).length:=iU.2 (LV m);rw[e6 h1,e6 (E9 h),fw (Um m h0),hB.2 λc a=>?_]
 .rfl
 .have:=sd m c a;unfold iR;rw[e6 this.1,e6 this.2];rfl
theorem ZG(m:Nat):(sI (m:Int)).cps.toList.head? ≠ some 45:=by
 have hd:=sd m;cases e:(sI _).cps.toList with
 | nil=>exactλz=>nomatch z
 | cons c l=>
  intro z;have:=fO z;have:=hd c (e▸eB);lia
def tO(h:i<0):(sI i).cps.toList=45::(sI (i.natAbs:Int)).cps.toList:=by
 rw[Ug h,b9];rfl
theorem Uo(h:i.natAbs<10 ^ 30):jO (sI i)=true:=by
 unfold jO ki;by_cases h0:i<0
 .rw[tO h0,dU W2];have e:(#[((45::(sI _).cps.toList).drop 1).toArray]:Str)=sI i.natAbs:=ja rfl;rw[e,Ir Wc h,Bool.or_true]
 .obtain⟨m,rfl⟩:=tw (show 0<=i by lia);have h:m<10 ^ 30:=h;rw[cq (ZG m)];by_cases hm:m=0
  .subst hm;rfl
  .rw[Ir Wc h,Bool.or_true]
theorem za(h:i.natAbs<10 ^ 30):intText? (sI i)=some i:=by
 have a:=kg h;by_cases h0:i<0
 .have:=PySem.intText_neg (tO h0) (sd _) (LV _) Wc;rw[this,r9,PySem.W.KIN.val_back];grind
 .obtain⟨m,rfl⟩:=tw (show 0<=i by lia);have:=PySem.intText_digits (sd m) (LV m) Wc;rw[this,r9,PySem.W.KIN.val_back]
theorem mG(i:Int):∀c∈(sI i).cps.toList,c=45\/(48<=c/\c<=57):=by
 intro c a;by_cases h0:i<0
 .rw[tO h0]at a;obtain h|h:=ew.1 a
  .exact .inl h
  .exact .inr (sd _ c h)
 .obtain⟨m,rfl⟩:=tw (show 0<=i by lia);exact .inr (sd m c a)
def eK{x:Str}(h:QcX):1<=x.length/\x.length<=12/\(97<=x.cps.toList.getD 0 0/\x.cps.toList.getD 0 0<=122)/\∀c∈x.cps.toList,(97<=c/\c<=122)\/(48<=c/\c<=57):=by
 unfold aU isLt iR at h;simp only[fD,hq,hB,my]at h;exact#[h.1,h.2.1,h.2.2.2.1,h.2.2.2.2]
theorem ZH{x:Str}(h:QcX):∃c l,x.cps.toList=c::l/\97<=c/\c<=122:=by
 obtain⟨h1,_,a,_⟩:=eK h;cases e:x.cps.toList with
 | nil=>
  rw[<- aR,e]at h1;simp_all
 | cons c l=>
  rw[e]at a;exact#[c,l,rfl,a]
theorem Iu{x:Str}{c:Nat}{l:Ch}(e:x.cps.toList=c::l)(a:97<=c):jO x=false:=by
 unfold jO ki;have h1:¬ x="0":=λz=>by
  subst z;have:("0":Str).cps.toList=[48]:=by decide +kernel
  rw[this]at e;have:=(i8 e).1;lia
 rw[fw h1,e,cq (by intro z;have:c=45:=fO z;lia)];unfold iK;rw[e,n3];have:iR c=false:=by
  unfold iR;rw[fw (show ¬ c<=57 by lia),ip]
 rw[this];simp
noncomputable def vb(c:Nat):Nat:=if 97<=c then c-97 else c-22
def ZI:Ch->Nat
 | []=>0
 | c::l=>vb c+36*ZI l
def Up:∀k:Nat,k<36->(isLt Qjb || iR Qjb)=true/\vb Qjb=k/\(k<26->isLt Qjb=true):=by
 decide +kernel
theorem LW:∀(n:Nat) (r:Int) (x:Str),0<=r->r<36 ^ n->∃t,(OO n r x).cps.toList=x.cps.toList++t/\(ZI t:Int)=r/\(∀c∈t,(isLt c || iR c)=true)/\∀k:Nat,r<36 ^ k->t.length<=k
 | 0,r,x,h0,h1=>#[[],by rw[OO,ft],by
   have:r<1:=h1;show((0:Nat):Int)=r;lia,λc a=>by(cases a),λk _=>fv _]
 | n+1,r,x,h0,h1=>by
  rw[OO];split
  .rename_i hp;obtain⟨t,e1,e2,e3,d⟩:=LW n Qpj Qnp (Int.ediv_nonneg h0 Wp) (Int.ediv_lt_of_lt_mul Wp (by rw[<- Int.pow_succ];exact h1));obtain⟨c1,c2,_⟩:=Up (r % 36).toNat Wc;refine#[wA.getD (r % 36).toNat 0::t,?_,?_,λc a=>?_,λk b=>?_]
   .rw[e1,b9,fb];rfl
   .show((vb (wA.getD (r % 36).toNat 0)+36*ZI t:Nat):Int)=r;rw[c2];lia
   .obtain rfl|a:=ew.1 a
    .exact c1
    .exact e3 c a
   .cases k with
    | zero=>
     have:r<1:=b;lia
    | succ k=>
     have:=d k (Int.ediv_lt_of_lt_mul Wp (by rw[<- Int.pow_succ];exact b));rw[gv];lia
  .exact#[[],by rw[ft],by
    show((0:Nat):Int)=r;lia,λc a=>by(cases a),λk _=>fv _]
theorem zb(h0:0<=m)(h1:QlF):∃c t,(tF m).cps.toList=c::t/\isLt c=true/\((vb c+26*ZI t:Nat):Int)=m/\(∀c∈t,(isLt c || iR c)=true)/\t.length<=11:=by
 obtain⟨t,e1,e2,e3,a⟩:=LW 20 Qpk _ Wc Wc;obtain⟨_,c2,b⟩:=Up (m % 26).toNat Wc;refine#[ _,t,e1,b Wc,?_,e3,a 11 Wc ];rw[c2];lia
theorem Uq{n:Int}(h0:0<=m)(h1:QlF)(k0:0<=n)(k1:n<26*131621703842267136)(h:tF m=tF n):m=n:=by
 obtain⟨c,t,e1,_,e2,_⟩:=zb h0 h1;obtain⟨d,u,g1,_,g2,_⟩:=zb k0 k1;simp_all
theorem Bq{α β:Type}{f:Qka}:∀{l:QR},(∀x∈l,∀y∈l,f x=f y->x=y)->l.Nodup->(l.map f).Nodup
 | [],_,_=>.nil
 | a::l,h,n=>by
  obtain⟨n1,n2⟩:=iq.1 n;refine iq.2 #[λhm=>?_,Bq (λx c y b=>h x QcQ y QbF) n2];obtain⟨y,b,e⟩:=eJ.1 hm;exact n1 (h y QbF a eB e▸b)
theorem ZJ(h0:0<=m)(h1:QlF)(h:tF m∉rr):aU (tF m)=true:=by
 obtain⟨c,t,e1,e2,_,e3,b⟩:=zb h0 h1;have a:(tF m).length=t.length+1:=by rw[<- aR,e1];rfl
 unfold aU;rw[e6 Wc,e6 Wc,fw ‹_›,e1];show(true&&(true&&(!false&&(isLt c&&(c::t).all _))))=true;simp_all
theorem Fb(h0:0<=m)(h1:Qsn):aU Qpn=true:=by
 unfold jN;split
 .rename_i j e;obtain⟨h2,f,_⟩:=y6.1 e;have b:=g4.1 f;unfold Xr at h2;simp at h2;exact ZJ Wc Wc h2.2
 .rename_i e;have g:=List.find?_eq_none.1 e;have d:(List.range _).map _ ⊆ us++rr:=λx a=>by
   obtain⟨j,b,rfl⟩:=eJ.1 a;have:=g j b;unfold Xr at this;simp at this;by_cases z:tF QdN∈us
   .exact hj _ z
   .exact fx _ (this z)
  have hn:((List.range Qi2).map _).Nodup:=Bq (λx a y c e=>by
   have:=g4.1 a;have:=g4.1 c;have:=Uq (n:=m+y) Wc Wc Wc Wc e;lia) List.nodup_range
  have:=hn.length_le_of_subset d;simp at this;have e:rr.length=19:=rfl;lia
structure LT where
 n0:Str
 md:Str
 n2:Str
 f:Int
 a:Int
 c:Int
structure ZK(p:LT):Prop where
 n0:aU p.n0=true
 md:aU p.md=true
 n2:aU p.n2=true
 f:p.f.natAbs<10 ^ 30
 a:p.a=-1\/p.a=0
 c:p.c.natAbs<10 ^ 30
def rv(n:Str)(a c:Int):Str:=if a=-1 then sI c else if c=0 then n else n++xD c++sI (c.natAbs:Int)
def LT.tt(p:LT):Str:=rv p.n0 p.a p.c
def LT.ws(p:LT):Nat->AT
 | 0=>["box",p.n0,sI p.f]
 | 1=>["leaf",p.md]
 | 2=>["in","put",p.n0,p.tt]
 | _=>["out","call",p.n2]
def iL(k:Int):xD k=#[(List.toArray [if 0<k then 43 else 45])]:=by
 unfold xD;split<;>decide +kernel
theorem Fe{p:LT}(h:ZK p):∀c∈p.tt.cps.toList,33<=c:=by
 intro c a;have hn:=(eK h.n0).2.2.2;have b:=mG;unfold LT.tt rv at a;split at a
 .have:=b p.c c a;lia
 split at a
 .have:=hn c a;lia
 .rw[iL,b9,b9]at a;obtain a|a:=eC.1 a
  .obtain a|a:=eC.1 a
   .have:=hn c a;lia
   .have:=eR.1 a;lia
  .have:=b _ c a;lia
theorem ah0{p:LT}(h:ZK p):∀i,∀w∈p.ws i,∀c∈w.cps.toList,33<=c:=by
 have lit:∀w∈(["box","leaf","in","put","out","call"]:AT),∀c∈w.cps.toList,33<=c:=by decide +kernel
 have nm:∀{x:Str},aU x=true->∀c∈x.cps.toList,33<=c:=λd c a=>by
  have:=(eK d).2.2.2 c a;lia
 have b:∀c∈(sI p.f).cps.toList,33<=c:=λc a=>by
  have:=mG p.f c a;lia
 intro i
 match i with
 | 0=>
  intro w hw;simp only[LT.ws,ew,fo,hx]at hw;obtain rfl|rfl|rfl:=hw
  .exact lit _ Wl
  .exact nm h.n0
  .exact b
 | 1=>
  intro w hw;simp only[LT.ws,ew,fo,hx]at hw;obtain rfl|rfl:=hw
  .exact lit _ Wl
  .exact nm h.md
 | 2=>
  intro w hw;simp only[LT.ws,ew,fo,hx]at hw;obtain rfl|rfl|rfl|rfl:=hw
  .exact lit _ Wl
  .exact lit _ Wl
  .exact nm h.n0
  .exact Fe h
 | _+3=>
  intro w hw;simp only[LT.ws,ew,fo,hx]at hw;obtain rfl|rfl|rfl:=hw
  .exact lit _ Wl
  .exact lit _ Wl
  .exact nm h.n2
def qy:(" ":Str)=#[(List.toArray [32])]:=by decide +kernel
theorem zc{c:Nat}:∀{l:AT} {d:Nat},d∈(Str.join #[(List.toArray [c])] l).cps.toList->d=c\/∃w∈l,d∈w.cps.toList
 | [],d,h=>by
  cases h
 | [a],d,h=>.inr #[a,eB,h]
 | a::e::l,d,h=>by
  rw[mF]at h;obtain h|h:=eC.1 h
  .exact .inr #[a,eB,h]
  .obtain h|h:=ew.1 h
   .exact .inl h
   .obtain h|⟨w,hw,hd⟩:=zc h
    .exact .inl h
    .exact .inr #[w,eD _ hw,hd]
theorem aeR{p:LT}(h:ZK p):p.tt.length<=53:=by
 have h1:=(eK h.n0).2.1;have h2:=kg h.c;have a:=kg (by rw[Int.natAbs_natCast];exact h.c);unfold LT.tt rv;split
 .lia
 split
 .lia
 .rw[str_len,str_len];have:=LK p.c;lia
theorem Ff{c:Nat}{n:Nat}:∀{l:AT},(∀w∈l,w.length<=n)->(Str.join #[(List.toArray [c])] l).length<=l.length*Qap
 | [],_=>fv _
 | [a],h=>by
  have:=h a eB;show a.length<=1*Qap;lia
 | a::e::l,h=>by
  have h1:=h a W2;have h2:=Ff (c:=c) λw hw=>h w Qi9;have e3:(Str.join #[(List.toArray [c])] (a::e::l)).length=a.length+1+(Str.join #[(List.toArray [c])] (e::l)).length:=by
   show((a++(#[(List.toArray [c])]))++Str.join _ _).length=_;rw[str_len,str_len];rfl
  rw[e3,gv];lia
theorem sz{n:Nat}(h:n<=10000):n<=sizeLine:=by rw[fR];lia
def gb{x:Str}(h:QcX):¬ x="":=λz=>by
 subst z;exact absurd (eK h).1 Wp
theorem LX{x:Str}(h:QcX){c:Nat}(a:c<48):c∉x.cps.toList:=λz=>by
 have:=(eK h).2.2.2 c z;lia
theorem aeS(m:Nat){c:Nat}(a:c<48):c∉(sI (m:Int)).cps.toList:=λz=>by
 have:=sd m c z;lia
def bB:AT:=["leaf","one","all"]
def join_one(y a:Str):Str.join y [a]=a:=rfl
def g7(y a c:Str)(l:AT):Str.join y (a::c::l)=a++y++Str.join y (c::l):=rfl
theorem tP(y:Str):∀(l m:AT),l≠[]->m≠[]->Str.join y (l++m)=Str.join y l++y++Str.join y m
 | [],_,h,_=>absurd rfl h
 | _::_,[],_,h=>absurd rfl h
 | [a],c::m,_,_=>rfl
 | a::d::l,c::m,_,_=>by
  have:=tP y (d::l) (c::m) Qch W2;show a++y++Str.join y ((d::l)++(c::m))=a++y++Str.join y _++y++Str.join y _;rw[this];simp[mf]
abbrev _root_.CS:=List AT
theorem Br(y:Str):∀(l:CS),(∀x∈l,x≠[])->Str.join y l.flatten=Str.join y (l.map (Str.join y))
 | [],_=>rfl
 | [x],_=>by
  simp;rfl
 | x::z::l,h=>by
  have a:=Br y _ λx b=>h x QbF;have hz:=h z (eD _ eB);rw[q3,tP y x _ (h x eB) (by
   exactλe=>hz (we.1 e).1),a]
  rfl
theorem lg(n:Nat):(Txt.mul " " (n:Int)).cps.toList=List.replicate n 32:=by
 have:∀(k:Nat) (a:Array Nat),((List.replicate k (" ":Str).cps).foldl _ a).toList=a.toList++List.replicate k 32:=λk=>by
  induction k with
  | zero=>simp
  | succ k b=>
   intro a;rw[List.replicate_succ,kb,b,Array.toList_append,fb];rfl
 unfold Txt.mul;split
 .have:n=0:=by lia
  subst this;rfl
 split
 .rename_i h;have:n=1:=by
   rw[show((" ":Str).length==0)=false from rfl,Bool.or_false,i3]at h;lia
  subst this;rfl
 simp_all
def Ur(n:Nat):Txt.mul " " (n:Int)++" " = Txt.mul " " ((n+1:Nat):Int):=ja (by
 rw[b9,lg,lg,List.replicate_succ',qy])
theorem Us{n:Nat}{l:Ch}(h:l.head? ≠ some 32):(List.replicate n 32++l).takeWhile (λc=>(" ":Str).cps.contains c)=List.replicate n 32:=by
 have e:(" ":Str).cps=(List.toArray [32]):=rfl
 induction n with
 | zero=>
  simp;cases l with
  | nil=>rfl
  | cons c l=>
   rw[List.takeWhile_cons_of_neg WA]
 | succ n a=>
  rw[List.replicate_succ,iu,List.takeWhile_cons_of_pos WA,a]
theorem OZ{n:Nat}{x:Str}(h:x.cps.toList.head? ≠ some 32):Txt.lstripChars (Txt.mul " " (n:Int)++x) " " = x:=ja (by
 have ec:(Txt.mul " " n++x).cps.toList=List.replicate n 32++x.cps.toList:=by rw[b9,lg]
 refine(vV (n:=n) ?_ ?_).trans ?_
 .rw[ec,Us h,List.take_left' kx]
 .rw[ec,eP,kx];lia
 .rw[ec,List.drop_left' kx])
def dW(bn:AT)(d:L3.D):AT:=if (aS d 0).toS="call" then ["call",(aS d 1).toS] else [(aS d 0).toS,if (aS d 0).toS="put" then bn.getD (aS d 1).jF.toNat Str.empty else(aS d 1).toS,eG bn Qbi]
def aW(bn ns:AT)(d:L3.D):AT:=if d.cnt=2 then [(aS d 0).toS,ns.getD (aS d 1).jF.toNat Str.empty] else [eG bn QdH,(aS d 0).toS,eG bn Qbi]
def tC(bn:AT)(d:L3.D):L3.D:=.tup [.str (if (aS d 0).jF=-1 then "" else bn.getD (aS d 0).jF.toNat Str.empty),aS d 1]
def dC(bn:AT)(d:L3.D):L3.D:=if (aS d 0).toS="call" then d else .tup [aS d 0,.str QpT,tC bn Qbi]
def aC(bn ns:AT)(d:L3.D):L3.D:=if d.cnt=2 then .tup [aS d 0,.str Qru] else .tup [aS d 0,tC bn QdH,tC bn Qbi]
def LY(bn:AT)(d:L3.D):dQ bn d=Str.join " " (dW bn d):=by
 unfold dQ dW;split
 .rfl
 .rw[g7,g7,join_one];simp only[mf]
def ZL(bn ns:AT)(d:L3.D):mE bn ns d=Str.join " " (aW bn ns d):=by
 unfold mE aW;split
 .rfl
 .rw[g7,g7,join_one];simp only[mf]
def lk(f g:Str):CS->CS
 | []=>[]
 | t::r=>(f::t)::r.map (g::·)
def Ut(ns:AT)(w:WY):CS:=if w.tg=-1 then [] else [("to":Str)::ns.getD w.tg.toNat Str.empty::LN w]
def wP(bn ns:AT)(w:WY):CS:=["on",w.sg]::(lk "if" "and" (w.qs.map QoY)++lk "do" "then" (w.ds.map (dW bn))++Ut ns w)
theorem Uu(f g:Str):∀(l:CS),(∀x∈l,x≠[])->uU f g (l.map (Str.join " "))≠[]->Str.join " " (uU f g (l.map (Str.join " ")))=Str.join " " (lk f g l).flatten
 | [],_,h=>absurd rfl h
 | t::r,d,k=>by
  clear k;have two:∀(f:Str) (t:AT),t≠[]->Str.join " " [f,Str.join " " t]=Str.join " " (f::t):=λf t i=>by
   cases t with
   | nil=>exact absurd rfl i
   | cons a t=>rfl
  have ev:∀(r:CS),(∀x∈r,x≠[])->(r.map (Str.join " ")).flatMap (λx=>[g,x])=(r.flatMap λx=>[[g],x]).map (Str.join " "):=λr j=>by
   induction r with
   | nil=>rfl
   | cons x r e=>
    rw[e4,h9,h9,eE,e λy c=>j y QcQ];rfl
  have e1:uU f g ((t::r).map (Str.join " "))=(([f]::t::r.flatMap λx=>[[g],x])).map (Str.join " "):=by
   show f::Str.join " " t::(r.map (Str.join " ")).flatMap _=_;rw[ev r λy c=>d y QcQ];rfl
  rw[e1,<- Br]
  .congr 1;show [f]++(t++(r.flatMap λx=>[[g],x]).flatten)=(f::t)++(r.map (g::·)).flatten;have e2:(r.flatMap λx=>[[g],x]).flatten=(r.map (g::·)).flatten:=by
    clear d e1 ev two
    induction r with
    | nil=>rfl
    | cons x r e=>
     rw[h9,List.flatten_append,e,e4,q3];simp
   rw[e2];rfl
  .intro x b;obtain rfl|b:=ew.1 b
   .exact ik _ _
   obtain rfl|b:=ew.1 b
   .exact d _ eB
   .obtain⟨y,c,b⟩:=List.mem_flatMap.1 b;obtain rfl|b:=ew.1 b
    .exact ik _ _
    .cases eR.1 b;exact d _ QcQ
def JE(a l:AT):Prop:=Str.join " " a=Str.join " " l/\(a=[]↔l=[])
theorem JE.same(a:AT):JE a a:=#[rfl,.rfl]
theorem JE.cat{a c m:AT}(h1:JE a l)(h2:JE c m):JE (a++c) (l++m):=by
 refine#[?_,by rw[we,we,h1.2,h2.2]];by_cases d:a=[]
 .rw[d,h1.2.1 d];exact h2.1
 by_cases b:c=[]
 .rw[b,h2.2.1 b,ft,ft];exact h1.1
 rw[tP " " _ _ d b,tP " " _ _ (λz=>d (h1.2.2 z)) (λz=>b (h2.2.2 z)),h1.1,h2.1]
def ah1(bn ns:AT)(d:L3.D):aW bn ns d≠[]:=by
 unfold aW;split<;>exact ik _ _
def Uv(bn:AT)(d:L3.D):dW bn d≠[]:=by
 unfold dW;split<;>exact ik _ _
theorem Fg(f g:Str)(l:CS)(h:∀x∈l,x≠[]):JE (uU f g (l.map (Str.join " "))) (lk f g l).flatten:=by
 cases l with
 | nil=>exact#[rfl,#[λ_=>rfl,λ_=>rfl]]
 | cons t r=>exact#[Uu f g _ h Qch,#[λz=>by(cases z),λz=>by(cases z)]]
def Uw(bn ns:AT){w:WY}(h:w.tg=-1->w.md="new"):As bn ns w=Str.join " " (wP bn ns w).flatten:=by
 unfold As;rw[<- qx,join_eq];have e:w.qs.map (mE bn ns)=(w.qs.map QoY).map (Str.join " "):=by
  rw[ey];exact hE λd _=>ZL bn ns d
 have c:w.ds.map (dQ bn)=(w.ds.map (dW bn)).map (Str.join " "):=by
  rw[ey];exact hE λd _=>LY bn d
 have a1:=Fg "if" "and" (w.qs.map QoY) λx a=>by
  obtain⟨d,_,rfl⟩:=eJ.1 a;exact ah1 bn ns d
 have a2:=Fg "do" "then" (w.ds.map (dW bn)) λx a=>by
  obtain⟨d,_,rfl⟩:=eJ.1 a;exact Uv bn d
 have b:OY ns w++LN w=(Ut ns w).flatten:=by
  unfold OY Ut;split
  .rename_i hz;rw[LN,dU (h hz)];rfl
  .rw[q3,List.flatten_nil,ft];rfl
 unfold Xs wP;rw[e,c,b,q3,List.flatten_append,List.flatten_append];exact((JE.same ["on",w.sg]).cat ((a1.cat a2).cat (.same _))).1
inductive RW
 | bx (n:Str) (k:Int)
 | md (n:Nat) (k x st:Str) (z:Int)
 | io (n:Nat) (w:Str) (d:L3.D)
 | wy (n:Nat) (w:WY)
def RW.bl:RW->Nat
 | .bx _ _=>0
 | .md n _ _ _ _=>n
 | .io n _ _=>n+1
 | .wy n _=>n+1
def RW.word:RW->Str
 | .bx _ _=>"box"
 | .md _ k _ _ _=>k
 | .io _ w _=>w
 | .wy _ _=>"on"
def RW.ws(bn ns:AT):RW->AT
 | .bx n k=>["box",n,sI k]
 | .md _ k x st _=>k::x::if st="" then [] else [st]
 | .io _ w d=>w::dW bn d
 | .wy _ w=>(wP bn ns w).flatten
def RW.rest(bn ns:AT)(r:RW):Str:=Str.join " " (r.ws bn ns)
def RW.line(bn ns:AT)(r:RW):Str:=Txt.mul " " (r.bl:Nat)++r.rest bn ns
def RW.cn:RW->L3.D
 | .bx n k=>.tup [.str n,.int k]
 | .md _ _ x _ z=>.tup [.str x,.int z]
 | .io _ _ d=>d
 | .wy _ w=>.tup [.str w.sg,.tup w.qs,.tup w.ds,.int w.tg,.str w.md]
def RW.nf(i:Int)(r:RW):L3.D:=.tup [.int i,.int r.bl,.str r.word,r.cn]
abbrev _root_.DO:=List RW
def CH.mr(c:CH)(m:Nat):DO:=.md (b8 c.es m).length Qc5 QlL (if c.ks.getD m Str.empty="one" then c.ns.getD (c.ss.getD m 0).toNat Str.empty else "") QfS ::
 ((c.is.getD m []).map Qsu++(c.os.getD m []).map Qso++(c.ws.filter λw=>decide QbP).map QtX)
def CH.br(c:CH):DO:=c.bs.map λp=>.bx p.1 p.2
def CH.rows(c:CH):DO:=c.br++(List.range c.es.length).flatMap c.mr
variable{β:Type}
theorem ZM{c:Type}{l:QR}{f:α->List β}{g:α->List c}{h:c->β}(e:∀a∈l,f a=(g a).map h):l.flatMap f=(l.flatMap g).map h:=by
 induction l with
 | nil=>rfl
 | cons a l d=>rw[h9,h9,eE,e a eB,d λb hb=>e b Qpr]
theorem O1(h1:∀m,m<c.es.length->c.ks.getD m Str.empty="one"->0<=c.ss.getD m 0/\c.ss.getD m 0<c.ns.length)(h2:∀w∈c.ws,w.tg=-1->w.md="new")(hn:∀x∈c.ns,aU x=true):kh c c.es.length=c.rows.map Qfq:=by
 unfold kh CH.rows CH.br;rw[eE,ey];refine congr (congrArg _ (hE λp _=>?_)) (ZM λm hm=>?_)
 .refine ja ?_;show(Ul p).cps.toList=(Txt.mul " " ((0:Nat):Int)++(("box":Str)++" " ++ (p.1++" " ++ sI p.2))).cps.toList;have l1:("box ":Str).cps.toList=("box":Str).cps.toList++(" ":Str).cps.toList:=by decide +kernel
  unfold Ul;simp only[b9,l1,lg,fb,List.replicate_zero,List.nil_append]
 .have hm:=g4.1 hm;have b:∀x:Str,Au c m++" " ++ x=Txt.mul " " (((b8 c.es m).length+1:Nat):Int)++x:=λx=>by
   rw[<- Ur];rfl
  have hi:∀(w lit:Str) (d:L3.D),lit=w++" "->Au c m++" " ++ (lit++dQ c.bn d)=RW.line c.bn c.ns (.io (b8 c.es m).length w d):=λw lit d e=>by
   rw[b,e,LY];show _=_++Str.join " " (w::dW c.bn d);cases hd:dW c.bn d with
   | nil=>exact absurd hd (Uv _ _)
   | cons a l=>rfl
  unfold tN CH.mr;rw[e4,eE,eE];refine congr (congrArg _ ?_) ?_
  .show Txt.mul " " _++Uk c m=Txt.mul " " _++Str.join " " (_::_::_);unfold Uk;rw[<- qx,join_eq];by_cases e:c.ks.getD m Str.empty="one"
   .rw[dU e,dU e,cq (gb (hn _ (lJ (by have:=h1 m hm e;lia))))];rfl
   .rw[cq e,cq e,dU rfl];rfl
  .unfold qK E6 ju;rw[eE,eE,ey,ey,ey,ey,ey,ey];refine congr (congrArg _ (congr (congrArg _ (hE λd _=>hi "in" "in " d Wl)) (hE λd _=>hi "out" "out " d Wl))) (hE λw hw=>?_);have hw:=(ir.1 hw).1;show Au c m++" " ++ As c.bn c.ns w=_;rw[b,Uw c.bn c.ns (h2 w hw)];rfl
def tQ(l:AT):Prop:=∀x∈l,aU x=true
def xE(nb:Nat)(d:L3.D):Prop:=(∃n:Str,d=.tup [.str "call",.str n]/\aU n=true)\/(∃(k:Int) (t:L3.D),d=.tup [.str "put",.int k,t]/\(0<=k/\k<nb)/\iI nb t)\/(∃(n:Str) (t:L3.D),d=.tup [.str "say",.str n,t]/\aU n=true/\iI nb t)
structure t4(nb nm:Nat)(w:WY):Prop where
 l:w.qs.length+w.ds.length<=400000
 q:∀d∈w.qs,pB nb nm d
 d:∀d∈w.ds,xE nb d
 s:aU w.sg=true
 t:w.tg=-1/\w.md="new" \/ Qio/\w.md∈(["new","near","far"]:AT)
def RW.Ok(bn ns:AT):RW->Prop
 | .bx n k=>aU n=true/\k.natAbs<10 ^ 30
 | .md n k x st z=>n<=50/\k∈bB/\aU x=true/\((k="one" /\ (0<=z/\z<ns.length)/\st=ns.getD z.toNat Str.empty)\/(k≠"one" /\ st="" /\ z=-1))
 | .io n w d=>n<=50/\w∈(["in","out"]:AT)/\xE bn.length d
 | .wy n w=>n<=50/\t4 bn.length ns.length w
def Wd(x:Str):Prop:=x.length<=53/\∀c∈x.cps.toList,33<=c
theorem tR{x:Str}(h:QcX):Wd x:=by
 obtain⟨_,h2,_,b⟩:=eK h;refine#[Wc,λc a=>?_];have:=b c a;lia
theorem Ux(h:k.natAbs<10 ^ 30):Wd (sI k):=by
 refine#[fg (kg h) Wp,λc a=>?_];have:=mG k c a;lia
theorem gH(h:tQ l)(h0:0<=k)(h1:QgV):aU (l.getD k.toNat Str.empty)=true:=h _ Qgu
theorem O2{bn:AT}{d:L3.D}(hb:tQ bn)(h:iI bn.length d):∃a k:Int,d=.tup [.int a,.int k]/\k.natAbs<10 ^ 30/\((a=-1/\eG bn d=sI k)\/(¬ a=-1/\aU QsM=true/\eG bn d=rv QsM 0 k)):=by
 obtain⟨a,k,rfl,c,b⟩:=h;refine#[a,k,rfl,b,?_];rw[qu];by_cases e:a=-1
 .exact .inl #[e,dU e]
 .have:0<=a/\a<bn.length:=by lia
  refine .inr #[e,gH hb this.1 this.2,?_];rw[cq e,rv,cq (show ¬ (0:Int)=-1 by decide)]
def CZ{bn:AT}{d:L3.D}(hb:tQ bn)(h:iI bn.length d):Wd (eG bn d):=by
 obtain⟨a,k,rfl,b,⟨_,e⟩|⟨_,hn,e⟩⟩:=O2 hb h
 .exact e▸Ux b
 .rw[e];have hp:ZK #[bn.getD _ _,bn.getD _ _,bn.getD _ _,0,0,k]:=#[hn,hn,hn,W2,.inr rfl,b];exact#[aeR hp,Fe hp]
def jI{x:Str}(h:x∈(["box","leaf","one","all","in","out","on","if","and","do","then","to","new","near","far","put","call","say","open","shut","<","<=","=","!="]:AT)):Wd x:=by
 have:∀y∈(["box","leaf","one","all","in","out","on","if","and","do","then","to","new","near","far","put","call","say","open","shut","<","<=","=","!="]:AT),y.length<=53/\∀c∈y.cps.toList,33<=c:=by decide +kernel
 exact this x h
def LZ(bn:AT)(n:Str):dW bn QtL=[("call":Str),n]:=dU rfl
def Iv(bn:AT)(k:Int)(t:L3.D):dW bn QhC=[("put":Str),bn.getD k.toNat Str.empty,eG bn t]:=rfl
def Iw(bn:AT)(n:Str)(t:L3.D):dW bn QhD=[("say":Str),n,eG bn t]:=rfl
def C1{bn:AT}{d:L3.D}(hb:tQ bn)(h:xE bn.length d):(∀x∈dW bn d,Wd x)/\(dW bn d).length<=3:=by
 obtain⟨n,rfl,hn⟩|⟨k,t,rfl,c,b⟩|⟨n,t,rfl,hn,b⟩:=h
 .rw[LZ];refine#[λx a=>?_,eL rfl];simp only[ew,fo,hx]at a;obtain rfl|rfl:=a
  .exact jI Wl
  .exact tR hn
 .rw[Iv];refine#[λx a=>?_,eL rfl];simp only[ew,fo,hx]at a;obtain rfl|rfl|rfl:=a
  .exact jI Wl
  .exact tR (gH hb c.1 c.2)
  .exact CZ hb b
 .rw[Iw];refine#[λx a=>?_,eL rfl];simp only[ew,fo,hx]at a;obtain rfl|rfl|rfl:=a
  .exact jI Wl
  .exact tR hn
  .exact CZ hb b
theorem aeT{bn:AT}{d:L3.D}(hb:tQ bn)(hn:tQ ns)(h:Qug):(∀x∈aW bn ns d,Wd x)/\(aW bn ns d).length<=3:=by
 obtain⟨w,k,rfl,hw,b⟩|⟨w,s,t,rfl,hw,e,c⟩:=h
 .refine#[λx a=>?_,eL rfl];have a:x∈[w,ns.getD k.toNat Str.empty]:=a;simp only[ew,fo,hx]at a;obtain rfl|rfl:=a
  .obtain rfl|rfl:=hw<;>exact jI Wl
  .exact tR (gH hn b.1 b.2)
 .refine#[λx a=>?_,eL rfl];have a:x∈[eG bn s,w,eG bn t]:=a;simp at a;obtain rfl|rfl|rfl:=a
  .exact CZ hb e
  .refine jI ?_;simp_all
  .exact CZ hb c
variable{f g:Str}{p:AT}
theorem pG{l:CS}(h:p∈lk f g l):∃x∈l,p=f::x\/p=g::x:=by
 cases l with
 | nil=>cases h
 | cons t r=>
  obtain rfl|h:=ew.1 h
  .exact#[t,eB,.inl rfl]
  .obtain⟨x,a,rfl⟩:=eJ.1 h;exact#[x,eD _ a,.inr rfl]
theorem uV(f g:Str)(l:CS):(lk f g l).length=l.length:=by
 cases l with
 | nil=>rfl
 | cons t r=>rw[lk,gv,eu,gv]
theorem MU{bn:AT}{w:WY}(hb:tQ bn)(hn:tQ ns)(h:Quh):(wP bn ns w).length<=400002/\∀p∈wP bn ns w,p.length<=4/\∀x∈p,Wd x:=by
 have b:∀{f:Str} {x:AT},f∈(["if","and","do","then"]:AT)->(∀y∈x,Wd y)/\x.length<=3->(f::x).length<=4/\∀y∈f::x,Wd y:=λhf a=>by
  refine#[by rw[gv];lia,λy c=>?_];obtain rfl|c:=ew.1 c
  .simp only[ew,fo,hx]at hf;obtain rfl|rfl|rfl|rfl:=hf<;>exact jI Wl
  .exact a.1 y c
 have g:(Ut ns w).length<=1:=by
  unfold Ut;split<;>exact eL rfl
 have i:=h.l;refine#[?_,λp hp=>?_]
 .unfold wP;rw[gv,eP,eP,uV,uV,eu,eu];lia
 .obtain rfl|hp:=ew.1 hp
  .refine#[eL rfl,λx a=>?_];obtain rfl|a:=ew.1 a
   .exact jI Wl
   .cases eR.1 a;exact tR h.s
  obtain hp|hp:=eC.1 hp
  .obtain hp|hp:=eC.1 hp
   .obtain⟨x,a,e⟩:=pG hp;obtain⟨d,hd,rfl⟩:=eJ.1 a;have:=aeT hb hn Qgb;obtain rfl|rfl:=e
    .exact b Wl this
    .exact b Wl this
   .obtain⟨x,a,e⟩:=pG hp;obtain⟨d,hd,rfl⟩:=eJ.1 a;have:=C1 hb Qgc;obtain rfl|rfl:=e
    .exact b Wl this
    .exact b Wl this
  .unfold Ut at hp;split at hp
   .cases hp
   .rename_i hz;cases eR.1 hp;obtain⟨z,_⟩|⟨g,hm⟩:=h.t
    .exact absurd z hz
    refine#[?_,λx a=>?_]
    .unfold LN;split<;>exact eL rfl
    obtain rfl|a:=ew.1 a
    .exact jI Wl
    obtain rfl|a:=ew.1 a
    .exact tR (gH hn g.1 g.2)
    .unfold LN at a;split at a
     .cases a
     .cases eR.1 a;refine jI ?_;simp only[ew,fo,hx]at hm;obtain e|e|e:=hm<;>rw[e]<;>decide +kernel
theorem Fi{l:CS}(h:∀p∈l,p.length<=4):l.flatten.length<=l.length*4:=by
 induction l with
 | nil=>exact fv _
 | cons p l b=>
  have a:=h p eB;have c:=b λq d=>h q (eD _ d);rw[q3,eP,gv];lia
variable{r:RW}
theorem Uy{bn:AT}(hb:tQ bn)(hn:tQ ns)(h:QbI):(∀x∈r.ws bn ns,Wd x)/\(r.ws bn ns).length<=1600008/\∃x l,r.ws bn ns=r.word::x::l:=by
 cases r with
 | bx n k=>
  refine#[λx c=>?_,eL rfl,_,_,rfl];have c:x∈[("box":Str),n,sI k]:=c;simp only[ew,fo,hx]at c;obtain rfl|rfl|rfl:=c
  .exact jI Wl
  .exact tR h.1
  .exact Ux h.2
 | md n k x st z=>
  obtain⟨_,h1,h2,g⟩:=h;refine#[λy b=>?_,?_,_,_,rfl]
  .obtain rfl|b:=ew.1 b
   .refine jI ?_;simp only[bB,ew,fo,hx]at h1;obtain e|e|e:=h1<;>rw[e]<;>decide +kernel
   obtain rfl|b:=ew.1 b
   .exact tR h2
   .split at b
    .cases b
    .rename_i hz;cases eR.1 b;obtain⟨_,f,e⟩|⟨_,e,_⟩:=g
     .rw[e];exact tR (gH hn f.1 f.2)
     .exact absurd e hz
  .show(if st="" then [] else [st]).length+1+1<=1600008;split<;>exact eL rfl
 | io n w d=>
  obtain⟨_,h1,h2⟩:=h;have:=C1 hb h2;refine#[λy b=>?_,?_,?_]
  .obtain rfl|b:=ew.1 b
   .simp only[ew,fo,hx]at h1;obtain rfl|rfl:=h1<;>exact jI Wl
   .exact this.1 y b
  .show(dW bn d).length+1<=1600008;lia
  .cases e:dW bn d with
   | nil=>exact absurd e (Uv _ _)
   | cons a l=>exact#[a,l,by show w::dW bn d=_;rw[e];rfl]
 | wy n w=>
  obtain⟨h1,h2⟩:=MU hb hn h.2;refine#[λy b=>?_,?_,_,_,rfl]
  .obtain⟨p,hp,b⟩:=List.mem_flatten.1 b;exact(h2 p hp).2 y b
  .have:=Fi λp hp=>(h2 p hp).1;show(wP bn ns w).flatten.length<=1600008;lia
section
variable{bn:AT}(hb:tQ bn)(hn:tQ ns)(h:QbI)
include hb hn h
theorem Uz:∀c∈(r.line bn ns).cps.toList,32<=c:=λc a=>by
 obtain⟨h1,_⟩:=Uy hb hn h;unfold RW.line at a;rw[b9,lg]at a;obtain a|a:=eC.1 a
 .have:=List.eq_of_mem_replicate a;lia
 .unfold RW.rest at a;rw[qy]at a;obtain z|⟨w,hw,hd⟩:=zc a
  .lia
  .have:=(h1 w hw).2 c hd;lia
end
theorem Bs{c:Nat}(h:l≠[])(hf:∀p∈l,c∉p.cps.toList):Txt.split (Str.join #[(List.toArray [c])] l) #[(List.toArray [c])]=l:=by
 refine E7 ?_ h (StrLaws.split_free _ c) hf (by rw[kj]);unfold Txt.split;split
 .exact ik _ _
 split
 .exact ik _ _
 .intro z;have:=length_partsBetween (Str.join #[(List.toArray [c])] l) (Builtin.Str.occurrences (Str.join #[(List.toArray [c])] l) #[(List.toArray [c])] 0 (Str.join #[(List.toArray [c])] l).length ((Str.join #[(List.toArray [c])] l).length+1)) (#[(List.toArray [c])]:Str).length;simp_all
theorem vW{bn:AT}(hb:tQ bn)(hn:tQ ns){l:DO}(h:∀r∈l,r.Ok bn ns)(h2:l≠[]):Txt.split (Str.join "\n" QfA) "\n" = l.map Qp2:=by
 refine Bs (λz=>h2 (lp.1 z)) λw hw z=>?_;obtain⟨r,a,rfl⟩:=eJ.1 hw;have:=Uz hb hn (h r a) 10 z;lia
def qL(l:AT)(z:Int):Str:=if z=-1 then "" else l.getD z.toNat Str.empty
structure x3(l:AT):Prop where
 n:tQ l
 d:l.Nodup
def aeU(bn:AT)(k:Int)(t:L3.D):dC bn QhC=.tup [.str "put",.str QsN,tC bn t]:=rfl
def aeV(bn:AT)(n:Str)(t:L3.D):dC bn QhD=.tup [.str "say",.str n,tC bn t]:=rfl
theorem oR{l:BC}{C:L3.D->L3.D}(h:∀d∈l,(C d).iV=true):D.bC (l.map C)=true:=fE λd hd=>by
 obtain⟨x,a,rfl⟩:=eJ.1 hd;exact h x a
theorem xF{bn:AT}(h:QbI):r.cn.iV=true:=by
 cases r with
 | bx n k=>rfl
 | md n k x st z=>rfl
 | io n w d=>
  obtain⟨x,rfl,_⟩|⟨k,t,rfl,_,⟨_,_,rfl,_⟩⟩|⟨x,t,rfl,_,⟨_,_,rfl,_⟩⟩:=h.2.2<;>rfl
 | wy n w=>
  have a:=fE λq b=>by
   obtain⟨x,k,rfl,_⟩|⟨x,s,t,rfl,_,⟨_,_,rfl,_⟩,⟨_,_,rfl,_⟩⟩:=h.2.q q b<;>rfl
  have c:=fE λq b=>by
   obtain⟨x,rfl,_⟩|⟨k,t,rfl,_,⟨_,_,rfl,_⟩⟩|⟨x,t,rfl,_,⟨_,_,rfl,_⟩⟩:=h.2.d q b<;>rfl
  show Qks=true;simp_all
def RW.cd(bn ns:AT):RW->L3.D
 | .bx n k=>.tup [.str n,.int k]
 | .md _ _ x st _=>.tup [.str x,.str st]
 | .io _ _ d=>dC bn d
 | .wy _ w=>.tup [.str w.sg,.lst (w.qs.map (aC bn ns)),.lst (w.ds.map (dC bn)),.str Qon,.str w.md]
theorem Fj{n:Str}{c:Int}(hn:Qfi)(a:¬ c=0):45∈(n++xD c++sI (c.natAbs:Int)).cps.toList↔c<0:=by
 rw[b9,b9,eC,eC,iL];constructor
 .intro q;obtain(q|q)|q:=q
  .exact absurd q (LX hn Wp)
  .have:=eR.1 q;lia
  .exact absurd q (aeS _ Wp)
 .intro q;refine .inl (.inr (eR.2 ?_));rw[cq Wc]
noncomputable def Iz:EU:=[("on",["if","do","to"]),("if",["and","do","to"]),("and",["and","do","to"]),("do",["then","to"]),("then",["then","to"]),("to",[])]
noncomputable def fk:AT:=["on","if","and","do","then","to"]
theorem L0{x:Str}:∀(l:EU),(l.lookup x).isSome=decide (x∈l.map (·.1))
 | []=>rfl
 | (y,v)::l=>by
  rw[h7,e4];by_cases h:x=y
  .subst h;rw[beq_self_eq_true,e6 (eB)];rfl
  .rw[mv.2 h];rw[L0 l];apply decide_eq_decide.2;rw[ew];exact#[.inr,λz=>z.resolve_left h]
def UA(x:Str):(Iz.lookup x).isSome=decide (x∈fk):=L0 Iz
def pS(l:CS)(x:Str):CS:=if x∈fk then l++[[x]] else l.set Qb6 (l.getD Qb6 []++[x])
def FX(p:AT):Prop:=∃f l,p=f::l/\f∈fk/\∀x∈l,x∉fk
theorem L1:∀(l:AT) (ps:CS) (a:AT),(∀x∈l,x∉fk)->l.foldl pS (ps++[a])=ps++[a++l]
 | [],ps,a,_=>by simp
 | x::l,ps,a,h=>by
  have e:pS (ps++[a]) x=ps++[a++[x]]:=by
   unfold pS;simp_all
  rw[kb,e,L1 l ps _ λy b=>h y QbF,fb];rfl
theorem UB:∀(ps qs:CS),(∀p∈ps,FX p)->ps.flatten.foldl pS qs=qs++ps
 | [],qs,_=>by simp
 | p::ps,qs,h=>by
  obtain⟨f,l,rfl,hf,b⟩:=h p eB;simp;have e:pS qs f=qs++[[f]]:=dU hf;rw[e,L1 l qs [f] b,UB ps _ λq a=>h q QdI,fb];rfl
theorem aeW(l:CS)(x:Str):l.length<=(pS l x).length/\(pS l x).length<=l.length+1:=by
 unfold pS;split
 .rw[eP,hH];lia
 .rw[kc];lia
theorem C2:∀(ws:AT) (l:CS),l.length<=(ws.foldl pS l).length/\(ws.foldl pS l).length<=l.length+ws.length
 | [],l=>by simp
 | x::ws,l=>by
  have a:=aeW l x;have c:=C2 ws (pS l x);simp;lia
theorem UC:∀(ws:AT) (l:CS) (n:Nat),(∀p∈l,p.length<=n)->∀p∈ws.foldl pS l,p.length<=n+ws.length
 | [],l,n,h=>h
 | x::ws,l,n,h=>λp hp=>by
  have:=UC ws _ _ (λq a=>by
   unfold pS at a;split at a
   .obtain a|a:=eC.1 a
    .exact hU QdL
    simp_all
   .obtain a|rfl:=oN a
    .exact hU QdL
    .rw[eP,e5];cases e:l[l.length-1]? with
     | none=>exact Nat.le_add_left _ _
     | some y=>exact rf (h y (gc e))) p hp
  grind
theorem MO{x:Str}{c:Nat}(h:Qii)(a:c<97):x∉fk:=λz=>by
 have:∀y∈fk,∀c∈y.cps.toList,97<=c:=by decide +kernel
 have:=this x z c h;lia
def zf{x:Str}(h:QcX):x∉fk:=λz=>by
 have e:∀y∈fk,aU y=false:=by decide +kernel
 rw[e x z]at h;cases h
def kM(p:AT):Str:=p.getD 0 Str.empty
def kQ(x:Str):AT:=(Iz.lookup x).getD []
def Av:Str->AT->Prop
 | _,[]=>True
 | x,y::l=>y∈kQ x/\Av y l
theorem L5{f g:Str}{t:AT}(hf:g∈kQ f)(b:g∈kQ g)(a:∀x∈([f,g]:AT),Av x t):∀k,Av f (List.replicate k g++t)
 | 0=>a f W2
 | k+1=>#[hf,L5 b b (λx c=>a x WA) k]
theorem UD(f g:Str)(l:CS):(lk f g l).map kM=if l=[] then [] else f::List.replicate Qb6 g:=by
 cases l with
 | nil=>rfl
 | cons t r=>
  rw[lk,e4,ey];show f::r.map (λ_=>g)=_;rw[List.map_const'];rfl
def UE{l:CS}{t:AT}{x:Str}(h0:Av x t)(a:f∈kQ x)(hf:g∈kQ f)(c:g∈kQ g)(b:∀y∈([f,g]:AT),Av y t):Av x ((lk f g l).map kM++t):=by
 rw[UD];split
 .exact h0
 .exact#[a,L5 hf c b _]
def jZ{q:Qkc}{z:Bool}(hf:q f=z)(a:q g=z)(l:CS):(lk f g l).filter Qij=if z then lk f g l else []:=by
 have:∀p∈lk f g l,q (kM p)=z:=λp hp=>by
  obtain⟨x,_,rfl|rfl⟩:=pG hp
  .exact hf
  .exact a
 cases z with
 | true=>exact List.filter_eq_self.2 this
 | false=>exact ot.2 λp hp=>this p hp▸gm
theorem tS(f g:Str)(l:CS):(lk f g l).map List.tail=l:=by
 cases l with
 | nil=>rfl
 | cons t r=>
  rw[lk,e4,ey];show t::r.map (λx=>x)=_;rw[List.map_id']
structure ZN(c:CH):Prop where
 pre:g5 c.es
 kinds:∀m:Nat,m<c.es.length->c.ks.getD m Str.empty∈(["leaf","one","all"]:AT)
def CH.wB(c:CH):BC:=(List.range c.rows.length).map λi=>(c.rows.getD i (.bx "" 0)).nf ((i:Nat)+1:Int)
def Aw(es:BA):BA:=(List.range es.length).map λ(m:Nat)=>((b8 es m).length:Int)
noncomputable def fW:DA:=[("leaf",0),("one",0),("all",0),("in",1),("out",2),("on",3)]
def yB(pw:Str)(mb:Int):RW->Prop
 | .bx _ _=>mb=-1
 | .md n k _ _ _=>k∈bB/\((mb=-1/\n=0)\/(mb ≠ -1/\1<=n/\(n:Int)<=mb+1))
 | .io n w _=>w∈(["in","out"]:AT)/\mb ≠ -1/\(n:Int)=mb/\∃a c,fW.lookup pw=some a/\fW.lookup w=some c/\a<=c
 | .wy n _=>mb ≠ -1/\(n:Int)=mb/\∃a,fW.lookup pw=some a/\a<=3
def ZO(h:Jn c):c.rows≠[]:=λz=>by
 have e0:=h.e0;have:=(we.1 z).2;rw[List.flatMap_eq_nil_iff]at this;cases this 0 (g4.2 e0)
def rF(m:Int):RW->Int
 | .md n _ _ _ _=>n
 | _=>m
def D0:Str->Int->DO->Prop
 | _,_,[]=>True
 | pw,mb,r::l=>yB pw mb r/\D0 r.word (rF mb r) l
theorem UG:∀{l:DO} {pw:Str} {mb:Int},D0 pw mb l->∀j r,l[j]? = some r->yB (if j=0 then pw else(l.getD (j-1) (.bx "" 0)).word) ((l.take j).foldl rF mb) r
 | a::l,pw,mb,h,0,r,e=>by
  cases e;exact h.1
 | a::l,pw,mb,h,j+1,r,e=>by
  have:=UG h.2 j r e;cases j with
  | zero=>exact this
  | succ j=>
   exact this
theorem UH:∀{l:DA} {pw:Str} {t:DO},(∀x,D0 x (-1) t)->D0 pw (-1) (l.map (λp=>.bx p.1 p.2)++t)
 | [],pw,t,h=>h pw
 | p::l,pw,t,h=>#[rfl,UH h]
theorem L6{n:Nat}{w:Str}{mb:Int}{c:Int}(hw:QlG)(hm:mb ≠ -1)(hn:Qps)(a:fW.lookup w=some c):∀{l:BC} {t:DO},D0 w mb t->D0 w mb Qyj
 | [],t,h=>h
 | d::l,t,h=>#[#[hw,hm,hn,c,c,a,a,W2 ],L6 hw hm hn a h]
variable{mb:Int}{pw:Str}
theorem UI{n:Nat}{w:Str}{c:Int}(hw:QlG)(hm:mb ≠ -1)(hn:Qps)(e:fW.lookup w=some c){l:BC}{t:DO}(f:fW.lookup pw=some a)(b:a<=c)(h1:D0 pw mb t)(h2:D0 w mb t):D0 pw mb Qyj:=by
 cases l with
 | nil=>exact h1
 | cons d l=>exact#[#[hw,hm,hn,a,c,f,e,b],L6 hw hm hn e h2]
theorem UJ{n:Nat}{mb:Int}(hm:mb ≠ -1)(hn:Qps):∀{l:Qbe} {pw:Str} {t:DO},(∃a,fW.lookup pw=some a/\a<=3)->(∀x,D0 x mb t)->D0 pw mb (l.map Qo5++t)
 | [],pw,t,_,h=>h pw
 | w::l,pw,t,b,h=>#[#[hm,hn,b],UJ hm hn #[3,rfl,W2 ] h]
theorem aeX(h:ZN c){m:Nat}(hm:Qg4){t:DO}(h1:(mb=-1/\(b8 c.es m).length=0)\/(mb ≠ -1/\1<=(b8 c.es m).length/\((b8 c.es m).length:Int)<=mb+1))(j:∀x,D0 x ((b8 c.es m).length:Int) t):D0 pw mb (c.mr m++t):=by
 have g:=(h.kinds m hm);have d:fW.lookup Qc5=some 0:=by
  simp only[ew,fo,hx]at g;obtain e|e|e:=g<;>rw[e]<;>decide +kernel
 have b:((b8 c.es m).length:Int) ≠ -1:=by lia
 unfold CH.mr;rw[iu,fb,fb];refine#[#[g,h1],?_];have hw:∀{pw:Str} {a:Int},fW.lookup pw=some a->a<=3->D0 pw _ ((c.ws.filter λw=>decide QbP).map _++t):=λf k=>UJ b rfl #[_,f,k] j;have i:∀{pw:Str} {a:Int},fW.lookup pw=some a->a<=2->D0 pw _ ((c.os.getD m []).map (RW.io _ "out")++((c.ws.filter _).map _++t)):=λf h2=>UI (c:=2) Wl b rfl Wl f h2 (hw f Wc) (hw (a:=2) Wl Wp);exact UI (c:=1) Wl b rfl Wl d Wp (i d Wp) (i (a:=1) Wl Wp)
theorem UK(h:g5 es){m:Nat}(hm:m+1<es.length):1<=(b8 es ((m+1:Nat):Int)).length/\(b8 es ((m+1:Nat):Int)).length<=(b8 es m).length+1:=by
 have hp:=h.2 m hm;have e:=rW h.1 (m:=((m+1:Nat))) Wc Wc;rw[i4]at e;generalize es.getD _ 0=x at hp e;have a:0<=x:=by
  obtain z|z:=hp
  .lia
  .exact(xA h.1 Wc Wc z).1
 rw[e,cq Wc,gv];obtain z|z:=hp
 .rw[z];lia
 .obtain⟨pre,ep,_⟩:=qk h.1 (m+1) Wc Wc Wc z;rw[ep,eP,gv];lia
theorem y2(h:i6 es)(h0:Qjx):es.getD 0 0=-1/\b8 es ((0:Nat):Int)=[]:=by
 have a:=h.at (k:=((0:Nat))) Wc Wc;rw[i4]at a;have e:es.getD 0 0=-1:=by lia
 have:=rW h (m:=((0:Nat))) Wc Wc;rw[i4,dU e]at this;exact#[e,this]
theorem Fl{c:CH}(h:ZN c):∀(k m:Nat),m+k=c.es.length->∀x,D0 x (if m=0 then -1 else((b8 c.es ((m-1:Nat):Int)).length:Int)) ((List.range' m k).flatMap c.mr)
 | 0,m,e,x=>trivial
 | k+1,m,e,x=>by
  rw[List.range'_succ,h9];refine aeX h Wc ?_ λy=>?_
  .cases m with
   | zero=>exact .inl #[rfl,by rw[(y2 h.pre.1 Wc).2];rfl]
   | succ m=>
    rw[cq W2,q7];have:=UK h.pre (m:=m) Wc;exact .inr #[Wc,this.1,Wc]
  .have:=Fl h k (m+1) Wc y;simp_all
def Fo(h:ZN c):D0 "" (-1) c.rows:=by
 have:=Fl h c.es.length 0 Qm6;rw[dU rfl,<- List.range_eq_range']at this;exact UH this
def z0:RW:=.bx "" 0
def idx(F:QiO)(l:DO):BC:=(List.range l.length).map λi=>F i (l.getD i (.bx "" 0))
def UL(F:QiO)(r:RW)(l:DO):idx F (r::l)=F 0 r::idx (λi=>F Q3) l:=by
 unfold idx;rw[gv,List.range_succ_eq_map,e4,ey];rfl
theorem C3{p:QdY}{p':Qo6}{g:QcV}{g':RW->T}:∀(l:DO) (F:QiO),(∀i,∀r∈l,p (F i r)=p' r)->(∀i,∀r∈l,p' r=true->g (F i r)=g' r)->((idx F l).filter p).map g=(l.filter p').map g'
 | [],F,_,_=>rfl
 | r::l,F,h1,h2=>by
  have d:=C3 l _ (λi q b=>h1 Q3 q QbF) (λi q b=>h2 _ q QbF);have a:=h1 0 r eB;have c:=h2 0 r eB;rw[UL,List.filter_cons,List.filter_cons,a];cases e:p' r with
  | true=>rw[dU rfl,dU rfl,e4,e4,d,c e]
  | false=>rw[cq W2,cq W2,d]
theorem xG{F:QiO}{l:DO}{d:L3.D}(h:d∈idx F l):∃i r,i<l.length/\r∈l/\r=l.getD i (.bx "" 0)/\d=F i r:=by
 obtain⟨i,hi,rfl⟩:=eJ.1 h;have hi:=g4.1 hi;refine#[i,_,hi,?_,rfl,rfl];simp_all
def RW.ZP:RW->Bool
 | .bx _ _=>true
 | _=>false
def RW.O4:RW->Bool
 | .md _ _ _ _ _=>true
 | _=>false
theorem aeY{bn:AT}(h:QbI):decide (r.word="box")=r.ZP:=by
 cases r with
 | bx n k=>exact e6 rfl
 | md n k x st z=>
  refine fw λe=>?_;have e:k="box":=e;have:=h.2.1;rw[e]at this;exact absurd this Wl
 | io n w d=>
  refine fw λe=>?_;have e:w="box":=e;have:=h.2.1;rw[e]at this;exact absurd this Wl
 | wy n w=>exact fw (show ¬ ("on":Str)="box" by decide +kernel)
theorem uW{bn:AT}(h:QbI):decide (r.word∈bB)=r.O4:=by
 cases r with
 | bx n k=>exact fw (show ¬ ("box":Str)∈bB by decide +kernel)
 | md n k x st z=>exact e6 h.2.1
 | io n w d=>
  refine fw λe=>?_;have e:w∈bB:=e;have:=h.2.1;simp at this;obtain rfl|rfl:=this<;>exact absurd e Wl
 | wy n w=>exact fw (show ¬ ("on":Str)∈bB by decide +kernel)
def CH.md(c:CH)(m:Nat):RW:=.md (b8 c.es m).length Qc5 QlL (if c.ks.getD m Str.empty="one" then c.ns.getD (c.ss.getD m 0).toNat Str.empty else "") QfS
def UM(c:CH):c.rows.filter RW.ZP=c.br:=by
 unfold CH.rows;rw[ig,List.filter_eq_self.2,ot.2,ft]
 .intro r a;obtain⟨m,_,a⟩:=List.mem_flatMap.1 a;obtain rfl|a:=ew.1 a
  .exact gm
  obtain a|a:=eC.1 a
  .obtain a|a:=eC.1 a
   .obtain⟨d,_,rfl⟩:=eJ.1 a;exact gm
   .obtain⟨d,_,rfl⟩:=eJ.1 a;exact gm
  .obtain⟨d,_,rfl⟩:=eJ.1 a;exact gm
 .intro r a;obtain⟨p,_,rfl⟩:=eJ.1 a;rfl
def xH{f:α->RW}{p:Qo6}(h:∀a,p (f a)=false)(l:QR):(l.map f).filter p=[]:=by
 rw[ot];intro r b;obtain⟨a,_,rfl⟩:=eJ.1 b;rw[h];exact gm
def IA(c:CH):c.rows.filter RW.O4=(List.range c.es.length).map c.md:=by
 unfold CH.rows;have e:c.br.filter RW.O4=[]:=xH Qal _;rw[ig,e,List.nil_append,List.filter_flatMap];have:∀m,(c.mr m).filter RW.O4=[c.md m]:=λm=>by
  unfold CH.mr;rw[kn rfl,ig,ig,xH Qal,xH Qal,xH Qal];rfl
 generalize List.range _=l
 induction l with
 | nil=>rfl
 | cons m l a=>rw[h9,a,this];rfl
theorem Bt{f:Str->α}(l:AT):(List.range l.length).map (λm=>f (l.getD m Str.empty))=l.map f:=by
 refine kv λi=>?_;rw[fT,fT];by_cases h:i<l.length
 .rw[hW h,gh h];show some (f _)=some _;rw[e5,gh h];rfl
 simp_all
def ZQ{bn:AT}(h:QbI):(r.nf i).iV=true:=by
 show(true&&(true&&(true&&(r.cn.iV&&true))))=true;rw[xF h];rfl
def gD(w:Str)(st:Da):RW->Da
 | .md _ _ _ _ _=>st++[[]]
 | .io _ v d=>if v=w then st.set QaN QfB else st
 | _=>st
theorem UN{w:Str}{n:Nat}:∀(l:BC) (st:Da) (a:BC),(l.map Qvo).foldl (gD w) (st++[a])=st++[a++l]
 | [],st,a=>by simp
 | d::l,st,a=>by
  have e:gD w (st++[a]) (.io n w d)=st++[a++[d]]:=by
   show(if w=w then _ else _)=_;simp
  rw[e4,kb,e,UN l st _,fb];rfl
theorem UO{w v:Str}{n:Nat}(h:v≠w):∀(l:BC) (st:Da),(l.map (RW.io n v)).foldl (gD w) st=st
 | [],st=>rfl
 | d::l,st=>by
  show(l.map _).foldl _ (if v=w then _ else st)=st;exact cq h▸UO h l st
theorem UQ{w:Str}{n:Nat}:∀(l:Qbe) (st:Da),(l.map Qo5).foldl (gD w) st=st
 | [],st=>rfl
 | d::l,st=>UQ l st
theorem MM{w:Str}:∀(l:DA) (st:Da),(l.map λp=>RW.bx p.1 p.2).foldl (gD w) st=st
 | [],st=>rfl
 | d::l,st=>MM l st
def CH.dl(c:CH)(b:Bool):Da:=if b then c.is else c.os
theorem ah4(c:CH)(b:Bool)(m:Nat)(st:Da):(c.mr m).foldl Qou st=st++[(c.dl b).getD m []]:=by
 unfold CH.mr;rw[kb,i5,i5];show((c.ws.filter _).map _).foldl _ (((c.os.getD m []).map _).foldl _ (((c.is.getD m []).map _).foldl _ (st++[[]])))=_;cases b with
 | true=>
  rw[dU rfl,UN,UO Wl,UQ];rfl
 | false=>
  rw[cq W2,UO (v:="in") Wl,UN,UQ];rfl
theorem UR(c:CH)(b:Bool):∀n,((List.range n).flatMap c.mr).foldl Qou []=(List.range n).map λm=>(c.dl b).getD m []
 | 0=>rfl
 | n+1=>by
  rw[lb,oa,i5,UR c b n,eE];rw[h9,si,ft,ah4];rfl
def gW(st:Qkj):RW->BC×Int
 | .md _ _ _ _ _=>(st.1,st.2+1)
 | .wy _ w=>(st.1++[.tup [.int st.2,.str w.sg,.tup w.qs,.tup w.ds,.int w.tg,.str w.md]],st.2)
 | _=>st
theorem UT{v:Str}{n:Nat}:∀(l:BC) (st:Qkj),(l.map (RW.io n v)).foldl gW st=st
 | [],st=>rfl
 | d::l,st=>UT l st
theorem MI:∀(l:DA) (st:Qkj),(l.map λp=>RW.bx p.1 p.2).foldl gW st=st
 | [],st=>rfl
 | d::l,st=>MI l st
theorem ME{n:Nat}{m:Int}:∀(l:Qbe) (st:BC),(∀w∈l,w.src=m)->(l.map Qo5).foldl gW (st,m)=(st++l.map WY.d,m)
 | [],st,_=>by simp
 | w::l,st,h=>by
  show(l.map _).foldl gW (st++[.tup _],m)=_;rw[ME l _ λx a=>h x QdI,fb,<- h w eB];rfl
theorem UU(c:CH):∀n:Nat,((List.range n).flatMap c.mr).foldl gW ([],-1)=(((List.range n).flatMap λ(m:Nat)=>c.ws.filter λw=>decide QbP).map WY.d,(n:Int)-1)
 | 0=>rfl
 | n+1=>by
  rw[lb,oa,i5,UU c n,oa];rw[h9,si,ft,h9];unfold CH.mr;rw[kb,i5,i5];show((c.ws.filter _).map _).foldl _ (((c.os.getD n []).map _).foldl _ (((c.is.getD n []).map _).foldl _ (_,(n:Int)-1+1)))=_;rw[UT,UT,show n-1+1=(n:Int) by lia,ME _ _ (λw hw=>eI (ir.1 hw).2)];simp
theorem L7:∀(l:Qbe) (n:Int),Qrv->(∀w∈l,w.src<=n)->l=(l.filter λw=>decide Qpt)++l.filter λw=>decide (w.src=n)
 | [],_,_,_=>rfl
 | w::l,n,hp,hb=>by
  obtain⟨h1,h2⟩:=List.pairwise_cons.1 hp;have hw:=hb w eB;by_cases h:w.src<n
  .rw[kn (p:=λw:WY=>decide Qpt) (e6 h),hY Wc,iu,<- L7 l n h2 λx b=>hb x QbF]
  .have e:w.src=n:=by lia
   have a:(w::l).filter (λw=>decide Qpt)=[]:=ot.2 λx b z=>by
    have z:=eI z;obtain rfl|b:=ew.1 b
    .exact h z
    .have:=h1 x b;lia
   have c:(w::l).filter (λw=>decide (w.src=n))=w::l:=List.filter_eq_self.2 λx b=>e6 (by
    obtain rfl|b:=ew.1 b
    .exact e
    .have:=h1 x b;have:=hb x QbF;lia)
   rw[a,c];rfl
theorem zg:∀(n:Nat) (l:Qbe),Qrv->(∀w∈l,0<=w.src/\w.src<n)->((List.range n).flatMap λ(m:Nat)=>l.filter λw=>decide QbP)=l
 | 0,l,_,hb=>by
  cases l with
  | nil=>rfl
  | cons w l=>
   have:=hb w eB;lia
 | n+1,l,hp,hb=>by
  have e:=L7 l n hp λw hw=>by
   have:=hb w hw;lia
  have f:=zg n _ (hp.filter _) λw hw=>by
   obtain⟨h1,h2⟩:=ir.1 hw;exact#[(hb w h1).1,eI h2]
  rw[lb,oa,h9,si,ft];refine Eq.trans (congrArg (· ++ _) ?_) e.symm;refine Eq.trans ?_ f;have go:∀r:Ch,(∀m∈r,m<n)->(r.flatMap λ(m:Nat)=>l.filter λw=>decide QbP)=r.flatMap λ(m:Nat)=>(l.filter λw=>decide (w.src<(n:Int))).filter λw=>decide QbP:=λr d=>by
   induction r with
   | nil=>rfl
   | cons m r b=>
    rw[h9,h9,b λx g=>d x (eD _ g),List.filter_filter];congr 1;refine List.filter_congr λw _=>?_;have:=d m eB;by_cases z:w.src=(m:Int)
    .rw[e6 z,e6 Wc];rfl
    .rw[fw z];rfl
  exact go _ λm hm=>g4.1 hm
theorem UW{w:Str}:∀(l:DO) (mb:Int) (st:Da),(mb ≠ -1->0<st.length)->l.foldl rF mb ≠ -1->0<(l.foldl (gD w) st).length
 | [],mb,st,h,z=>h z
 | r::l,mb,st,h,z=>by
  refine UW l _ _ ?_ z;cases r with
  | md n k x a y=>
   intro _;show 0<(st++[[]]).length;simp
  | bx n k=>exact h
  | wy n v=>exact h
  | io n v d=>
   intro q;have:=h q;show 0<(if v=w then _ else st).length;split
   .rw[kc];exact this
   .exact this
theorem IB{w:Str}:∀(l:DO) (st:Da),(l.foldl (gD w) st).length<=st.length+l.length
 | [],st=>eA _
 | r::l,st=>by
  have:=IB (w:=w) l (gD w st r);have e:(gD w st r).length<=st.length+1:=by
   cases r with
   | md n k x a y=>
    show(st++[[]]).length<=_;simp
   | bx n k=>exact lr _
   | wy n v=>exact lr _
   | io n v d=>
    show(if v=w then _ else st).length<=_;split
    .rw[kc];simp
    simp
  simp;lia
theorem UX{w:Str}:∀(l:DO) (st:Da) (n:Nat),(∀p∈st,p.length<=n)->∀p∈l.foldl (gD w) st,p.length<=n+l.length
 | [],st,n,h=>h
 | r::l,st,n,h=>λp hp=>by
  have:=UX l _ _ (λq a=>by
   cases r with
   | bx _ _=>exact hU QdL
   | wy _ _=>exact hU QdL
   | md _ _ _ _ _=>
    obtain a|a:=eC.1 a
    .exact hU QdL
    simp_all
   | io _ v d=>
    have a:q∈(if v=w then st.set _ _ else st):=a;split at a
    .obtain a|rfl:=oN a
     .exact hU QdL
     .rw[eP,e5];cases e:st[st.length-1]? with
      | none=>exact Nat.le_add_left _ _
      | some y=>exact rf (h y (gc e))
    .exact hU QdL) p hp
  grind
def tT(l:BC):T:=.lst (l.map T.sh)
def ZR(l:Da):T.dJ (.lst (l.map tT))=.lst (l.map .lst):=by
 rw[T.dJ];congr 1
 induction l with
 | nil=>rfl
 | cons p l a=>
  rw[e4,T.dF,a,e4];congr 1;exact cI _
def Rj:L3.D->BC
 | .lst ds=>ds
 | _=>[]
def IC{d:L3.D}(h:Qg5):d.iV=true:=by
 obtain⟨x,rfl,_⟩|⟨k,t,rfl,_,⟨_,_,rfl,_⟩⟩|⟨x,t,rfl,_,⟨_,_,rfl,_⟩⟩:=h<;>rfl
theorem IE:∀(l:DO) (st:Qkj),(l.foldl gW st).1.length<=st.1.length+l.length
 | [],st=>eA _
 | r::l,st=>by
  have:=IE l (gW st r);have e:(gW st r).1.length<=st.1.length+1:=by
   cases r with
   | md n k x a y=>exact lr _
   | bx n k=>exact lr _
   | io n v d=>exact lr _
   | wy n v=>
    show(st.1++[_]).length<=_;simp
  simp;lia
noncomputable def UY:AT->EQ
 | []=>[]
 | x::r=>if x∈r then UY r else UY r++[((.inr x:Key),L3.D.int r.length)]
def Ax(l:AT):EQ:=UY l.reverse
def pz(l:AT)(x:Str):Int:=if x="" then -1 else(l.idxOf x:Nat)
def pk(l:AT)(x:Str):Bool:=decide (x="") || decide QbS
def UZ(a c:EQ)(k:Key):kN (a++c) k=(kN a k).or (kN c k):=by
 unfold kN;rw[List.find?_append];cases a.find? _<;>rfl
theorem L8(x:Str):∀r:AT,kN (UY r) QeS=if x∈r then some (.int (r.reverse.idxOf x:Nat)) else none
 | []=>rfl
 | y::r=>by
  have b:=L8 x r;unfold UY;rw[q5];by_cases c:y∈r
  .rw[dU c,b];by_cases a:x∈r
   .rw[dU a,dU QdI,List.idxOf_append,dU Qtp]
   .rw[cq a,cq λz=>?_];simp_all
  .rw[cq c,UZ,b];by_cases a:x∈r
   .rw[dU a,dU QdI,List.idxOf_append,dU Qtp];rfl
   .rw[cq a];by_cases e:x=y
    .subst e;rw[dU eB,List.idxOf_append,cq (λz=>a (List.mem_reverse.1 z))];unfold kN;simp
    .rw[cq _]
     .unfold kN;rw[List.find?_cons_of_neg (by simpa using λz:y=x=>e z.symm)];rfl
     simp_all
def C4(l:AT)(x:Str):kN (Ax l) QeS=if x∈l then some (.int (l.idxOf x:Nat)) else none:=by simp[Ax,L8]
def U0(l:AT)(x:Str):Ax QjU=if x∈l then Ax l else Ax l++[((.inr x:Key),L3.D.int l.length)]:=by
 unfold Ax;rw[List.reverse_append];show UY (x::l.reverse)=_;rw[UY];simp
theorem Ma:∀r:AT,(UY r).length<=r.length
 | []=>eA _
 | x::r=>by
  have:=Ma r;unfold UY;split
  .simp;lia
  simp_all
def ZS(l:AT):(Ax l).length<=l.length:=by
 have:=Ma l.reverse
 rwa [w8]at this
theorem IG:∀r:AT,∀p∈UY r,∃n:Nat,p.2=.int n
 | [],_,h=>by cases h
 | x::r,p,h=>by
  unfold UY at h;split at h
  .exact IG r p h
  .obtain h|h:=eC.1 h
   .exact IG r p h
   .rw[eR.1 h];exact#[ _,rfl]
inductive jj
 | call (n:Str)
 | put (b n:Str) (k:Int)
 | say (x n:Str) (k:Int)
def U1(n:Str)(k:Int):L3.D:=.tup [.str n,.int k]
def ZT(l:AT)(n:Str)(k:Int):L3.D:=.tup [.int (pz l n),.int k]
def jj.d:jj->L3.D
 | .call n=>.tup [.str "call",.str n]
 | .put b n k=>.tup [.str "put",.str b,U1 n k]
 | .say x n k=>.tup [.str "say",.str x,U1 n k]
def jj.ok(l:AT):jj->Bool
 | .call _=>true
 | .put b n _=>pk l b&&pk l n
 | .say _ n _=>pk l n
def jj.n(l:AT):jj->L3.D
 | .call n=>.tup [.str "call",.str n]
 | .put b n k=>.tup [.str "put",.int (pz l b),ZT l n k]
 | .say x n k=>.tup [.str "say",.str x,ZT l n k]
inductive jk
 | kO (w x:Str)
 | num (w n:Str) (k:Int) (n2:Str) (k2:Int)
def jk.d:jk->L3.D
 | .kO w x=>.tup [.str w,.str x]
 | .num w n k n2 k2=>.tup [.str w,U1 n k,U1 n2 k2]
def jk.Ok:jk->Prop
 | .kO w _=>w∈(["open","shut"]:AT)
 | .num w _ _ _ _=>w∉(["open","shut"]:AT)
def jk.ok(bs ms:AT):jk->Bool
 | .kO _ x=>pk ms x
 | .num _ n _ n2 _=>pk bs n&&pk bs n2
def jk.n(bs ms:AT):jk->L3.D
 | .kO w x=>.tup [.str w,.int (pz ms x)]
 | .num w n k n2 k2=>.tup [.str w,ZT bs n k,ZT bs n2 k2]
structure mH where
 sg:Str
 as:List jk
 ds:List jj
 tg:Str
 md:Str
def mH.d(w:mH):L3.D:=.tup [.str w.sg,.lst (w.as.map jk.d),.lst (w.ds.map jj.d),.str w.tg,.str w.md]
def mH.ok(bs ms:AT)(w:mH):Bool:=w.as.all (jk.ok bs ms)&&QrM
def mH.n(bs ms:AT)(w:mH):L3.D:=.tup [.str w.sg,.tup QmR,.tup Ql7,.int (pz ms w.tg),.str w.md]
structure mH.Ok(w:mH):Prop where
 a:∀q∈w.as,q.Ok
 al:w.as.length<=400000
 dl:w.ds.length<=400000
inductive jl
 | bx (n:Str) (k:Int)
 | md (w x st:Str)
 | dd (w:Str) (d:jj)
 | wy (w:mH)
structure dY where
 r:Int
 bl:Nat
 c:jl
def jl.w:jl->Str
 | .bx _ _=>"box"
 | .md w _ _=>w
 | .dd w _=>w
 | .wy _=>"on"
def jl.d:jl->L3.D
 | .bx n k=>.tup [.str n,.int k]
 | .md _ x st=>.tup [.str x,.str st]
 | .dd _ d=>d.d
 | .wy w=>w.d
def jl.ok(bs ms:AT):jl->Bool
 | .bx _ _=>true
 | .md _ _ st=>pk ms st
 | .dd _ d=>d.ok bs
 | .wy w=>w.ok bs ms
def jl.n(bs ms:AT):jl->L3.D
 | .bx n k=>.tup [.str n,.int k]
 | .md _ x st=>.tup [.str x,.int Qgd]
 | .dd _ d=>d.n bs
 | .wy w=>w.n bs ms
def jl.Ok:jl->Prop
 | .bx _ _=>True
 | .md w _ _=>w∈bB
 | .dd w _=>w∈(["in","out"]:AT)
 | .wy w=>w.Ok
def dY.d(q:dY):L3.D:=.tup [.int q.r,.int q.bl,.str q.c.w,q.c.d]
def dY.n(bs ms:AT)(q:dY):L3.D:=.tup [.int q.r,.int q.bl,.str q.c.w,q.c.n bs ms]
def tU(l:AT)(d:jj):(d.n l).iV=true:=by cases d<;>rfl
def C5(bs ms:AT)(a:jk):(a.n bs ms).iV=true:=by cases a<;>rfl
def Mb(bs ms:AT)(w:mH):(w.n bs ms).iV=true:=by
 have h1:D.bC (w.as.map _)=true:=cR (C5 bs ms) _;have h2:D.bC (w.ds.map _)=true:=cR (tU bs) _;show Qks=true;rw[h1,h2];rfl
theorem ZU(bs ms:AT)(c:jl):(c.n bs ms).iV=true:=by
 cases c with
 | bx=>rfl
 | md=>rfl
 | dd w d=>exact tU bs d
 | wy w=>exact Mb bs ms w
open Classical in
def inv[Inhabited α](f:Qb1)(d:L3.D):α:=if h:∃a,f a=d then h.choose else default
def C6[Inhabited α]{f:Qb1}(i:∀a c,f a=f c->a=c)(a:α):inv f (f a)=a:=by
 unfold inv;have h:∃c,f c=f a:=#[a,rfl];rw[dif_pos h];exact i _ _ h.choose_spec
def Mf[Inhabited α]{f:Qb1}(i:∀a c,f a=f c->a=c){p:Qcm}{l:QR}(h:∀d∈l.map f,true=true->p (inv f d)=true):l.all p=true:=hB.2 λa b=>by
 have:=h _ (eJ.2 #[a,b,rfl]) rfl
 rwa [C6 i]at this
def Mg[Inhabited α]{f:Qb1}(i:∀a c,f a=f c->a=c)(g:α->T)(l:QR):((l.map f).filter λ_=>true).map (λd=>g (inv f d))=l.map g:=by
 rw[cG,ey];exact hE λa _=>congrArg g (C6 i a)
theorem II{p:Qcm}{l:QR}{a:α}(h:a∈l)(n:p a=false):l.all p=false:=by
 cases q:l.all p with
 | false=>rfl
 | true=>rw[hB.1 q a h]at n;cases n
instance:Inhabited jj:=#[.call ""]
instance:Inhabited jk:=#[.kO "" ""]
instance:Inhabited jl:=#[.bx "" 0]
instance:Inhabited mH:=#[#["",[],[],"",""]]
instance:Inhabited dY:=#[#[0,0,default]]
theorem tV:∀a c:jj,a.d=c.d->a=c:=by
 have h:¬ ("put":Str)="say":=by decide +kernel
 intro a c e;cases a<;>cases c<;>simp[jj.d,U1]at e
 .rw[e]
 .obtain⟨rfl,rfl,rfl⟩:=e;rfl
 .exact absurd e.1 h
 .exact absurd e.1.symm h
 simp_all
def xJ:∀a c:jk,a.d=c.d->a=c:=by
 intro a c e;cases a<;>cases c<;>simp[jk.d,U1]at e
 .obtain⟨rfl,rfl⟩:=e;rfl
 .obtain⟨rfl,⟨rfl,rfl⟩,rfl,rfl⟩:=e;rfl
def jl.ZP:jl->Bool
 | .bx _ _=>true
 | _=>false
def jl.O4:jl->Bool
 | .md _ _ _=>true
 | _=>false
def jl.nm:jl->Str
 | .bx n _=>n
 | .md _ x _=>x
 | _=>""
def Fp(fs:Qbm):AT:=(fs.filter (·.c.ZP)).map (·.c.nm)
def D3(fs:Qbm):AT:=(fs.filter (·.c.O4)).map (·.c.nm)
def U3(fs:Qbm)(q:dY):Bool:=q.c.ok (Fp fs) (D3 fs)
def U4(fs:Qbm):Int:=match fs.find? λq=>!U3 fs q with
 | some q=>q.r
 | none=>0
structure Mo(fs:Qbm):Prop where
 ok:∀q∈fs,q.c.Ok
 l:fs.length<=5000
 bl:(Fp fs).length<=1000
 ml:(D3 fs).length<=1000
theorem ZV{c:jl}(h:c.Ok):decide (c.w="box")=c.ZP:=by
 cases c with
 | bx=>exact e6 rfl
 | md w x st=>
  have h:w∈bB:=h;exact fw λz=>by rw[show w="box" from z]at h;exact absurd h Wl
 | dd w d=>
  have h:w∈(["in","out"]:AT):=h;exact fw λz=>by rw[show w="box" from z]at h;exact absurd h Wl
 | wy w=>exact fw (show ¬ ("on":Str)="box" by decide +kernel)
theorem ZW{c:jl}(h:c.Ok):decide (c.w∈bB)=c.O4:=by
 cases c with
 | bx=>exact fw (show("box":Str)∉bB by decide +kernel)
 | md w x st=>exact e6 h
 | dd w d=>
  have h:w∈(["in","out"]:AT):=h;refine fw λz=>?_;have z:w∈bB:=z;simp at h;obtain rfl|rfl:=h<;>exact absurd z Wl
 | wy w=>exact fw (show("on":Str)∉bB by decide +kernel)
variable{fs:Qbm}
def U5{p:QdY}{p':dY->Bool}{g:QcV}{g':dY->T}(hp:∀q∈fs,p q.d=p' q)(b:∀q∈fs,p' q=true->g q.d=g' q):((fs.map dY.d).filter p).map g=(fs.filter p').map g':=by
 rw[tf,ey,List.filter_congr ‹_›];exact hE λq a=>b q (ir.1 a).1 (ir.1 a).2
def map_inj{f:Qb1}(i:∀a c,f a=f c->a=c){l m:QR}(h:l.map f=m.map f):l=m:=(List.map_inj_right i).1 h
def ZX:∀a c:mH,a.d=c.d->a=c:=by
 rintro⟨a1,a2,a3,a4,a5⟩ ⟨c1,c2,h,g,f⟩ e;simp[mH.d]at e;obtain⟨rfl,h2,b,rfl,rfl⟩:=e;rw[map_inj xJ h2,map_inj tV b]
theorem Mh:∀a c:dY,a.c.Ok->c.c.Ok->a.d=c.d->a=c:=by
 rintro⟨a1,a2,a3⟩ ⟨c1,c2,k⟩ f g e;have f:a3.Ok:=f;simp[dY.d,L3.D.tup.injEq,sT,L3.D.str.injEq,L3.D.int.injEq,Int.ofNat_inj,and_true]at e;obtain⟨rfl,rfl,hw,hd⟩:=e;have j:=ZV f;have i:=ZW f;rw[hw,ZV g]at j;rw[hw,ZW g]at i;have b:∀{w:Str},w∈(["in","out"]:AT)->¬ w="on":=λh z=>by rw[z]at h;exact absurd h Wl
 cases a3<;>cases k<;>first|(cases j;done)|(cases i;done)|skip
 .simp only[jl.d,and_true]at hd;lia
 .simp only[jl.d,L3.D.tup.injEq,sT,L3.D.str.injEq,and_true]at hd;obtain⟨rfl,rfl⟩:=hd;cases (hw);rfl
 .cases (hw);rw[tV _ _ hd]
 .exact absurd hw (b f)
 .exact absurd hw.symm (b g)
 .rw[ZX _ _ hd]
open Classical in
def IJ(l:Qbm)(d:L3.D):dY:=if h:∃a∈l,a.d=d then h.choose else default
def xK{l:Qbm}(h:∀q∈l,q.c.Ok){q:dY}(b:q∈l):IJ l q.d=q:=by
 unfold IJ;have e:∃a∈l,a.d=q.d:=#[q,b,rfl];exact dif_pos e▸Mh _ _ (h _ e.choose_spec.1) (h _ b) e.choose_spec.2
theorem O5(h:∀q∈fs,q.c.Ok){i:Nat}{q:dY}(e:(fs.map dY.d)[i]? = some q.d)(b:q.c.Ok)(lt:∀u∈(fs.map dY.d).take i,true=true->U3 fs (IJ fs u)=true)(n:U3 fs q=false):U4 fs=q.r:=by
 have hi:i<fs.length:=by
  have:=(hR.1 e).1;simp_all
 have e2:=by
  rw[fT,gh hi]at e;exact Mh _ _ (h _ W2) b (fO e)
 have hf:fs.find? (λq=>!U3 fs q)=some q:=by
  rw[List.find?_eq_some_iff_getElem];refine#[by rw[n];rfl,i,hi,e2,λj a=>?_];have hm:fs[j]'(Nat.lt_trans a hi)∈fs:=sk _;have:=lt (fs[j]'(Nat.lt_trans a hi)).d (List.mem_take_iff_getElem.2 #[j,WF,W2 ]) rfl;rw[xK h hm]at this;simp_all
 unfold U4;rw[hf]
def Ri(h:∀q∈fs,q.c.Ok)(a:∀d∈fs.map dY.d,true=true->U3 fs Qpu=true):fs.all (U3 fs)=true:=hB.2 λq b=>by
 have:=a q.d (eJ.2 #[q,b,rfl]) rfl
 rwa [xK h b]at this
def ZY(h:∀q∈fs,q.c.Ok)(g:dY->L3.D):((fs.map dY.d).filter λ_=>true).map (λd=>T.sh (g Qpu))=(fs.map g).map T.sh:=by
 rw[cG,ey,ey];exact hE λq a=>by show T.sh _=_;rw[xK h a];rfl
def ZZ(bs ms:AT)(q:dY):(q.n bs ms).iV=true:=by
 show(true&&(true&&(true&&((q.c.n bs ms).iV&&true))))=true;rw[ZU];rfl
def Bu(l:AT):(T.jq (Ax l)).clean=true:=by
 rw[T.clean];refine fE λd hd=>?_;obtain⟨b,a,rfl⟩:=eJ.1 hd;obtain⟨n,e⟩:=IG l.reverse b a;rw[e];rfl
def dK(bn:AT)(d:L3.D):jj:=
 if (aS d 0).toS="call" then .call (aS d 1).toS
 else if (aS d 0).toS="put" then .put (bn.getD (aS d 1).jF.toNat Str.empty) QlM (aS Qbi 1).jF
 else .say (aS d 1).toS QlM (aS Qbi 1).jF
def aK(bn ns:AT)(d:L3.D):jk:=
 if d.cnt=2 then .kO (aS d 0).toS Qru
 else .num (aS d 0).toS (qL bn (aS QdH 0).jF) (aS QdH 1).jF QlM (aS Qbi 1).jF
def wK(bn ns:AT)(w:WY):mH:=#[w.sg,w.qs.map (aK bn ns),w.ds.map (dK bn),qL ns w.tg,w.md]
def IK(bn ns:AT):RW->jl
 | .bx n k=>.bx n k
 | .md _ k x st _=>.md k x st
 | .io _ w d=>.dd w (dK bn d)
 | .wy _ w=>.wy (wK bn ns w)
def HH(bn ns:AT)(i:Int)(r:RW):dY:=#[i,r.bl,IK bn ns r]
section
variable{bn:AT}{nm:Nat}{d:L3.D}
def Z6(h:iI nb d):U1 (qL bn (aS d 0).jF) (aS d 1).jF=tC bn d:=by
 obtain⟨a,c,rfl,_⟩:=h;rfl
def Ki(h:Qg5):(dK bn d).d=dC bn d:=by
 obtain⟨n,rfl,_⟩|⟨k,t,rfl,_,a⟩|⟨n,t,rfl,_,a⟩:=h
 .rfl
 .rw[aeU,<- Z6 a];rfl
 .rw[aeV,<- Z6 a];rfl
theorem P2(h:pB nb nm d):(aK bn ns d).d=aC bn ns d/\(aK bn ns d).Ok:=by
 obtain⟨w,k,rfl,hw,_⟩|⟨w,s,t,rfl,hw,b,a⟩:=h
 .refine#[rfl,?_];show w∈(["open","shut"]:AT);simp_all
 .constructor
  .show L3.D.tup [.str w,U1 (qL bn (aS s 0).jF) (aS s 1).jF,U1 Qek (aS t 1).jF]=.tup [.str w,tC bn s,tC bn t];rw[Z6 b,Z6 a]
  .show w∉(["open","shut"]:AT);simp at hw;obtain rfl|rfl|rfl|rfl:=hw<;>decide +kernel
theorem Mn(h:QbI):(IK bn ns r).w=r.word/\(IK bn ns r).d=r.cd bn ns:=by
 cases r with
 | bx n k=>exact#[rfl,rfl]
 | md n k x st z=>exact#[rfl,rfl]
 | io n w d=>exact#[rfl,Ki h.2.2]
 | wy n w=>
  have hw:=h.2;refine#[rfl,?_];show L3.D.tup [.str w.sg,.lst ((w.qs.map _).map _),.lst ((w.ds.map _).map _),.str (qL ns _),.str w.md]=.tup _;rw[ey,ey,hE (show ∀d∈w.qs,(jk.d∘aK bn ns) d=aC bn ns d fromλd hd=>(P2 (hw.q d hd)).1),hE (show ∀d∈w.ds,(jj.d∘dK bn) d=dC bn d fromλd hd=>Ki (hw.d d hd))]
end
theorem U6{α:Type}{f:α->T}{g:Qb1}:∀l:List α,(∀i∈l,(f i).dJ=g i)->T.dF QbD=l.map g
 | [],_=>rfl
 | i::l,h=>by rw[e4,T.dF,U6 l λj a=>h j QdI,h i eB,e4]
theorem Bv{α:Type}{f:α->T}:∀l:List α,(∀i∈l,(f i).clean=true)->T.cA QbD=true
 | [],_=>rfl
 | i::l,h=>by rw[e4,T.cA,Bv l λj a=>h j QdI,h i eB];rfl
def RW.nm:RW->Str
 | .bx n _=>n
 | .md _ _ x _ _=>x
 | _=>""
theorem m4(a:α)(l:QR):(List.range l.length).map (λi=>l.getD i a)=l:=by
 refine kv λi=>?_;rw[fT];by_cases h:i<l.length
 .simp_all
 simp_all
def Z7(l:AT):pz l "" = -1:=dU rfl
theorem vX{x:Str}(h:pk l x=true)(n:x≠""):0<=pz l x/\pz l x<l.length:=by
 unfold pk at h;rw[fw n,Bool.false_or,hq]at h;unfold pz;rw[cq n];have:=List.idxOf_lt_length_of_mem h;lia
theorem Ft{x:Str}(h:QcX):x.length<=21:=by
 have:=(eK h).2.1;lia
def intOf(x:Str):Int:=(intText? x).getD 0
theorem Mi:∀(n:Nat) (l:Ch),l.length=n+1->(∀c∈l,iR c=true)->l.getD 0 0≠48->∃m:Nat,0<m/\m<10 ^ Qap/\(sI (m:Int)).cps.toList=l
 | 0,l,b,hd,h0=>by
  match l,b with
  | [c],_=>
   have a:=hd c eB;unfold iR at a;rw[fD,hq,hq]at a;have h0:c≠48:=h0;refine#[c-48,Wc,Wc,?_];rw[r9,zt Wc];have:∀k:Nat,k<10->[Nat.digitChar k].map Char.toNat=[k+48]:=by decide
   rw[this _ Wc,Nat.sub_add_cancel a.1]
 | n+1,l,b,hd,h0=>by
  obtain⟨l,c,rfl⟩:∃f c,l=f++[c]:=#[l.dropLast,l.getLast (by intro z;rw[z]at b;cases b),(y5 _).symm];have b:l.length=n+1:=by rw[eP,hH]at b;lia
  obtain⟨m,m0,d,e⟩:=Mi n l b (λc a=>hd c (hj _ a)) (by
   rwa [e5,oP Wc,<- e5]at h0)
  have a:=hd c (fx _ eB);unfold iR at a;rw[fD,hq,hq]at a;refine#[10*m+(c-48),Wc,by rw[Nat.pow_succ]at d ⊢;lia,?_];rw[r9]at e ⊢;rw[<- Nat.toDigits_append_toDigits Wp m0 Wc,eE,e,zt Wc];have:∀k:Nat,k<10->[Nat.digitChar k].map Char.toNat=[k+48]:=by decide
  rw[this _ Wc,Nat.sub_add_cancel a.1]
theorem Mj{x:Str}(h:iK x=true):∃m:Nat,0<m/\m<10 ^ 30/\x=sI m:=by
 unfold iK at h;simp only[fD,hq,hB,kq,wq]at h;obtain⟨h1,h2,c,b⟩:=h;obtain⟨m,m0,a,e⟩:=Mi (x.length-1) _ (by rw[aR];lia) b c;exact#[m,m0,ij a (Nat.pow_le_pow_right Wp Wc),(ja e).symm]
theorem U7{x:Str}(h:iK x=true):0<intOf x/\(intOf x).natAbs<10 ^ 30/\sI Qdw=x:=by
 obtain⟨m,m0,a,rfl⟩:=Mj h;have e:intOf (sI m)=m:=by unfold intOf;rw[za Wc];rfl
 rw[e];exact#[Wc,Wc,rfl]
theorem IL{x:Str}(h:jO x=true):(intOf x).natAbs<10 ^ 30/\sI Qdw=x:=by
 have back:∀k,k.natAbs<10 ^ 30->x=sI k->(intOf x).natAbs<10 ^ 30/\sI Qdw=x:=λk d e=>by simp_all [intOf,za]
 unfold jO at h;simp at h;obtain h|h:=h
 .exact back 0 Wp ‹_›
 .obtain⟨m,m0,b,e⟩:=Mj h;unfold ki at e;split at e
  .rename_i hm;refine back (-m) Wc (ja ?_);rw[tO Wc,show((-(m:Int)).natAbs)=m by lia,<- e];cases a:x.cps.toList with
   | nil=>rw[a]at hm;cases hm
   | cons c l=>
    simp_all
  .exact back m Wc e
theorem Fv{c:Nat}:∀{l:Ch},c∈l->∃a r,l=a++c::r/\c∉a
 | d::l,h=>by
  by_cases e:c=d
  .exact#[[],l,by rw[e];rfl,W2]
  .obtain⟨a,r,e2,b⟩:=Fv (l:=l) ((ew.1 h).resolve_left e);exact#[d::a,r,by rw[e2];rfl,λz=>(ew.1 z).elim e b]
theorem Z8{x:Str}{c:Nat}(h:Qii):∃a r,x=a++#[(List.toArray [c])]++r/\c∉a.cps.toList/\part3 x #[(List.toArray [c])]=[a,#[(List.toArray [c])],r]:=by
 obtain⟨a,r,e,b⟩:=Fv h;have ex:x=(#[a.toArray])++#[(List.toArray [c])]++#[r.toArray]:=ja (by simp_all [b9]);exact#[_,_,ex,b,ex▸E8 b ]
def Ac(x:Str):Str:=if mq "-" x=true then "-" else "+"
def Bw(x:Str):Option QcF:=if jO x=true then some ("",intOf x) else
 if aU ((part3 x (Ac x)).getD 0 "")=true then
  if (part3 x (Ac x)).getD 1 "" = "" then some ((part3 x (Ac x)).getD 0 "",0)
  else if iK ((part3 x (Ac x)).getD 2 "")=true then some ((part3 x (Ac x)).getD 0 "",if Ac x="+" then intOf ((part3 x (Ac x)).getD 2 "") else -intOf ((part3 x (Ac x)).getD 2 "")) else none
 else none
def oi(n:Str)(k:Int):Str:=if n="" then sI k else if k=0 then n else n++xD k++sI (k.natAbs:Int)
def U8(x:Str)(c:Nat):mq #[(List.toArray [c])] x=decide Qii:=by
 unfold mq;rw[wu]
variable{n:Str}
theorem C7{x:Str}(h:Bw x=some (n,k)):oi n k=x/\k.natAbs<10 ^ 30/\(n="" \/ aU n=true):=by
 unfold Bw at h;split at h
 .rename_i hn;obtain⟨rfl,rfl⟩:=Prod.mk.inj (fO h);obtain⟨a,b⟩:=IL hn;exact#[(dU rfl).trans b,a,.inl rfl]
 split at h
 .rename_i hn;have dash:("-":Str)=#[(List.toArray [45])]:=by decide +kernel
  have plus:("+":Str)=#[(List.toArray [43])]:=by decide +kernel
  obtain⟨c,g,hm⟩:∃c:Nat,(c=45/\45∈x.cps.toList\/c=43/\45∉x.cps.toList)/\Ac x=#[(List.toArray [c])]:=by
   unfold Ac;rw[dash,U8];by_cases z:45∈x.cps.toList
   .exact#[45,.inl #[rfl,z],by rw[e6 z];rfl]
   .exact#[43,.inr #[rfl,z],by rw[fw z];exact plus]
  rw[hm]at h hn;by_cases f:c∈x.cps.toList
  .obtain⟨a,r,e,i,ep⟩:=Z8 f;rw[ep]at h hn;have hn:aU a=true:=hn;split at h
   .rename_i z;have z:(#[(List.toArray [c])]:Str)="":=z;have:=congrArg Str.length z;cases this
   split at h
   .rename_i hf;obtain⟨f0,f1,f2⟩:=U7 (x:=r) hf;have d:([a,#[(List.toArray [c])],r]:AT).getD 2 "" = r:=rfl;rw[d]at h;obtain⟨rfl,rfl⟩:=Prod.mk.inj (fO h);have na:¬ (([a,#[(List.toArray [c])],r]:AT).getD 0 "")="":=gb hn;obtain⟨rfl,_⟩|⟨rfl,_⟩:=g
    .rw[cq Wl];refine#[?_,Wc,.inr hn];rw[oi,cq na,cq Wc,iL,cq Wc,show((-intOf r).natAbs:Int)=intOf r by lia,f2];exact e.symm
    .rw[dU Wl];refine#[?_,f1,.inr hn];rw[oi,cq na,cq Wc,iL,dU f0,show((intOf r).natAbs:Int)=intOf r by lia,f2];exact e.symm
   .cases h
  .rw[CY f]at h hn;rw[dU (show([x,"",""]:AT).getD 1 "" = "" from rfl)]at h;obtain⟨rfl,rfl⟩:=Prod.mk.inj (fO h);exact#[(cq QdK).trans (dU rfl),Wp,.inr hn]
 .cases h
def pH:AT:=["<","<=","=","!="]
def sC:AT->Option jj
 | [w,n]=>if w="call" /\ aU n=true then some (.call n) else none
 | [w,n,t]=>if (w="put" \/ w="say")/\aU n=true then(Bw t).map λp=>if w="put" then .put n p.1 p.2 else .say n p.1 p.2 else none
 | _=>none
def uX:AT->Option jk
 | [w,n]=>if w∈(["open","shut"]:AT)/\aU n=true then some (.kO w n) else none
 | [s,w,t]=>if w∈pH then(Bw s).bind λp=>(Bw t).map λq=>.num w p.1 p.2 q.1 q.2 else none
 | _=>none
def jj.ws:jj->AT
 | .call n=>["call",n]
 | .put b n k=>["put",b,oi n k]
 | .say x n k=>["say",x,oi n k]
def jk.ws:jk->AT
 | .kO w x=>[w,x]
 | .num w n k n2 k2=>[oi n k,w,oi n2 k2]
def mM(n:Str)(k:Int):Prop:=k.natAbs<10 ^ 30/\(n="" \/ aU n=true)
def jj.R:jj->Prop
 | .call n=>aU n=true
 | .put b n k=>aU b=true/\mM n k
 | .say x n k=>aU x=true/\mM n k
def jk.R:jk->Prop
 | .kO w x=>w∈(["open","shut"]:AT)/\aU x=true
 | .num w n k n2 k2=>w∈pH/\mM n k/\mM n2 k2
variable{d:jj}
theorem Ml{ws:AT}(h:sC ws=some d):d.ws=ws/\d.R:=by
 unfold sC at h;split at h
 .split at h
  .rename_i b;cases fO h;exact#[by rw[b.1];rfl,b.2]
  .cases h
 .split at h
  .rename_i w n t b;obtain⟨⟨m,k⟩,f,e⟩:=j1.1 h;obtain⟨a,c⟩:=C7 f;subst e;by_cases hp:w="put"
   .rw[dU hp];exact#[by rw[hp];show [("put":Str),n,oi m k]=_;rw[a],b.2,c]
   .rw[cq hp];exact#[by rw[b.1.resolve_left hp];show [("say":Str),n,oi m k]=_;rw[a],b.2,c]
  lia
 lia
def Z9{ws:AT}{d:jk}(h:uX ws=some d):d.ws=ws/\d.R:=by
 unfold uX at h;split at h
 .split at h
  .rename_i b;cases fO h;exact#[rfl,b]
  .cases h
 .split at h
  .rename_i s w t b;obtain⟨⟨m,k⟩,i,h⟩:=Option.bind_eq_some_iff.1 h;obtain⟨⟨f,k2⟩,g,e⟩:=j1.1 h;obtain⟨a,c⟩:=C7 i;obtain⟨a2,c2⟩:=C7 g;subst e;exact#[by show [oi m k,w,oi f k2]=_;rw[a,a2],b,c,c2]
  .cases h
 .cases h
instance:Inhabited jj:=#[.call ""]
instance:Inhabited jk:=#[.kO "" ""]
def wC(p:AT):Option (Str×Str):=if kM p≠"to" then some ("","new") else match p with
 | [_,n]=>if aU n=true then some (n,"new") else none
 | [_,n,m]=>if m∈(["near","far"]:AT)/\aU n=true then some (n,m) else none
 | _=>none
def Fw(n m:Str):CS:=if n="" then [] else ["to"::n::if m="new" then [] else [m]]
def oj:Str->AT->Bool
 | _,[]=>true
 | x,y::l=>decide (y∈kQ x)&&oj y l
def isA(p:AT):Bool:=decide (kM p∈(["if","and"]:AT))
def Ep(p:AT):Bool:=decide (kM p∈(["do","then"]:AT))
def jv(ps:CS):AT:=ps.getD (ps.length-1) []
def QI(ps:CS):Bool:=oj Qjt ((ps.drop 1).map kM)&&(decide ((ps.getD 0 []).length=2)&&((ps.filter isA).all Qk6&&((ps.filter Ep).all Qk7&&((wC QbW).isSome&&aU ((ps.getD 0 []).getD 1 "")))))
def By(ps:CS):mH:=#[(ps.getD 0 []).getD 1 "",(ps.filter isA).map λp=>(uX p.tail).getD default,(ps.filter Ep).map λp=>(sC p.tail).getD default,((wC QbW).getD ("","")).1,((wC QbW).getD ("","")).2]
def mH.ps(w:mH):CS:=["on",w.sg]::(lk "if" "and" Qm8++lk "do" "then" Qm9++Fw w.tg w.md)
def mH.R(w:mH):Prop:=aU w.sg=true/\(∀q∈w.as,q.R)/\(∀d∈w.ds,d.R)/\((w.tg="" /\ w.md="new")\/(aU w.tg=true/\w.md∈(["new","near","far"]:AT)))
theorem C8(h:p≠[]):kM p::p.tail=p:=by
 cases p with
 | nil=>exact absurd rfl h
 | cons a l=>rfl
def IQ(t:CS):Prop:=t=[]\/∃p,t=[("to":Str)::p]
theorem IU(h:oj "to" l=true):l=[]:=by
 cases l with
 | nil=>rfl
 | cons y l=>
  unfold oj at h;rw[show kQ "to" = [] by decide +kernel]at h;cases h
section
variable{l:CS}(hp:∀p∈l,p≠[])
theorem IV:∀{l:CS} {x:Str},(∀p∈l,p≠[])->x∈(["do","then"]:AT)->oj x QoO=true->∃(T:CS) (t:CS),l=T.map (("then":Str)::·)++t/\IQ t
 | [],x,_,_,_=>#[[],[],rfl,.inl rfl]
 | p::l,x,hp,a,h=>by
  have e:=C8 Qpv;have h:QmB=true:=h;simp at h;have hf:kQ x=(["then","to"]:AT):=by
   simp at a;obtain rfl|rfl:=a<;>decide +kernel
  obtain⟨h1,h2⟩:=h;rw[hf]at h1;simp at h1;obtain z|z:=h1
  .rw[z]at h2 e;obtain⟨T,t,e2,b⟩:=IV (λq c=>hp q QcQ) W2 h2;exact#[p.tail::T,t,WA,b]
  .rw[z]at h2 e;have:=lp.1 (IU h2);exact#[[],[p],WA,.inr #[ _,by rw[e]]]
theorem U9:∀{l:CS} {x:Str},(∀p∈l,p≠[])->x∈(["if","and"]:AT)->oj x QoO=true->∃(A D t:CS),l=A.map (("and":Str)::·)++lk "do" "then" D++t/\IQ t
 | [],x,_,_,_=>#[[],[],[],rfl,.inl rfl]
 | p::l,x,hp,b,h=>by
  have e:=C8 Qpv;have c:=λq d=>hp q (eD _ d);have h:QmB=true:=h;simp at h;have hf:kQ x=(["and","do","to"]:AT):=by
   simp at b;obtain rfl|rfl:=b<;>decide +kernel
  obtain⟨h1,h2⟩:=h;rw[hf]at h1;simp at h1;obtain z|z|z:=h1<;>rw[z]at h2 e
  .obtain⟨A,D,t,e2,a⟩:=U9 c Wl h2;exact#[p.tail::A,D,t,WA,a]
  .obtain⟨T,t,e2,a⟩:=IV c Wl h2;exact#[[],p.tail::T,t,by rw[e2,<- e];rfl,a]
  .have:=lp.1 (IU h2);exact#[[],[],[p],by rw[this];rfl,.inr #[ _,by rw[e]]]
theorem aeZ(hp:∀p∈l,p≠[])(h:oj "on" QoO=true):∃(A D t:CS),l=lk "if" "and" A++lk "do" "then" D++t/\IQ t:=by
 cases l with
 | nil=>exact#[[],[],[],rfl,.inl rfl]
 | cons p l=>
  have e:=C8 Qpv;have b:=λq c=>hp q QcQ;have h:QmB=true:=h;rw[fD,hq,show kQ _=(["if","do","to"]:AT) by decide +kernel]at h;obtain⟨h1,h2⟩:=h;simp at h1;obtain z|z|z:=h1<;>rw[z]at h2 e
  .obtain⟨A,D,t,e2,a⟩:=U9 b W2 h2;exact#[p.tail::A,D,t,by rw[e2,<- e];rfl,a]
  .obtain⟨T,t,e2,a⟩:=IV b WE h2;exact#[[],p.tail::T,t,by rw[e2,<- e];rfl,a]
  .have:=lp.1 (IU h2);exact#[[],[],[p],by rw[this];rfl,.inr #[ _,by rw[e]]]
end
def BD[Inhabited α]{F:AT->Option α}{W:α->AT}{R:Qo4}(hb:∀{ws a},F ws=some a->W a=ws/\R a){A:CS}(h:∀q∈A,(F q).isSome=true):(A.map λq=>(F q).getD default).map W=A/\∀a∈A.map λq=>(F q).getD default,R a:=by
 refine#[?_,λa c=>?_]
 .simp;refine(hE λq b=>?_).trans (List.map_id A);obtain⟨v,hv⟩:=ky.1 (h q b);show W ((F q).getD default)=q;rw[hv];exact(hb hv).1
 .obtain⟨q,b,rfl⟩:=eJ.1 c;obtain⟨v,hv⟩:=ky.1 (h q b);rw[hv];exact(hb hv).2
def aac{m:Str}(h:wC ("to"::p)=some (n,m)):Fw n m=[("to":Str)::p]/\aU n=true/\m∈(["new","near","far"]:AT):=by
 unfold wC at h;rw[cq (λz=>z rfl)]at h;split at h
 .rename_i x e;obtain⟨_,rfl⟩:=i8 e;split at h
  .rename_i hn;obtain⟨rfl,rfl⟩:=Prod.mk.inj (fO h);exact#[(cq QdK).trans rfl,hn,W2 ]
  .cases h
 .rename_i x y e;obtain⟨_,rfl⟩:=i8 e;split at h
  .rename_i hn;obtain⟨rfl,rfl⟩:=Prod.mk.inj (fO h);refine#[(cq (gb hn.2)).trans ?_,hn.2,eD _ hn.1];rw[cq];rintro rfl;exact absurd hn.1 Wl
  .cases h
 .cases h
theorem aad{ps:CS}(hp:∀p∈ps,p≠[])(h0:kM QhM="on")(h:QI ps=true):(By ps).ps=ps/\(By ps).R:=by
 unfold QI at h;simp only[fD,hq]at h;obtain⟨h1,h2,k,j,i,E⟩:=h;cases ps with
 | nil=>exact absurd h0 Wl
 | cons p0 l=>
 have h0:kM p0="on":=h0;have h2:p0.length=2:=h2
 match p0,h2 with
 | [a,sg],_=>
 have h0:a="on":=h0;subst h0;obtain⟨A,D,t,rfl,f⟩:=aeZ (l:=l) (λp b=>hp p QbF) h1;have e:∀{q:Qkc},q "to" = false->t.filter Qij=[]:=λ{q} b=>by
  obtain rfl|⟨p,rfl⟩:=f
  .rfl
  .exact hY (p:=λp:AT=>q (kM p)) (show ¬ q "to" = true by rw[b];decide)
 have r:([("on":Str),sg]::Qb2).filter isA=lk "if" "and" A:=by
  have d:¬ isA [("on":Str),sg]=true:=show ¬ decide (("on":Str)∈(["if","and"]:AT))=true by decide +kernel
  rw[hY d,ig,ig,show t.filter isA=[] from e (q:=λx=>decide Qlo) Wl,show(lk "if" "and" A).filter isA=_ from jZ (q:=λx=>decide Qlo) (z:=true) Wl Wl A,show(lk "do" "then" D).filter isA=_ from jZ (q:=λx=>decide Qlo) (z:=false) Wl Wl D];simp
 have o:([("on":Str),sg]::Qb2).filter Ep=lk "do" "then" D:=by
  have d:¬ Ep [("on":Str),sg]=true:=show ¬ decide (("on":Str)∈(["do","then"]:AT))=true by decide +kernel
  rw[hY d,ig,ig,show t.filter Ep=[] from e (q:=λx=>decide Qlh) Wl,show(lk "if" "and" A).filter Ep=_ from jZ (q:=λx=>decide Qlh) (z:=false) Wl Wl A,show(lk "do" "then" D).filter Ep=_ from jZ (q:=λx=>decide Qlh) (z:=true) Wl Wl D];simp
 rw[r]at k;rw[o]at j;have B:∀q∈A,(uX q).isSome=true:=λq b=>by
  rw[<- tS "if" "and" A]at b;obtain⟨p,hp,rfl⟩:=eJ.1 b;exact hB.1 k p hp
 have y:∀q∈D,(sC q).isSome=true:=λq b=>by
  rw[<- tS "do" "then" D]at b;obtain⟨p,hp,rfl⟩:=eJ.1 b;exact hB.1 j p hp
 obtain⟨bA,w⟩:=BD Z9 B;obtain⟨G,v⟩:=BD Ml y;have u:(By ([("on":Str),sg]::Qb2)).as=A.map λq=>(uX q).getD default:=by
  show(([("on":Str),sg]::Qb2).filter isA).map _=_;rw[r]
  conv=>rhs;rw[<- tS "if" "and" A]
  rw[ey];rfl
 have s:(By ([("on":Str),sg]::Qb2)).ds=D.map λq=>(sC q).getD default:=by
  show(([("on":Str),sg]::Qb2).filter Ep).map _=_;rw[o]
  conv=>rhs;rw[<- tS "do" "then" D]
  rw[ey];rfl
 have C:∃n m,wC (jv ([("on":Str),sg]::Qb2))=some (n,m)/\Fw n m=t/\((n="" /\ m="new")\/(aU n=true/\m∈(["new","near","far"]:AT))):=by
  obtain rfl|⟨p,rfl⟩:=f
  .refine#["","new",?_,dU rfl,.inl #[rfl,rfl]];have g:=iJ (l:=[("on":Str),sg]::(lk "if" "and" A++lk "do" "then" D++[])) [] Qna;rw[ft]at g ⊢;refine dU λz=>?_;have z:kM (([("on":Str),sg]::QrF).getD _ [])="to":=z;have no:∀p∈[("on":Str),sg]::QrF,kM p≠"to":=λp hp=>by
    obtain rfl|hp:=ew.1 hp
    .show("on":Str)≠"to";decide +kernel
    obtain hp|hp:=eC.1 hp<;>obtain⟨x,_,rfl|rfl⟩:=pG hp
    .show("if":Str)≠"to";decide +kernel
    .show("and":Str)≠"to";decide +kernel
    .show("do":Str)≠"to";decide +kernel
    .show("then":Str)≠"to";decide +kernel
   exact no _ g z
  .have F:jv ([("on":Str),sg]::(lk "if" "and" A++lk "do" "then" D++[("to":Str)::p]))=("to":Str)::p:=by
    unfold jv;rw[<- iu,eP,hH,q7,e5,lz (eA _),Nat.sub_self];rfl
   rw[F]at i ⊢;obtain⟨⟨n,m⟩,hv⟩:=ky.1 i;obtain⟨g1,g2,g3⟩:=aac hv;exact#[n,m,hv,g1,.inr #[g2,g3]]
 obtain⟨n,m,g1,g2,g3⟩:=C;have c:(By ([("on":Str),sg]::Qb2)).tg=n/\(By ([("on":Str),sg]::Qb2)).md=m:=by
  unfold By;rw[g1];exact#[rfl,rfl]
 refine#[?_,?_]
 .unfold mH.ps;rw[u,s,c.1,c.2,bA,G,g2];rfl
 .unfold mH.R;rw[u,s,c.1,c.2];exact#[E,w,v,g3]
def pF(ws:AT):CS:=ws.foldl pS []
theorem Va:∀(ws:AT) (l:CS),l≠[]->(∀p∈l,p≠[])->(ws.foldl pS l).flatten=l.flatten++ws/\(∀p∈ws.foldl pS l,p≠[])/\ws.foldl pS l≠[]/\kM ((ws.foldl pS l).getD 0 [])=kM (l.getD 0 [])
 | [],l,h,hp=>#[ W2,hp,h,rfl]
 | x::ws,l,h,hp=>by
  obtain⟨l,p,rfl⟩:∃n p,l=n++[p]:=#[ _,_,(y5 h).symm];have o:=hp p (fx _ W2);have step:∃m,pS (l++[p]) x=m/\m≠[]/\m.flatten=(l++[p]).flatten++[x]/\(∀p∈m,p≠[])/\kM (m.getD 0 [])=kM ((l++[p]).getD 0 []):=by
   by_cases g:x∈fk
   .refine#[_,dU g,W2,W2,λq b=>?_,?_]
    .obtain b|b:=eC.1 b
     .exact hp q b
     simp_all
    .rw[e5,oP W2,<- e5]
   .have e:pS (l++[p]) x=l++[p++[x]]:=by
     rw[pS,cq g,eP,hH,q7,e5,lz W2];simp
    refine#[_,e,W2,W2,λq b=>?_,?_]
    .obtain b|b:=eC.1 b
     .exact hp q (hj _ b)
     .rw[eR.1 b];simp
    .cases l with
     | nil=>
      cases p with
      | nil=>exact absurd rfl o
      | cons a r=>rfl
     | cons a r=>rfl
  obtain⟨m,e,m0,k,j,i⟩:=step;obtain⟨a,c,d,f⟩:=Va ws m m0 j;rw[kb,e];exact#[by rw[a,k,fb];rfl,c,d,f.trans i]
def NN(r:AT):(pF QeO).flatten=("on":Str)::r/\(∀p∈pF QeO,p≠[])/\pF QeO≠[]/\kM ((pF QeO).getD 0 [])="on":=Va r [[("on")]] W2 (λp hp=>by rw[eR.1 hp];simp)
def uY:AT->Option jl
 | []=>none
 | w::r=>if w="box" /\ r.length=2 then(if aU (r.getD 0 "")=true/\jO (r.getD 1 "")=true then some (.bx (r.getD 0 "") (intOf (r.getD 1 ""))) else none)
  else if w="one" /\ r.length=2 then(if aU (r.getD 0 "")=true/\aU (r.getD 1 "")=true then some (.md w (r.getD 0 "") (r.getD 1 "")) else none)
  else if w∈(["leaf","all"]:AT)/\r.length=1 then(if aU (r.getD 0 "")=true then some (.md w (r.getD 0 "") "") else none)
  else if w∈(["in","out"]:AT) then(sC r).map (.dd w)
  else if w="on" then(if QI (pF (w::r))=true then some (.wy (By (pF (w::r)))) else none)
  else none
def jl.ws:jl->AT
 | .bx n k=>["box",n,sI k]
 | .md w x st=>w::x::if st="" then [] else [st]
 | .dd w d=>w::d.ws
 | .wy w=>w.ps.flatten
def jl.R:jl->Prop
 | .bx n k=>aU n=true/\k.natAbs<10 ^ 30
 | .md w x st=>aU x=true/\(Qwr\/(w∈(["leaf","all"]:AT)/\st=""))
 | .dd w d=>w∈(["in","out"]:AT)/\d.R
 | .wy w=>w.R
variable{ws:AT}
theorem xM{c:jl}(h:uY ws=some c):c.ws=ws/\c.R:=by
 cases ws with
 | nil=>cases h
 | cons w r=>
 rw[uY]at h;have two:∀{l:AT},l.length=2->∃a b,l=[a,b]:=λ{l} f=>match l,f with | [a,b],_=>#[a,b,rfl]
 have one:∀{l:AT},l.length=1->∃a,l=[a]:=λ{l} f=>match l,f with | [a],_=>#[a,rfl]
 by_cases h1:w="box" /\ r.length=2
 .rw[dU h1]at h;obtain⟨rfl,f⟩:=h1;obtain⟨a,b,rfl⟩:=two f;by_cases hn:aU a=true/\jO b=true
  .cases fO ((dU hn).symm.trans h);obtain⟨k1,k2⟩:=IL hn.2;exact#[by show [("box":Str),a,sI (intOf b)]=_;rw[k2],hn.1,k1]
  .cases (cq hn).symm.trans h
 rw[cq h1]at h;by_cases h2:w="one" /\ r.length=2
 .rw[dU h2]at h;obtain⟨rfl,f⟩:=h2;obtain⟨a,b,rfl⟩:=two f;by_cases hn:aU a=true/\aU b=true
  .cases fO ((dU hn).symm.trans h);exact#[by show("one":Str)::a::(if b="" then [] else [b])=_;rw[cq (gb hn.2)],hn.1,.inl #[rfl,hn.2]]
  .cases (cq hn).symm.trans h
 rw[cq h2]at h;by_cases k:w∈(["leaf","all"]:AT)/\r.length=1
 .rw[dU k]at h;obtain⟨hw,f⟩:=k;obtain⟨a,rfl⟩:=one f;by_cases hn:aU a=true
  .cases fO ((dU hn).symm.trans h);exact#[ rfl,hn,.inr #[hw,rfl]]
  .cases (cq hn).symm.trans h
 rw[cq k]at h;by_cases j:w∈(["in","out"]:AT)
 .rw[dU j]at h;obtain⟨d,hd,e⟩:=j1.1 h;subst e;obtain⟨a,b⟩:=Ml hd;exact#[by show w::d.ws=_;rw[a],j,b]
 rw[cq j]at h;by_cases i:w="on"
 .rw[dU i]at h;subst i;by_cases g:QI (pF QeO)=true
  .cases fO ((dU g).symm.trans h);obtain⟨f1,f2,m,f4⟩:=NN r;obtain⟨a,b⟩:=aad f2 f4 g;exact#[by show((By (pF QeO)).ps).flatten=_;rw[a,f1],b]
  .cases (cq g).symm.trans h
 rw[cq i]at h;cases h
noncomputable def ko(x:Str):Str:=Txt.lstripChars x " "
def C9(x:Str):AT:=Txt.split (ko x) " "
def qz(x:Str):Nat:=x.length-(ko x).length
def Fx(x:Str):Option jl:=uY (C9 x)
theorem tW(x:Str):Txt.mul " " (qz x:Int)++ko x=x/\(ko x).length<=x.length:=by
 obtain⟨n,hn⟩:∃n,n=(x.cps.toList.takeWhile ((" ":Str).cps.contains)).length:=#[_,rfl];have b:=hn▸(List.prefix_iff_eq_take.1 (List.takeWhile_prefix _));have nl:n<=x.cps.toList.length:=hn▸(List.takeWhile_prefix _).length_le;have e:=vV b nl;have rl:(ko x).length=x.length-n:=by
  rw[<- aR,<- aR,ko,e,mu]
 have g:n<=x.length:=‹_›;have bn:qz x=n:=by unfold qz;lia
 refine#[ja ?_,Wc];rw[b9,bn,lg,ko,e];have f:x.cps.toList.take n=List.replicate n 32:=by
  refine List.eq_replicate_iff.2 #[by rw[hM];lia,λc d=>?_];rw[<- b]at d;have:=hB.1 List.all_takeWhile c d;have a:∀c,(" ":Str).cps.contains c=true->c=32:=λc h=>by
   have:(" ":Str).cps=(List.toArray [32]):=rfl;rw[this]at h;simpa using h
  exact a c this
 rw[<- f,rb]
def O6(x:Str):Txt.mul " " (qz x:Int)++Str.join " " (C9 x)=x:=by
 have e:=kj (ko x) " ";rw[show Str.join " " (C9 x)=ko x from ?_]
 .exact(tW x).1
 .exact e
def Mm{x:Str}{c:jl}(h:Fx x=some c):Txt.mul " " (qz x:Int)++Str.join " " c.ws=x/\c.R:=by
 obtain⟨a,b⟩:=xM h;exact#[by rw[a];exact O6 x,b]
theorem aae{x:Str}(h:iK x=true):intText? x=some Qdw/\x.length<=640:=by
 obtain⟨_,b,c⟩:=U7 h;have e:=za b;have l:=kg b;rw[c]at e l;exact#[e,Wc]
theorem Mp{x:Str}(h:jO x=true):intText? x=some Qdw/\x.length<=640:=by
 obtain⟨b,c⟩:=IL h;have e:=za b;have l:=kg b;rw[c]at e l;exact#[e,Wc]
def Vb(x:Str):L3.D:=U1 ((Bw x).getD ("",0)).1 ((Bw x).getD ("",0)).2
def ae0(x:Str):((Ac x).length==0)=false:=by
 unfold Ac;split<;>rfl
theorem IW(x:Str)(y:Str):∃a m c,part3 x y=[a,m,c]/\a.length<=x.length/\c.length<=x.length:=by
 have sub:∀i j,(Builtin.Str.strSub x i j).length<=x.length:=λi j=>by
  rw[<- aR,<- aR,vI,hM,mu];lia
 unfold part3;split
 .exact#[_,_,_,rfl,sub _ _,sub _ _]
 .exact#[_,_,_,rfl,W2,fv _]
def nt{b:Bool}(h:(!b)=true):b=false:=by cases b<;>first|rfl|cases h
def nf{b:Bool}(h:(!b)=false):b=true:=by cases b<;>first|rfl|cases h
def list1(h:l.length=1):∃a,l=[a]:=match l,h with | [a],_=>#[a,rfl]
def BE(h:l.length=2):∃a b,l=[a,b]:=match l,h with | [a,b],_=>#[a,b,rfl]
def NM(h:l.length=3):∃a b c,l=[a,b,c]:=match l,h with | [a,b,c],_=>#[a,b,c,rfl]
def Vc(ws:AT):L3.D:=((sC ws).getD default).d
def lL(ws:AT):L3.D:=((uX ws).getD default).d
def vj(p:AT):L3.D:=.tup [.str ((wC p).getD ("","")).1,.str ((wC p).getD ("","")).2]
variable{w:Str}
def ae1(h:¬ aU n=true):sC [w,n]=none:=cq λy=>h y.2
def Fy(h:Qfi):sC [("call":Str),n]=some (.call n):=dU #[rfl,h]
theorem Vd{t:Str}(h:aU n=false\/(Bw t).isSome=false):sC [w,n,t]=none:=by
 unfold sC;obtain h|h:=h
 .exact cq λy=>by simp_all
 simp_all
def Ve{t:Str}(h:¬ w∈(["put","say"]:AT)):sC [w,n,t]=none:=cq λy=>h (by simp only[ew,fo,hx];exact y.1)
def aag{t:Str}(h:w∈(["put","say"]:AT))(hn:Qfi)(a:QxO):(sC [w,n,t]).isSome=true/\Vc [w,n,t]=.tup [.str w,.str n,Vb t]:=by
 simp at h;obtain⟨p,hp⟩:=ky.1 a;have e:sC [w,n,t]=some (if w="put" then .put n p.1 p.2 else .say n p.1 p.2):=by
  unfold sC;dsimp;rw[dU #[h,hn],hp];rfl
 refine#[by rw[e];rfl,?_];unfold Vc Vb;rw[e,hp];obtain rfl|rfl:=h
 .rfl
 rfl
def aah(h2:¬ ws.length=2)(a:¬ ws.length=3):sC ws=none:=by
 unfold sC;split
 .exact absurd rfl h2
 .exact absurd rfl a
 .rfl
def Vf{s t:Str}(h:(Bw s).isSome=false\/(Bw t).isSome=false):uX [s,w,t]=none:=by
 unfold uX;dsimp;split
 .obtain h|h:=h<;>rw[Option.isSome_eq_false_iff,Option.isNone_iff_eq_none]at h<;>rw[h]
  .rfl
  simp
 .rfl
theorem aai{s t:Str}(h:w∈pH)(b:(Bw s).isSome=true)(a:QxO):(uX [s,w,t]).isSome=true/\lL [s,w,t]=.tup [.str w,Vb s,Vb t]:=by
 obtain⟨p,hp⟩:=ky.1 b;obtain⟨q,c⟩:=ky.1 a;have e:uX [s,w,t]=some (.num w p.1 p.2 q.1 q.2):=by
  unfold uX;simp_all
 refine#[by rw[e];rfl,?_];unfold lL Vb;rw[e,hp,c];rfl
def aaj(h2:¬ ws.length=2)(a:¬ ws.length=3):uX ws=none:=by
 unfold uX;split
 .exact absurd rfl h2
 .exact absurd rfl a
 .rfl
theorem Fz(l:AT):wC ("to"::l)=match l with
  | [n]=>if aU n=true then some (n,"new") else none
  | [n,m]=>if m∈(["near","far"]:AT)/\aU n=true then some (n,m) else none
  | _=>none:=by
 match l with
 | []=>rfl
 | [n]=>rfl
 | [n,m]=>rfl
 | a::b::c::l=>rfl
def ae2(h:aU n=false):wC ["to",n]=none:=(Fz [n]).trans (cq (by rw[h];decide))
def Dc(h:Qfi):wC ["to",n]=some (n,("new":Str)):=(Fz [n]).trans (dU h)
def Vg{m:Str}(h:¬ (m∈(["near","far"]:AT)/\aU n=true)):wC ["to",n,m]=none:=(Fz [n,m]).trans (cq h)
def De{m:Str}(h:m∈(["near","far"]:AT))(hn:Qfi):wC ["to",n,m]=some (n,m):=(Fz [n,m]).trans (dU #[h,hn])
def gl_none(h1:¬ l.length=1)(h2:¬ l.length=2):wC ("to"::l)=none:=by
 rw[Fz];split
 .exact absurd rfl h1
 .exact absurd rfl h2
 .rfl
def Ea(x:L3.D)(l:BC):cutD (x::l) QdF none=l:=by simp[cutD,HT.iy]
def FD:L3.D->AT
 | .lst ds=>ds.map L3.D.toS
 | _=>[]
def lT(p:AT):T:=.lst ((p.map L3.D.str).map T.sh)
def lD(p:AT):L3.D:=.lst (p.map .str)
def se(p:AT):FD (lD p)=p:=by
 show(p.map L3.D.str).map L3.D.toS=p;rw[ey];exact List.map_id' p
def aak(l:CS):T.dJ QvP=.lst (l.map lD):=by
 rw[T.dJ];congr 1
 induction l with
 | nil=>rfl
 | cons p l a=>
  rw[e4,T.dF];congr 1;exact cI _
def O7(l:CS):T.clean QvP=true:=by
 rw[gY]
 induction l with
 | nil=>rfl
 | cons p l a=>
  rw[e4,T.cA,a];exact Bool.and_eq_true_iff.2 #[bM (cu _),rfl]
theorem Vh:∀(ws:AT) (l:CS),l≠[]->(∀p∈l,p≠[]/\kM p∈fk)->∀p∈ws.foldl pS l,p≠[]/\kM p∈fk
 | [],l,_,hp=>hp
 | x::ws,l,h,hp=>by
  obtain⟨l,p,rfl⟩:∃f p,l=f++[p]:=#[ _,_,(y5 h).symm];have d:=hp p (fx _ W2);simp;by_cases c:x∈fk
  .rw[pS,dU c];refine Vh ws _ W2 λq b=>?_;obtain b|b:=eC.1 b
   .exact hp q b
   .rw[eR.1 b];exact#[W2,c]
  .have e:pS (l++[p]) x=l++[p++[x]]:=by
    rw[pS,cq c,eP,hH,q7,e5,lz W2,Nat.sub_self];show(l++[p]).set _ (p++[x])=_;simp
   rw[e];refine Vh ws _ W2 λq b=>?_;obtain b|b:=eC.1 b
   .exact hp q (hj _ b)
   .rw[eR.1 b];refine#[W2,?_];cases p with
    | nil=>exact absurd rfl d.1
    | cons a r=>exact d.2
def aal{y:Str}(h:y∈fk):Iz.lookup y=some (kQ y)/\y≠"" /\ ∀x∈kQ y,x∈fk:=by
 have:∀y∈fk,Iz.lookup y=some (kQ y)/\y≠"" /\ ∀x∈kQ y,x∈fk:=by
  unfold fk;simp only[List.forall_mem_cons];refine#[?_,?_,?_,?_,?_,?_,λx a=>by cases a]<;>refine#[ rfl,Wl,Wl]
 exact this y h
structure PU(n:Nat)(ps:CS):Prop where
 ne:∀p∈ps,∃x m,p=x::m
 fk:∀p∈ps,kM p∈fk
 on:kM QhM="on"
 p0:0<ps.length
 l:ps.length<=n
 w:∀p∈ps,∀w∈p,w.length<=sizeLine
theorem Z0(h:∀w∈(("on":Str)::l),w.length<=sizeLine):PU (l.length+1) Qov:=by
 obtain⟨f1,f2,a,f4⟩:=NN l;have e:pS [] _=[[("on":Str)]]:=dU Wl;have g:∀p∈pF Qdt,p≠[]/\kM p∈fk:=by
  unfold pF;rw[kb,e];exact Vh l _ W2 λp hp=>eR.1 hp▸#[W2,show("on":Str)∈fk by decide +kernel]
 refine#[λp hp=>xl (f2 p hp),λp hp=>(g p hp).2,f4,iU.2 a,?_,λp hp w hw=>h w (f1▸List.mem_flatten.2 #[p,hp,hw])];have:=(C2 Qdt []).2;rw[List.length_nil,gv]at this;unfold pF;lia
variable{ps:CS}
def ae4(ps:CS):((ps.map lD).filter λd=>isA (FD d)).map (λd=>T.sh Qw3)=((By ps).as.map jk.d).map T.sh:=by
 show _=(((ps.filter isA).map _).map _).map _;rw[tf,ey,ey,ey,show(λd=>isA _)∘lD=isA from funext λp=>by simp[se]];exact hE λp _=>by show T.sh _=_;rw[se];rfl
def ae5(ps:CS):((ps.map lD).filter λd=>Ep (FD d)).map (λd=>T.sh Qw4)=((By ps).ds.map jj.d).map T.sh:=by
 show _=(((ps.filter Ep).map _).map _).map _;rw[tf,ey,ey,ey,show(λd=>Ep _)∘lD=Ep from funext λp=>by simp[se]];exact hE λp _=>by show T.sh _=_;rw[se];rfl
def Vi{q:Qg6}{o:Qg6}(h:∀d∈ps.map lD,q (FD d)=true->o (FD d)=true):(ps.filter q).all o=true:=hB.2 λp hp=>by
 obtain⟨a,b⟩:=ir.1 hp;have:=h _ (eJ.2 #[p,a,rfl]);rw[se]at this;exact this b
def Vj{q:Qg6}{o:Qg6}(hp:p∈ps)(h1:q p=true)(h2:o p=false):(ps.filter q).all o=false:=xb.2 #[p,ir.2 #[hp,h1],by rw[h2];decide]
def mH.t(w:mH):T:=.tup [.sh (.str w.sg),.lst ((w.as.map jk.d).map T.sh),.lst ((w.ds.map jj.d).map T.sh),.sh (.str w.tg),.sh (.str w.md)]
def Mq{l:QR}{i:Nat}{d:α}(h:l[i]? = some d):l.drop i=d::l.drop Q3:=by
 obtain⟨a,rfl⟩:=hR.1 h;exact xk a
def ae6{l:CS}{i:Nat}(h:Qpw):l.getD i []∈l:=by
 rw[e5,gh h];exact sk h
def ae7(ws:AT):(lL ws).iV=true:=by unfold lL;cases (uX ws).getD default<;>rfl
def Vk(ws:AT):(Vc ws).iV=true:=by unfold Vc;cases (sC ws).getD default<;>rfl
def Ay(x:Str):Int:=(fW.lookup x).getD 0
def jJ(pw:Str)(mb:Int)(bl:Nat)(w:Str):Bool:=
 if w="box" then decide ((bl:Int)=0)&&decide (mb=-1)
 else if mb=-1 then decide ((bl:Int)=0)&&decide (w∈bB)
 else if w∈bB then decide ((1:Int)<=bl)&&decide ((bl:Int)<=mb+1)
 else decide ((bl:Int)=mb+1)&&decide (Ay pw<=Ay w)
instance:Inhabited mH:=#[#["",[],[],"",""]]
instance:Inhabited jl:=#[.bx "" 0]
def bt{p q:Prop}[Decidable p][Decidable q](h:Ql4=true):p/\q:=by
 rwa [fD,hq,hq]at h
def bf{p q:Prop}[Decidable p][Decidable q](h:Ql4=false):¬ (p/\q):=λz=>by
 rw[e6 z.1,e6 z.2]at h;cases h
def jl.t:jl->T
 | .bx n k=>.sh (.tup [.str n,.int k])
 | .md _ x st=>.sh (.tup [.str x,.str st])
 | .dd _ d=>.sh d.d
 | .wy w=>w.t
def dY.t(f:dY):T:=.tup [.sh (.int f.r),.sh (.int f.bl),.sh (.str f.c.w),f.c.t]
theorem aam(c:jl):c.t.dJ=c.d:=by
 cases c with
 | wy w=>
  show T.dJ (.tup [_,.lst _,.lst _,_,_])=_;rw[T.dJ,T.dF,T.dF,T.dF,T.dF,T.dF,T.dF,cI,cI];rfl
 | _=>rfl
def tX(f:dY):f.t.dJ=f.d:=by
 unfold dY.t;rw[T.dJ,T.dF,T.dF,T.dF,T.dF,T.dF,aam];rfl
def aan(d:jj):d.d.iV=true:=by cases d<;>rfl
def aao(q:jk):q.d.iV=true:=by cases q<;>rfl
def BF(w:mH):w.t.clean=true:=by
 have c:∀l,D.bC l=true->(T.lst _).clean=true:=λl h=>bM h;show(true&&((T.lst _).clean&&((T.lst _).clean&&(true&&(true&&true)))))=true;rw[c _ (cR aao _),c _ (cR aan _)];rfl
theorem BG(c:jl):c.t.clean=true:=by
 cases c with
 | wy w=>exact BF w
 | dd w d=>cases d<;>rfl
 | _=>rfl
def BH(f:dY):f.t.clean=true:=by
 show(true&&(true&&(true&&(f.c.t.clean&&true))))=true;rw[BG];rfl
def QJ(ws:AT):jl:=(uY ws).getD default
def lK(x:Str):jl:=QJ (C9 x)
variable{a b:Str}
def Vl(h:aU a=true)(h2:jO b=true):uY ["box",a,b]=some (.bx a (intOf b)):=by
 rw[uY,dU #[rfl,rfl]];exact dU #[h,h2]
def Mr(h:aU a=false\/jO b=false):uY ["box",a,b]=none:=by
 rw[uY,dU #[rfl,rfl]];exact cq λz=>h.elim QqE λy=>Bool.noConfusion QvQ
def Vm(h:aU a=true)(h2:aU b=true):uY ["one",a,b]=some (.md "one" a b):=by
 rw[uY,cq λz=>absurd z.1 Wl,dU #[rfl,rfl]];exact dU #[h,h2]
def Ms(h:aU a=false\/aU b=false):uY ["one",a,b]=none:=cq λz=>h.elim QqE λy=>Bool.noConfusion QvQ
def Mu(hw:Qsv):uY [w,a]=if aU a=true then some (.md w a "") else none:=by
 rw[uY,cq λz=>absurd z.2 (show ¬ 1=2 by decide),cq λz=>absurd z.2 (show ¬ 1=2 by decide),dU #[hw,rfl]];rfl
def NL(hw:QlG):uY Qgx=(sC l).map (.dd w):=by
 have h:w≠"box" /\ w≠"one" /\ w∉(["leaf","all"]:AT):=by
  simp at hw;obtain rfl|rfl:=hw<;>decide +kernel
 rw[uY,cq λz=>h.1 z.1,cq λz=>h.2.1 z.1,cq λz=>h.2.2 z.1,dU hw]
def NJ:uY Qdt=if QI Qov=true then some (.wy (By Qov)) else none:=by
 rw[uY,cq λz=>absurd z.1 Wl,cq λz=>absurd z.1 Wl,cq λz=>absurd z.1 Wl,cq Wl,dU rfl]
def ae8(h1:¬ Qvp)(h2:¬ Qvq)(c:¬ Qq5)(b:¬ w∈(["in","out"]:AT))(a:¬ w="on"):uY Qgx=none:=by
 rw[uY,cq h1,cq h2,cq c,cq b,cq a]
theorem PM{c:jl}(h:uY Qgx=some c):c.w=w:=by
 obtain⟨e,_⟩:=xM h;cases c with
 | bx n k=>exact(i8 e).1
 | md w x st=>exact(i8 e).1
 | dd w d=>exact(i8 e).1
 | wy v=>exact(i8 (e)).1
theorem join_le{y:Str}:∀{l:AT} {w:Str},w∈l->w.length<=(Str.join y l).length
 | [a],w,h=>eR.1 h▸eA _
 | a::c::l,w,h=>by
  rw[g7,str_len,str_len];obtain rfl|h:=ew.1 h
  .lia
  .have:=join_le (y:=y) h;lia
theorem zj{y:Str}(b:1<=y.length):∀l:AT,l.length<=(Str.join y l).length+1
 | []=>fv _
 | [a]=>rf W2
 | a::c::l=>by
  have:=zj b (c::l);rw[g7,str_len,str_len,gv];lia
def iM(x y:Str):Txt.split x y≠[]:=by
 unfold Txt.split;split
 .simp
 split
 .simp
 .intro z;have:=congrArg List.length z;rw[PyProof.Rows.len_partsBetween]at this;cases this
def ZA{x:Str}(h:w∈C9 x):w.length<=x.length:=by
 have:=join_le (y:=" ") h;rw[show Str.join " " (C9 x)=ko x from kj _ _]at this;exact fg this (tW x).2
theorem Vo(x:Str):(C9 x).length<=x.length+1:=by
 have:=zj (y:=" ") (eA _) (C9 x);rw[show Str.join " " (C9 x)=ko x from kj _ _]at this;have:=(tW x).2;lia
def e7(x:Str):AT:=Txt.split x "\n"
def NI{x:Str}(h:w∈e7 x):w.length<=x.length:=by
 have:=join_le (y:="\n") h
 rwa [show Str.join "\n" (e7 x)=x from kj _ _]at this
def Vp(x:Str):(e7 x).length<=x.length+1:=by
 have:=zj (y:="\n") (eA _) (e7 x)
 rwa [show Str.join "\n" (e7 x)=x from kj _ _]at this
def O8(mb:Int)(x:Str):Int:=if (lK x).w∈bB then qz x else mb
def wF:Str->Int->AT->Bool
 | _,_,[]=>true
 | pw,mb,x::l=>(Fx x).isSome&&QqL
def QK:Int->Str->Int->AT->Int
 | _,_,_,[]=>0
 | i,pw,mb,x::l=>if (Fx x).isSome=true/\jJ pw mb (qz x) (lK x).w=true then QK Q3 (lK x).w (O8 mb x) l else i
def vY:Int->AT->List dY
 | _,[]=>[]
 | i,x::l=>#[i,qz x,lK x]::vY Q3 l
theorem FE(x:Str):∀(l:AT) (i:Int),vY i QjU=vY i l++[#[i+l.length,qz x,lK x]]
 | [],i=>by
  show [_]=[_];simp
 | a::l,i=>by
  show _::vY _ QjU=_::(vY _ l++_);rw[FE x l,gv,show i+1+l.length=i+((l.length+1:Nat)) by lia]
def tY:AT:=["box","leaf","one","all","in","out","on"]
def Di{x:Str}(h:(Fx x).isSome=true):(lK x).w∈tY/\(lK x).R/\Fx x=some (lK x):=by
 obtain⟨c,a⟩:=ky.1 h;have e:lK x=c:=by unfold lK QJ;rw[show uY _=some c from a];rfl
 rw[e];have r:=(Mm a).2;refine#[?_,r,a];cases c with
 | bx n k=>exact show("box":Str)∈tY by decide +kernel
 | wy v=>exact show("on":Str)∈tY by decide +kernel
 | md w x st=>
  show w∈tY;obtain⟨e,_⟩|⟨e,_⟩:=r.2
  .rw[e];decide +kernel
  .simp at e;obtain e|e:=e<;>rw[e]<;>decide +kernel
 | dd w d=>
  show w∈tY;have e:=r.1;simp at e;obtain e|e:=e<;>rw[e]<;>decide +kernel
theorem Df:∀(l:AT) (i:Int),(vY i l).length=l.length
 | [],_=>rfl
 | x::l,i=>congrArg (· + 1) (Df l Q3)
def Vq{bl:Nat}(h:w∈tY)(s:jJ pw mb bl w=true):(mb=-1/\w∉bB)\/∃a,fW.lookup w=some a:=by
 simp[tY]at h;obtain rfl|rfl|rfl|rfl|rfl|rfl|rfl:=h
 .exact .inl #[(bt (s)).2,Wl]
 .exact .inr #[0,rfl ]
 .exact .inr #[0,rfl ]
 .exact .inr #[0,rfl ]
 .exact .inr #[1,rfl ]
 .exact .inr #[2,rfl ]
 .exact .inr #[3,rfl ]
def Vr{x:Str}(h:pk l x=true):qL l (pz l x)=x:=by
 by_cases e:x=""
 .rw[e];rfl
 .unfold pk at h;rw[fw e,Bool.false_or,hq]at h;unfold qL;unfold pz;rw[cq e,i4,e5,gh (List.idxOf_lt_length_of_mem h),List.getElem_idxOf];rfl
theorem Mv{x:Str}(h:pk l x=true)(e:x≠""):l.getD (pz l x).toNat Str.empty=x:=by
 have:=Vr h
 rwa [qL,cq (by have:=(vX h e).1;lia)]at this
section
variable{bs ms:AT}
theorem Dg(h:mM n k)(o:pk bs n=true):iI bs.length QoH/\eG bs QoH=oi n k:=by
 obtain⟨a,hn⟩:=h;refine#[#[_,k,rfl,?_,a],?_]
 .by_cases e:n=""
  .exact .inl (e▸Z7 bs)
  .exact .inr (vX o e)
 .show(if pz bs n=-1 then sI k else if k=0 then bs.getD (pz bs n).toNat _ else bs.getD (pz bs n).toNat _++xD k++sI k.natAbs)=_;unfold oi;by_cases e:n=""
  .rw[e,Z7,dU rfl,dU rfl]
  .have:=(vX o e).1;rw[cq Wc,cq e,Mv o e]
theorem IX(h:d.R)(o:d.ok bs=true):xE bs.length QeV/\dW bs QeV=d.ws:=by
 cases d with
 | call n=>exact#[.inl #[n,rfl,h],rfl ]
 | put b n k=>
  have o:(pk bs b&&pk bs n)=true:=o;simp at o;obtain⟨a,c⟩:=Dg h.2 o.2;have nb:=gb h.1;refine#[.inr (.inl #[_,_,rfl,vX o.1 nb,a]),(Iv bs _ _).trans ?_];rw[Mv o.1 nb,c];rfl
 | say x n k=>
  obtain⟨a,c⟩:=Dg h.2 o;refine#[.inr (.inr #[x,_,rfl,h.1,a]),(Iw bs x _).trans ?_];rw[c];rfl
theorem Vs{q:jk}(h:q.R)(o:q.ok bs ms=true):pB bs.length ms.length Qjy/\aW bs ms Qjy=q.ws:=by
 cases q with
 | kO w x=>
  have nx:=gb h.2;obtain⟨a,c⟩:=vX o nx;have hw:=h.1;simp at hw;refine#[.inl #[w,_,rfl,hw,a,c],?_];show [w,ms.getD (pz ms x).toNat _]=_;rw[Mv o nx];rfl
 | num w n k n2 k2=>
  have o:Qws=true:=o;simp at o;obtain⟨a,c⟩:=Dg h.2.1 o.1;obtain⟨a2,c2⟩:=Dg h.2.2 o.2;refine#[.inr #[w,_,_,rfl,h.1,a,a2],?_];show [eG bs QoH,w,eG bs (ZT bs n2 k2)]=_;rw[c,c2];rfl
def mH.at(bs ms:AT)(m:Int)(w:mH):WY:=#[m,w.sg,w.as.map Qip,w.ds.map QmA,pz ms w.tg,w.md]
structure NO(nb nm:Nat)(w:WY):Prop where
 q:∀d∈w.qs,pB nb nm d
 d:∀d∈w.ds,xE nb d
 s:aU w.sg=true
 t:w.tg=-1/\w.md="new" \/ Qio/\w.md∈(["new","near","far"]:AT)
theorem afa{w:mH}(m:Int)(h:w.R)(o:w.ok bs ms=true):NO bs.length ms.length QnM/\wP bs ms QnM=w.ps:=by
 obtain⟨h1,h2,i,j⟩:=h;unfold mH.ok at o;simp at o;obtain⟨f,c,b⟩:=o;refine#[#[λd hd=>?_,λd hd=>?_,h1,?_],?_]
 .obtain⟨q,a,rfl⟩:=eJ.1 hd;exact(Vs (h2 q a) (f q a)).1
 .obtain⟨q,a,rfl⟩:=eJ.1 hd;exact(IX (i q a) (c q a)).1
 .obtain⟨e,g⟩|⟨e,g⟩:=j
  .exact .inl #[by show pz ms _=-1;rw[e];rfl,g]
  .exact .inr #[vX b (gb e),g]
 .unfold wP mH.ps;have e1:(w.at bs ms m).qs.map (aW bs ms)=w.as.map jk.ws:=by
   show(w.as.map _).map _=_;exact ey▸hE λq a=>(Vs (h2 q a) (f q a)).2
  have e2:(w.at bs ms m).ds.map (dW bs)=w.ds.map jj.ws:=by
   show(w.ds.map _).map _=_;exact ey▸hE λq a=>(IX (i q a) (c q a)).2
  have e3:Ut ms QnM=Fw w.tg w.md:=by
   show(if pz ms _=-1 then [] else [("to":Str)::ms.getD (pz ms _).toNat _::LN _])=_;unfold Fw;by_cases e:w.tg=""
   .rw[e,Z7,dU rfl,dU rfl]
   .have:=(vX b e).1;rw[cq Wc,cq e,Mv b e];rfl
  rw[e1,e2,e3];rfl
end
def Xu(mb:Int)(f:dY):Int:=if f.c.w∈bB then f.bl else mb
def stK:Str->Int->List dY->Prop
 | _,_,[]=>True
 | pw,mb,f::l=>jJ pw mb f.bl f.c.w=true/\stK f.c.w QeQ l
def dY.line(f:dY):Str:=Txt.mul " " (f.bl:Int)++Str.join " " f.c.ws
def CH.D4(c:CH)(ms:AT)(m:Nat):DO:=.md (b8 c.es m).length Qc5 QlL (qL ms QfS) QfS ::
 ((c.is.getD m []).map Qsu++(c.os.getD m []).map Qso++(c.ws.filter λw=>decide QbP).map QtX)
def CH.g8(c:CH)(ms:AT):DO:=c.br++(List.range c.es.length).flatMap Qo7
def Mt(bs ms:AT)(f:dY)(r:RW):Prop:=r.line bs ms=f.line/\r.nf f.r=f.n bs ms
structure Ga(bs ms:AT)(c:CH)(pw:Str)(mb:Int):Prop where
 nl:c.ns.length=c.es.length
 kl:c.ks.length=c.es.length
 sl:c.ss.length=c.es.length
 il:c.is.length=c.es.length
 ol:c.os.length=c.es.length
 pre:g5 c.es
 nm:tQ c.ns
 bk:∀q∈c.bs,aU q.1=true/\q.2.natAbs<10 ^ 30
 kd:∀m:Nat,m<c.es.length->c.ks.getD m Str.empty∈bB/\((c.ks.getD m Str.empty="one" /\ 0<=c.ss.getD m 0/\c.ss.getD m 0<ms.length)\/Qkz)
 ii:∀l∈c.is,∀d∈l,xE bs.length d
 oo:∀l∈c.os,∀d∈l,xE bs.length d
 ww:∀w∈c.ws,NO bs.length ms.length w/\0<=w.src/\w.src<c.es.length
 ss:c.ws.Pairwise λa c=>a.src<=c.src
 e0:mb=-1->c.es=[]
 e1:mb ≠ -1->∃k:Nat,k+1=c.es.length/\((b8 c.es k).length:Int)=mb/\(∃a,fW.lookup pw=some a)/\(Ay pw<=1->c.os.getD k []=[])/\(Ay pw<=2->∀w∈c.ws,w.src≠k)
def nv{l:QR}{a d:α}{i:Nat}(h:Qpw):(l++[a]).getD i d=l.getD i d:=by
 rw[e5,oP h,<- e5]
def k4{l:QR}{a d:α}{n:Nat}(h:n=l.length):(l++[a]).getD n d=a:=by
 rw[h,e5,lz (eA _),Nat.sub_self];rfl
theorem Mw{es:BA}(h:i6 es):∀(i:Nat) {m:Int},0<=m->m<es.length->i<=(b8 es m).length->∃x,(b8 es x).length+i=(b8 es m).length/\(x=m\/x∈b8 es m)/\0<=x/\x<es.length
 | 0,m,h0,h1,_=>#[m,rfl,.inl rfl,h0,h1]
 | i+1,m,h0,h1,hi=>by
  have e:=rW h h0 h1;have hm:=h.at h0 h1;generalize es.getD _ 0=y at e hm;by_cases f:y=-1
  .simp_all
  .rw[cq f]at e;have g:(b8 es m).length=(b8 es y).length+1:=by simp_all
   obtain⟨x,a,b,c,d⟩:=Mw h i (m:=y) Wc Wc Wc;refine#[x,Wc,.inr ?_,c,d];grind
theorem Vt{bl:Nat}(h:g5 es)(hb:(es=[]/\bl=0)\/∃k:Nat,k+1=es.length/\1<=bl/\bl<=(b8 es k).length+1):∃x,g5 QdB/\(b8 QdB (es.length:Nat)).length=bl/\∀m:Nat,m<es.length->b8 QdB m=b8 es m:=by
 obtain⟨rfl,rfl⟩|⟨k,f,b1,b2⟩:=hb
 .refine#[-1,#[tH,λk f=>?_],rfl,W2 ];simp_all
 .obtain⟨x,a,b,c,d⟩:=Mw h.1 ((b8 es k).length+1-bl) (m:=k) Wc Wc Wc;have hp:=h.snoc f b;refine#[x,hp,?_,λm hm=>tu h.1 Wc Wc];have e:=rW hp.1 (m:=es.length) Wc WF;rw[i4,k4 rfl,cq Wc,tu h.1 c d]at e;grind
def Vu{x:Str}{a:Int}(h:fW.lookup x=some a):Ay x=a:=by
 unfold Ay;rw[h];rfl
def aaq{x:Str}(h:x∈bB):fW.lookup x=some 0:=by
 simp only[bB,ew,fo,hx]at h;obtain rfl|rfl|rfl:=h<;>decide +kernel
variable{bs ms:AT}
theorem uZ{f g:Nat->List β}{n:Nat}{x:β}(h:∀m,m<n->f m=g m)(e:f n=g n++[x]):(List.range Qap).flatMap f=(List.range Qap).flatMap g++[x]:=by
 rw[lb];have:(List.range n).flatMap f=(List.range n).flatMap g:=by
  rw[List.flatMap,List.flatMap,hE λm hm=>h m QjB]
 simp_all
theorem Zs(G:QiP){f:dY}(hf:f.c=.bx n k)(e:f.c.R)(a:Qh2):∃d r,Ga bs ms d f.c.w QeQ/\d.g8 ms=c.g8 ms++[r]/\Mt bs ms f r/\d.bn=c.bn++[n]/\d.ns=c.ns:=by
 obtain⟨fr,bl,g⟩:=f;dsimp only at hf e a ⊢;subst hf;have a:(decide ((bl:Int)=0)&&decide (mb=-1))=true:=a;rw[fD,hq,hq]at a;obtain⟨hb,hm⟩:=a;obtain rfl:bl=0:=by lia
 have he:=G.e0 hm;have em:Xu mb (#[fr,0,.bx n k]:dY)=mb:=cq (by show ¬ (("box":Str)∈bB);decide +kernel);refine#[{c with bs:=c.bs++[(n,k)]},.bx n k,?_,?_,#[rfl,rfl],eE ..,rfl]
 .rw[em];refine#[G.nl,G.kl,G.sl,G.il,G.ol,G.pre,G.nm,λq b=>?_,G.kd,G.ii,G.oo,G.ww,G.ss,G.e0,λz=>absurd hm z];obtain b|b:=eC.1 b
  .exact G.bk q b
  .rw[eR.1 b];exact e
 .unfold CH.g8;show(c.bs++[(n,k)]).map _++(List.range c.es.length).flatMap _=c.br++(List.range c.es.length).flatMap _++_;rw[he,eE];show c.br++[RW.bx n k]++[]=c.br++[]++[RW.bx n k];rw[ft,ft]
theorem Yc(G:QiP){f:dY}{x st:Str}(hf:f.c=.md w x st)(j:f.c.R)(o:QnE)(i:Qh2):∃p r,Ga bs ms p f.c.w QeQ/\p.g8 ms=c.g8 ms++[r]/\Mt bs ms f r/\p.bn=c.bn/\p.ns=c.ns++[x]:=by
 obtain⟨fr,bl,v⟩:=f;dsimp only at hf j o i ⊢;subst hf;have j:aU x=true/\(Qwr\/(w∈(["leaf","all"]:AT)/\st="")):=j;have o:pk ms st=true:=o;have hw:w∈bB:=by
  obtain⟨e,_⟩|⟨e,_⟩:=j.2
  .rw[e];decide +kernel
  .simp only[bB,ew,fo,hx]at e ⊢;obtain e|e:=e
   .exact .inl e
   .exact .inr (.inr e)
 have s:w≠"box":=λe=>by
  rw[e]at hw;exact absurd hw Wl
 have em:Xu mb (#[fr,bl,.md w x st]:dY)=bl:=dU hw;have hb:(c.es=[]/\bl=0)\/∃k:Nat,k+1=c.es.length/\1<=bl/\bl<=(b8 c.es k).length+1:=by
  have i:jJ pw mb bl w=true:=i;unfold jJ at i;rw[cq s]at i;by_cases z:mb=-1
  .rw[dU z,fD,hq]at i;exact .inl #[G.e0 z,by have:=i.1;lia]
  .rw[cq z,dU hw,fD,hq,hq]at i;obtain⟨k,k1,k2,_⟩:=G.e1 z;exact .inr #[k,k1,by have:=i.1;lia,by have:=i.2;lia]
 obtain⟨e,u,p2,t⟩:=Vt G.pre hb;have hn:(c.es++[e]).length=c.es.length+1:=by rw[eP,hH]
 have up:∀{α:Type} {l:QR} (a:α),l.length=c.es.length->(l++[a]).length=(c.es++[e]).length:=λ{α l} a h=>by rw[hn,eP,hH,h]
 have fl:∀w∈c.ws,w.src≠(c.es.length:Int):=λw hw z=>by
  have:=(G.ww w hw).2.2;lia
 have q:qL ms Qgd=st:=Vr o;refine#[#[c.bs,c.ns++[x],c.ks++[w],c.es++[e],c.ss++[pz ms st],c.is++[[]],c.os++[[]],c.ws],.md bl w x st Qgd,?_,?_,#[rfl,rfl],rfl,rfl]
 .rw[em];refine#[up x G.nl,up w G.kl,up _ G.sl,up [] G.il,up [] G.ol,u,λy n=>?_,G.bk,λm hm=>?_,λl g d hd=>?_,λl g d hd=>?_,λw hw=>?_,G.ss,λz=>by lia,λ_=>#[c.es.length,hn.symm,by rw[p2],#[0,aaq hw],λ_=>k4 G.ol.symm,λ_=>fl]]
  .obtain n|n:=eC.1 n
   .exact G.nm y n
   .rw[eR.1 n];exact j.1
  .have hm:m<(c.es++[e]).length:=hm;show(c.ks++[w]).getD m Str.empty∈bB/\(((c.ks++[w]).getD m Str.empty="one" /\ 0<=(c.ss++[pz ms st]).getD m 0/\(c.ss++[pz ms st]).getD m 0<ms.length)\/((c.ks++[w]).getD m Str.empty≠"one" /\ (c.ss++[pz ms st]).getD m 0=-1));by_cases z:m<c.es.length
   .rw[nv (by rw[G.kl];exact z),nv (by rw[G.sl];exact z)];exact G.kd m z
   .have z:m=c.es.length:=by lia
    rw[k4 (z.trans G.kl.symm),k4 (z.trans G.sl.symm)];refine#[hw,?_];obtain⟨a,b⟩|⟨a,b⟩:=j.2
    .exact .inl #[a,vX o (gb b)]
    .refine .inr #[λz=>?_,by rw[b];exact Z7 ms];rw[z]at a;exact absurd a Wl
  .obtain g|g:=eC.1 g
   .exact G.ii l g d hd
   .rw[eR.1 g]at hd;cases hd
  .obtain g|g:=eC.1 g
   .exact G.oo l g d hd
   .rw[eR.1 g]at hd;cases hd
  .have:=G.ww w hw;exact#[this.1,this.2.1,by show w.src<((c.es++[e]).length:Int);rw[hn];have:=this.2.2;lia]
 .unfold CH.g8;show c.br++(List.range (c.es++[e]).length).flatMap Qp4=c.br++(List.range c.es.length).flatMap Qo7++[RW.md bl w x st Qgd];rw[hn,lb,oa,fb c.br];have e1:(List.range c.es.length).flatMap Qp4=(List.range c.es.length).flatMap Qo7:=by
   rw[List.flatMap,List.flatMap,hE λm hm=>?_];have hm:=g4.1 hm;unfold CH.D4;dsimp only;rw[t m hm,nv (by rw[G.kl];exact hm),nv (by rw[G.nl];exact hm),nv (by rw[G.sl];exact hm),nv (by rw[G.il];exact hm),nv (by rw[G.ol];exact hm)]
  have e2:CH.D4 #[c.bs,c.ns++[x],c.ks++[w],c.es++[e],c.ss++[pz ms st],c.is++[[]],c.os++[[]],c.ws] ms c.es.length=[RW.md bl w x st Qgd]:=by
   unfold CH.D4;dsimp only;rw[p2,k4 G.kl.symm,k4 G.nl.symm,k4 G.sl.symm,k4 G.il.symm,k4 G.ol.symm,q,ot.2 λw hw=>by rw[fw (fl w hw)];decide];rfl
  rw[e1,h9,e2];rfl
def HA{l:QR}{i:Nat}{v d:α}(h:Qpw):(l.set i v).getD i d=v:=by
 rw[e5,wg h];rfl
def HE{l:QR}{i m:Nat}{v d:α}(h:i≠m):(l.set i v).getD m d=l.getD m d:=by
 rw[e5,e5,vw h]
def Vv{l:List QR}{k:Nat}{d:α}(c:QgV){P:Qo4}(h:∀x∈l,∀y∈x,P y)(hd:P d):∀x∈l.set k (l.getD k []++[d]),∀y∈x,P y:=λx b y a=>by
 obtain b|rfl:=oN b
 .exact h x b y a
 .obtain a|a:=eC.1 a
  .rw[e5,gh c]at a;exact h _ W2 y a
  .exact eR.1 a▸hd
theorem Ya(G:QiP){f:dY}(hf:f.c=.dd w d)(s:f.c.R)(t:QnE)(a:Qh2):∃j r,Ga bs ms j f.c.w QeQ/\j.g8 ms=c.g8 ms++[r]/\Mt bs ms f r/\j.bn=c.bn/\j.ns=c.ns:=by
 obtain⟨fr,bl,v⟩:=f;dsimp only at hf s t a ⊢;subst hf;obtain⟨hw,hd⟩:w∈(["in","out"]:AT)/\d.R:=s;obtain⟨n1,n2⟩:=IX hd (show d.ok bs=true from t);have l:w≠"box" /\ w∉bB:=by
  simp only[ew,fo,hx]at hw;obtain rfl|rfl:=hw<;>decide +kernel
 have em:Xu mb (#[fr,bl,.dd w d]:dY)=mb:=cq l.2;have a:jJ pw mb bl w=true:=a;unfold jJ at a;rw[cq l.1]at a;by_cases z:mb=-1
 .rw[dU z,fD,hq,hq]at a;exact absurd a.2 l.2
 rw[cq z,cq l.2,fD,hq,hq]at a;obtain⟨hb,b⟩:=a;obtain⟨k,k1,k2,_,q,k5⟩:=G.e1 z;have o:bl=(b8 c.es k).length+1:=by lia
 have mt:Mt bs ms #[fr,bl,.dd w d] (.io (b8 c.es k).length w QeV):=by
  rw[o];refine#[?_,rfl];show Txt.mul " " _++Str.join " " (w::dW bs QeV)=Txt.mul " " _++Str.join " " (w::d.ws);rw[n2];rfl
 have i:k<c.is.length:=by rw[G.il];lia
 have e:k<c.os.length:=by rw[G.ol];lia
 have wn:(∀w∈c.ws,w.src≠k)->(c.ws.filter λw=>decide (w.src=(k:Int)))=[]:=λh=>ot.2 λw hw=>by rw[fw (h w hw)];decide
 simp only[ew,fo,hx]at hw;obtain rfl|rfl:=hw
 .have u:Ay ("in":Str)=1:=by decide +kernel
  rw[u]at b;refine#[{c with is:=c.is.set k (c.is.getD k []++[d.n bs])},_,?_,?_,mt,rfl,rfl]
  .rw[em];exact#[G.nl,G.kl,G.sl,(kc ..).trans G.il,G.ol,G.pre,G.nm,G.bk,G.kd,Vv i G.ii n1,G.oo,G.ww,G.ss,G.e0,λ_=>#[k,k1,k2,#[1,show fW.lookup ("in":Str)=some 1 by decide +kernel],λ_=>q b,λ_=>k5 Wc]]
  .unfold CH.g8;show c.br++(List.range c.es.length).flatMap _=_;rw[<- k1];refine(congrArg (c.br ++ ·) (uZ (g:=c.D4 ms) (x:=.io (b8 c.es k).length "in" QeV) (λm hm=>?_) ?_)).trans (fb ..).symm
   .unfold CH.D4;dsimp only;rw[HE Wc]
   .unfold CH.D4;dsimp only;rw[HA i,q b,wn (k5 Wc)];simp
 .have p:Ay ("out":Str)=2:=by decide +kernel
  rw[p]at b;refine#[{c with os:=c.os.set k (c.os.getD k []++[d.n bs])},_,?_,?_,mt,rfl,rfl]
  .rw[em];exact#[G.nl,G.kl,G.sl,G.il,(kc ..).trans G.ol,G.pre,G.nm,G.bk,G.kd,G.ii,Vv e G.oo n1,G.ww,G.ss,G.e0,λ_=>#[k,k1,k2,#[2,show fW.lookup ("out":Str)=some 2 by decide +kernel],λh=>absurd (show(2:Int)<=1 from p▸(show Ay ("out":Str)<=1 from h)) Wp,λ_=>k5 b]]
  .unfold CH.g8;show c.br++(List.range c.es.length).flatMap _=_;rw[<- k1];refine(congrArg (c.br ++ ·) (uZ (g:=c.D4 ms) (x:=.io (b8 c.es k).length "out" QeV) (λm hm=>?_) ?_)).trans (fb ..).symm
   .unfold CH.D4;dsimp only;rw[HE Wc]
   .unfold CH.D4;dsimp only;rw[HA e,wn (k5 b)];simp
theorem X8(G:QiP){f:dY}{v:mH}(hf:f.c=.wy v)(n:f.c.R)(o:QnE)(d:Qh2):∃e r,Ga bs ms e f.c.w QeQ/\e.g8 ms=c.g8 ms++[r]/\Mt bs ms f r/\e.bn=c.bn/\e.ns=c.ns:=by
 obtain⟨fr,bl,s⟩:=f;dsimp only at hf n o d ⊢;subst hf;have i:("on":Str)≠"box" /\ ("on":Str)∉bB:=by decide +kernel
 have em:Xu mb (#[fr,bl,.wy v]:dY)=mb:=cq i.2;have d:jJ pw mb bl "on" = true:=d;unfold jJ at d;rw[cq i.1]at d;by_cases z:mb=-1
 .rw[dU z,fD,hq,hq]at d;exact absurd d.2 i.2
 rw[cq z,cq i.2,fD,hq,hq]at d;obtain⟨hb,q⟩:=d;obtain⟨k,k1,k2,_,_,_⟩:=G.e1 z;have j:bl=(b8 c.es k).length+1:=by lia
 obtain⟨n1,n2⟩:=afa (k:Int) (show v.R from n) (show v.ok bs ms=true from o);have l:Ay ("on":Str)=3:=by decide +kernel
 refine#[{c with ws:=c.ws++[v.at bs ms k]},.wy (b8 c.es k).length QnN,?_,?_,?_,rfl,rfl]
 .rw[em];refine#[G.nl,G.kl,G.sl,G.il,G.ol,G.pre,G.nm,G.bk,G.kd,G.ii,G.oo,λw hw=>?_,?_,G.e0,λ_=>#[k,k1,k2,#[3,show fW.lookup ("on":Str)=some 3 by decide +kernel],λh=>absurd (show(3:Int)<=1 from l▸(show Ay ("on":Str)<=1 from h)) Wp,λh=>absurd (show(3:Int)<=2 from l▸(show Ay ("on":Str)<=2 from h)) Wp]]
  .obtain hw|hw:=eC.1 hw
   .exact G.ww w hw
   .rw[eR.1 hw];exact#[n1,by show(0:Int)<=k;lia,by show(k:Int)<c.es.length;lia]
  .refine List.pairwise_append.2 #[G.ss,List.pairwise_singleton _ _,λa p b hb=>?_];rw[eR.1 hb];have:=(G.ww a p).2.2;show a.src<=k;lia
 .unfold CH.g8;show c.br++(List.range c.es.length).flatMap _=_;rw[<- k1];refine(congrArg (c.br ++ ·) (uZ (g:=c.D4 ms) (x:=.wy (b8 c.es k).length QnN) (λm hm=>?_) ?_)).trans (fb ..).symm
  .unfold CH.D4;dsimp only;rw[ig,hY (by show ¬ decide ((k:Int)=m)=true;rw[fw Wc];decide),List.filter_nil,ft]
  .unfold CH.D4;dsimp only;rw[ig,kn (by show decide ((k:Int)=k)=true;exact e6 rfl),List.filter_nil,eE];simp
 .rw[j];refine#[?_,rfl];show Txt.mul " " _++Str.join " " (wP bs ms QnN).flatten=Txt.mul " " _++Str.join " " v.ps.flatten;rw[n2];rfl
def rp(bs ms:AT):List dY->DO->Prop
 | [],[]=>True
 | f::l,r::rs=>Mt bs ms f r/\rp bs ms l rs
 | _,_=>False
theorem gather:∀(l:Qbm) (c:CH) (pw:Str) (mb:Int),Ga bs ms c pw mb->stK pw mb l->(∀f∈l,f.c.R/\f.c.ok bs ms=true)->∃i m o rs,Ga bs ms i m o/\i.g8 ms=c.g8 ms++rs/\rp bs ms l rs/\i.bn=c.bn++Fp l/\i.ns=c.ns++D3 l
 | [],c,pw,mb,G,_,_=>#[c,pw,mb,[],G,(ft _).symm,trivial,(ft _).symm,(ft _).symm]
 | f::l,c,pw,mb,G,p,h=>by
  obtain⟨s,t⟩:=h f eB;have st:∃i r,Ga bs ms i f.c.w QeQ/\i.g8 ms=c.g8 ms++[r]/\Mt bs ms f r/\i.bn=c.bn++Fp [f]/\i.ns=c.ns++D3 [f]:=by
   have nil:∀{l:AT},l=l++[]:=λ{l}=>(ft l).symm;cases j:f.c with
   | bx n k=>
    obtain⟨i,r,a,b,d,e,g⟩:=Zs G j s p.1;rw[j]at a;refine#[i,r,a,b,d,?_,?_]
    .rw[e];unfold Fp;rw[kn (by rw[j];rfl)];show _=_++[f.c.nm];rw[j];rfl
    .rw[g];unfold D3;rw[hY (by rw[j];exact Bool.noConfusion)];exact nil
   | md w x st=>
    obtain⟨i,r,a,b,d,e,g⟩:=Yc G j s t p.1;rw[j]at a;refine#[i,r,a,b,d,?_,?_]
    .rw[e];unfold Fp;rw[hY (by rw[j];exact Bool.noConfusion)];exact nil
    .rw[g];unfold D3;rw[kn (by rw[j];rfl)];show _=_++[f.c.nm];rw[j];rfl
   | dd w d=>
    obtain⟨i,r,a,b,d,e,g⟩:=Ya G j s t p.1;rw[j]at a;refine#[i,r,a,b,d,?_,?_]
    .rw[e];unfold Fp;rw[hY (by rw[j];exact Bool.noConfusion)];exact nil
    .rw[g];unfold D3;rw[hY (by rw[j];exact Bool.noConfusion)];exact nil
   | wy v=>
    obtain⟨i,r,a,b,d,e,g⟩:=X8 G j s t p.1;rw[j]at a;refine#[i,r,a,b,d,?_,?_]
    .rw[e];unfold Fp;rw[hY (by rw[j];exact Bool.noConfusion)];exact nil
    .rw[g];unfold D3;rw[hY (by rw[j];exact Bool.noConfusion)];exact nil
  obtain⟨c1,r,a,b,d,e,g⟩:=st;obtain⟨i,m,o,rs,a2,b2,d2,e2,g2⟩:=gather l c1 _ _ a p.2 λq u=>h q (eD _ u);have cons:∀(q:dY->Bool),(((f::l).filter q).map (·.c.nm))=(([f].filter q).map (·.c.nm))++((l.filter q).map (·.c.nm)):=λq=>by
   rw[<- eE,<- ig];rfl
  exact#[i,m,o,r::rs,a2,by rw[b2,b,fb];rfl,#[d,d2],by rw[e2,e,fb];exact congrArg _ (cons _).symm,by rw[g2,g,fb];exact congrArg _ (cons _).symm]
noncomputable def Pm:Ga bs ms #[[],[],[],[],[],[],[],[]] "" (-1):=#[rfl,rfl,rfl,rfl,rfl,#[λk a=>absurd a (Nat.not_lt_zero k),λk a=>absurd a W2 ],λx b=>by(cases b),W2,λm hm=>absurd hm (Nat.not_lt_zero m),W2,W2,W2,.nil,λ_=>rfl,absurd rfl]
theorem zk{α β:Type}{P:β->Prop}{f:β->α}:∀(l:QR),(∀a∈l,∃q,a=f q/\P q)->∃qs:List β,l=qs.map f/\∀q∈qs,P q
 | [],_=>by simp
 | a::l,h=>by
  obtain⟨q,e,g⟩:=h a eB;obtain⟨qs,e2,d⟩:=zk l λb hb=>h b Qpr;refine#[q::qs,by rw[e,e2];rfl,λx c=>?_];obtain rfl|c:=ew.1 c
  .exact g
  simp_all
theorem NH(a:k.natAbs<10 ^ 30):Zq k=true:=by
 unfold Zq;grind
theorem Mx{a:Int}(c:a=-1\/(0<=a/\a<nb))(b:k.natAbs<10 ^ 30):Ii nb a k=true:=by
 unfold Ii Ab;rw[NH b];simp_all
def FG{n:Nat}(h:0<=k/\k<n):Ab k n=true:=by
 unfold Ab;rw[e6 h.1,e6 h.2];rfl
theorem NG{d:L3.D}(h:Qg5):∃q:Lk,d=Lv q/\nH q/\nN nb q=true:=by
 have sm:∀{x:Str},aU x=true->x.length<=1000:=λh=>by
  have:=(eK h).2.1;lia
 obtain⟨n,rfl,hn⟩|⟨k,t,rfl,f,⟨a,c,rfl,e,b⟩⟩|⟨n,t,rfl,hn,⟨a,c,rfl,e,b⟩⟩:=h
 .exact#[.call n,rfl,sm hn,hn]
 .refine#[.put k a c,rfl,trivial,?_];show(Ab k nb&&Ii nb a c)=true;rw[FG f,Mx e b];rfl
 .refine#[.say n a c,rfl,sm hn,?_];show(aU n&&Ii nb a c)=true;rw[hn,Mx e b];rfl
variable{nm:Nat}
theorem X2{d:L3.D}(h:pB nb nm d):∃q:mT,d=nr q/\Zr q/\va nm nb q=true:=by
 obtain⟨w,k,rfl,hw,e⟩|⟨w,s,t,rfl,hw,⟨a,c,rfl,g,f⟩,⟨a2,c2,rfl,b,i⟩⟩:=h
 .refine#[.kO w k,rfl,?_,FG e];show w∈(["open","shut"]:AT);simp_all
 .refine#[.num w a c a2 c2,rfl,?_,?_]
  .show ¬ w∈(["open","shut"]:AT);simp at hw;obtain rfl|rfl|rfl|rfl:=hw<;>decide +kernel
  .show(decide _&&(Ii nb a c&&Ii nb a2 c2))=true;rw[e6 hw,Mx g f,Mx b i];rfl
theorem ND{w:WY}(h:t4 nb nm w)(a:0<=w.src/\w.src<nm):∃q:Zt,w.d=Zu q/\q.Ok nm nb/\q.src=w.src/\∀x∈q.dl,nH x/\nN nb x=true:=by
 obtain⟨al,f,b⟩:=zk _ λd hd=>X2 Qgb;obtain⟨dl,c,hd⟩:=zk _ λd hd=>NG Qgc;refine#[#[ _,_,al,dl,w.tg,w.md],?_,#[FG a,#[by have:=(eK h.s).2.1;show w.sg.length<=1000;lia,h.s],?_,?_,b],rfl,hd]
 .show L3.D.tup _=L3.D.tup _;rw[f,c]
 .obtain⟨_,e⟩|⟨_,e⟩:=h.t
  .rw[e];simp
  .exact e
 .show(w.tg=-1/\w.md="new")\/(w.tg ≠ -1/\Ab _ nm=true);obtain e|⟨e,_⟩:=h.t
  .exact .inl e
  .exact .inr #[Wc,FG e]
theorem Vw(l:Da)(h:∀x∈l,∀d∈x,xE nb d):∃qs:List QeP,l.map L3.D.tup=qs.map (λl=>L3.D.tup QcE)/\qs.length=l.length/\∀x∈qs,∀q∈x,nH q/\nN nb q=true:=by
 obtain⟨qs,e,b⟩:=zk l λx a=>zk x λd hd=>NG (h x a d hd);refine#[qs,?_,?_,b]
 .rw[e,ey];rfl
 simp_all
theorem IY{f:Int->α}(l:BA):(List.range l.length).map (λm=>f (l.getD m 0))=l.map f:=by
 refine kv λi=>?_;simp;by_cases h:i<l.length
 .simp_all
 simp_all
structure Dh(c:CH):Prop extends ZN c where
 nl:c.ns.length=c.es.length
 kl:c.ks.length=c.es.length
 sl:c.ss.length=c.es.length
 il:c.is.length=c.es.length
 ol:c.os.length=c.es.length
 e1:c.es.length<=49
 n:tQ c.ns
 bk:∀q∈c.bs,aU q.1=true/\q.2.natAbs<10 ^ 30
 bl:c.bs.length<=1000
 one:∀m:Nat,m<c.es.length->(c.ks.getD m Str.empty="one" /\ 0<=c.ss.getD m 0/\c.ss.getD m 0<c.ns.length)\/Qkz
 is:∀l∈c.is,∀d∈l,xE c.bn.length d
 os:∀l∈c.os,∀d∈l,xE c.bn.length d
 wn:∀w∈c.ws,t4 c.bn.length c.ns.length w/\0<=w.src/\w.src<c.es.length
 ws:c.ws.Pairwise λa c=>a.src<=c.src
 wl:c.ws.length<=100
 rl:c.rows.length<=4964
theorem jT(h:Dh c):∀r∈c.rows,r.Ok c.bn c.ns:=by
 intro r f;have k:=h.nl;obtain f|f:=eC.1 f
 .obtain⟨p,hp,rfl⟩:=eJ.1 f;exact h.bk p hp
 .obtain⟨m,hm,f⟩:=List.mem_flatMap.1 f;have hm:=g4.1 hm;have hd:(b8 c.es m).length<=50:=by
   have o:(b8 _ m).length<=c.es.length+1:=ql _ _ _;have:=h.e1;lia
  have j:∀{l:Da},c.is.length=c.es.length->∀d,d∈l.getD m []->∃x∈l,d∈x:=λ{l} _ d hd=>by
   simp at hd;cases e:l[m]? with
   | none=>rw[e]at hd;cases hd
   | some x=>rw[e]at hd;exact#[x,gc e,hd]
  obtain rfl|f:=ew.1 f
  .refine#[hd,(h.kinds m hm),h.n _ Qgu,?_];obtain⟨a,b,d⟩|⟨a,b⟩:=h.one m hm
   .exact .inl #[a,#[b,d],dU a]
   .exact .inr #[a,cq a,b]
  obtain f|f:=eC.1 f
  .obtain f|f:=eC.1 f
   .obtain⟨d,g,rfl⟩:=eJ.1 f;obtain⟨x,i,hd2⟩:=j h.il d g;exact#[hd,WE,h.is x i d hd2]
   .obtain⟨d,g,rfl⟩:=eJ.1 f;obtain⟨x,i,hd2⟩:=j h.il d g;exact#[hd,WE,h.os x i d hd2]
  .obtain⟨w,hw,rfl⟩:=eJ.1 f;exact#[hd,(h.wn w (ir.1 hw).1).1]
theorem Vx(h:Dh c)(b:Bool):c.rows.foldl Qou []=c.dl b:=by
 unfold CH.rows CH.br;rw[i5,MM,UR];have a:(c.dl b).length=c.es.length:=by
  cases b with
  | true=>exact h.il
  | false=>exact h.ol
 refine kv λi=>?_;simp;grind
def LO(s:QrG)(h:∀w∈c.ws,0<=w.src/\w.src<c.es.length):(c.rows.foldl gW ([],-1)).1=c.ws.map WY.d:=by
 unfold CH.rows CH.br;rw[i5,MI,UU];rw[zg _ _ s h]
def Vy(h:Dh c):D.bC c.wB=true:=fE λd hd=>by
 obtain⟨i,r,_,a,_,rfl⟩:=xG (F:=λi r=>r.nf ((i:Nat)+1:Int)) hd;exact ZQ QoZ
def CH.kW(c:CH):BC:=c.wB.filter λd=>decide ((aS d 2).toS∈bB)
def pI(h:Dh c){g:QcV}{g':RW->T}(b:∀i r,g (r.nf i)=g' r):T.lst ((c.kW.filter λ_=>true).map g)=.lst ((List.range c.es.length).map λm=>g' (c.md m)):=by
 rw[cG];have:=C3 (p:=λd=>decide ((aS d 2).toS∈bB)) _ (λi r=>r.nf Q3) (λi r a=>uW QoZ) (λi r _ _=>b _ r);rw[IA,ey]at this;exact congrArg _ this
theorem tZ(h:Dh c){d:L3.D}(hd:d∈c.kW):∃(i:Int) (n:Nat) (k x:Str) (z:Int),d=.tup [.int i,.int (n:Nat),.str k,.tup [.str x,.int z]]:=by
 obtain⟨h1,h2⟩:=ir.1 hd;obtain⟨i,r,_,a,_,rfl⟩:=xG h1;have z:=(uW QoZ)▸h2;cases r with
 | bx n k=>cases z
 | io n w d=>cases z
 | wy n w=>cases z
 | md n k x st y=>exact#[_,n,k,x,y,rfl]
def nC(es:BA):Bool:=(List.range es.length).all λm=>decide ((b8 es (m:Int)).length<=12)
def FH(ks:AT)(es ss:BA):Bool:=decide Qjx&&Qr0
def CH.lk(c:CH):Bool:=FH c.ks c.es c.ss&&QvR
def CH.t(c:CH):T:=.ins "Chart" QpI
def qA{l:Da}(h:∀x∈l,∀d∈x,xE nb d):D.bC Qwq=true:=fE λd hd=>by
 obtain⟨x,a,rfl⟩:=eJ.1 hd;exact fE λd hd=>IC (h x a d hd)
def Dj(h:Dh c):D.bC Qeq=true:=fE λd hd=>by
 obtain⟨w,hw,rfl⟩:=eJ.1 hd;obtain⟨a,b,e⟩:=h.wn w hw;obtain⟨q,eq,_⟩:=ND a #[b,h.nl▸e];rw[eq];show(true&&Qks)=true;rw[cR (λq=>by cases q<;>rfl) _,cR (λq=>by cases q<;>rfl) _];rfl
def FI(h:Dh c):c.t.clean=true:=
 CW (cR Qal c.bs) (cu _) (oY _ _ _) (qA h.is) (qA h.os) (Dj h)
def jl.Sm:jl->Prop
 | .wy v=>v.as.length+v.ds.length<=400000
 | _=>True
theorem IZ:∀{l:AT} {i:Int} {pw:Str} {mb:Int},wF pw mb l=true->stK pw mb (vY i l)/\∀f∈vY i l,f.c.R
 | [],_,_,_,_=>#[trivial,λf hf=>by cases hf]
 | y::l,i,pw,mb,h=>by
  have h:((Fx y).isSome&&(jJ pw mb _ _&&wF _ _ l))=true:=h;simp at h;obtain⟨h1,h2,d⟩:=h;obtain⟨a,b⟩:=IZ d;refine#[#[h2,a],λf hf=>?_];obtain rfl|hf:=ew.1 hf
  .exact(Di h1).2.1
  simp_all
theorem My{bs ms:AT}:∀{l:Qbm} {rs:DO},rp bs ms l rs->rs.length=l.length
 | [],[],_=>rfl
 | f::l,r::rs,h=>congrArg (· + 1) (My h.2)
theorem Mz{bs ms:AT}:∀{l:Qbm} {rs:DO},rp bs ms l rs->∀r∈rs,∃f∈l,Mt bs ms f r
 | [],[],_,r,c=>by cases c
 | f::l,d::rs,h,r,c=>by
  obtain rfl|c:=ew.1 c
  .exact#[f,W2,h.1]
  .obtain⟨g,a,b⟩:=Mz h.2 r c;exact#[g,eD _ a,b]
theorem Vz{bs ms:AT}:∀{l:AT} {i:Int} {rs:DO},rp bs ms (vY i l) rs->(vY i l).map (dY.n bs ms)=(List.range rs.length).map λ(j:Nat)=>(rs.getD j (.bx "" 0)).nf (i+j)
 | [],_,[],_=>rfl
 | y::l,i,r::rs,h=>by
  have a:=Vz h.2;show _::(vY _ l).map _=_;rw[a,gv,List.range_succ_eq_map,e4,ey];refine congr (congrArg _ ?_) (hE λj _=>?_)
  .rw[show i+((0:Nat))=i from Int.add_zero i];exact h.1.2.symm
  .show _=(rs.getD j _).nf _;rw[show i+((j+1:Nat))=i+1+j by lia]
theorem VA{bs ms:AT}:∀{l:Qbm} {rs:DO},rp bs ms l rs->rs.map (RW.line bs ms)=l.map dY.line
 | [],[],_=>rfl
 | f::l,r::rs,h=>by rw[e4,e4,VA h.2,h.1.1]
theorem afd(h:∀m:Nat,m<c.es.length->(c.ks.getD m Str.empty="one" /\ 0<=c.ss.getD m 0)\/Qkz):c.g8 c.ns=c.rows:=by
 unfold CH.g8 CH.rows;rw[List.flatMap,List.flatMap,hE λm hm=>?_];unfold CH.D4 CH.mr qL;obtain⟨a,b⟩|⟨a,b⟩:=h m QjB
 .rw[dU a,cq Wc]
 .rw[cq a,dU b]
structure Fd(l:Qbm)(c:CH):Prop where
 v:Dh c
 b:c.bn=Fp l
 n:c.ns=D3 l
 ln:c.rows.map Qfq=l.map dY.line
structure l0(x:Str):Prop where
 ll:(e7 x).length<=49
 sm:∀f∈vY 1 (e7 x),f.c.Sm
def sE(x:Str):List dY:=vY 1 (e7 x)
def l8(x:Str):Bool:=(sE x).all (U3 (sE x))
def xN(x:Str):(sE x).length=(e7 x).length:=Df _ _
def xO(p:Qcm)(f:α->Str)(l:QR):((l.filter p).map f).length<=l.length:=by
 rw[eu];exact List.length_filter_le _ _
theorem afe{x:Str}(hp:l0 x)(p:wF "" (-1) (e7 x)=true)(r:l8 x=true):∃c,Fd (sE x) c/\(sE x).map Qw5=c.wB:=by
 obtain⟨st,u⟩:=IZ (i:=1) p;obtain⟨c,pw,mb,rs,G,l,mt,e1,e2⟩:=gather (bs:=Fp (sE x)) (ms:=D3 (sE x)) (sE x) _ "" (-1) Pm st λf hf=>#[u f hf,hB.1 r f hf];have e1:c.bn=Fp (sE x):=e1;have e2:c.ns=D3 (sE x):=e2;have l:c.g8 (D3 (sE x))=rs:=l;have hn:=afd (c:=c) λm hm=>(G.kd m hm).2.imp (λa=>#[a.1,a.2.1]) id;rw[e2,l]at hn;subst hn;rw[<- e1,<- e2]at G mt;have b:=hp.ll;have rl:c.rows.length<=49:=by rw[My mt,xN];exact b
 have wl:c.ws.length<=49:=by
  have:=IE c.rows ([],-1);rw[LO G.ss λw hw=>(G.ww w hw).2,eu]at this;exact fg (fg this (Nat.le_of_eq Qm6)) rl
 have nl:c.ns.length<=49:=by rw[e2];exact fg QjC (by rw[xN];exact b)
 have bl:c.bs.length<=49:=by
  have:c.bn.length<=49:=by rw[e1];exact fg QjC (by rw[xN];exact b)
  rwa [show c.bn.length=c.bs.length from eu ..]at this
 refine#[c,#[#[#[G.pre,λm hm=>(G.kd m hm).1],G.nl,G.kl,G.sl,G.il,G.ol,G.nl▸nl,G.nm,G.bk,Wc,λm hm=>(G.kd m hm).2,G.ii,G.oo,λw hw=>?_,G.ss,Wc,Wc],e1,e2,VA mt],?_]
 .obtain⟨g,s0,s1⟩:=G.ww w hw;refine#[#[?_,g.q,g.d,g.s,g.t],s0,s1];have e:((w.src.toNat:Nat):Int)=w.src:=Int.toNat_of_nonneg s0;have o:RW.wy (b8 c.es (w.src.toNat:Nat)).length w∈c.rows:=fx _ (List.mem_flatMap.2 #[w.src.toNat,g4.2 Wc,eD _ (fx _ (eJ.2 #[w,ir.2 #[hw,e6 e.symm],rfl]))]);obtain⟨⟨fr,y,h⟩,hf,_,en⟩:=Mz mt _ o;have sm:=hp.sm _ hf;have en:L3.D.tup [.int fr,.int _,.str "on",.tup [.str w.sg,.tup w.qs,.tup w.ds,.int w.tg,.str w.md]]=.tup [.int fr,.int y,.str h.w,h.n c.bn c.ns]:=en;simp only[L3.D.tup.injEq,sT,and_true]at en;obtain⟨_,_,z,en⟩:=en;cases h with
  | wy v=>
   simp only[jl.n,mH.n,L3.D.tup.injEq,sT,and_true]at en;rw[en.2.1,en.2.2.1,eu,eu];exact sm
  | bx n k=>simp[jl.n]at en
  | md w x st=>simp[jl.n]at en
  | dd w d=>cases d<;>simp[jl.n,jj.n]at en
 .refine(Vz mt).trans (hE λj _=>?_);rw[Int.add_comm]
open Classical in
def qS(x:Str):CH:=if h:∃c,Fd (sE x) c/\(sE x).map Qw5=c.wB then h.choose else#[[],[],[],[],[],[],[],[]]
def I0{x:Str}(hp:l0 x)(a:wF "" (-1) (e7 x)=true)(b:l8 x=true):Fd (sE x) (qS x)/\(sE x).map (dY.n (qS x).bn (qS x).ns)=(qS x).wB:=by
 unfold qS;rw[dif_pos _];exact(afe hp a b).choose_spec
def ma(x:Str):Ex:=if wF "" (-1) (e7 x)=false then("BadRow",some [("row",.int (QK 1 "" (-1) (e7 x)))]) else if l8 x=false then("NoName",some [("row",.int (U4 (sE x)))]) else(if FH (qS x).ks (qS x).es (qS x).ss=false then "BadTree" else if oh (qS x).ns=false then "BadName" else "BadBox",none)
def all2{P:Str->Prop}{c:Str}(h1:P a)(h2:P c):∀x∈[a,c],P x:=λx b=>by
 simp only[ew,fo,hx]at b;obtain rfl|rfl:=b
 .exact h1
 .exact h2
def VB{P:Str->Prop}{c d:Str}(h1:P a)(h2:P c)(e:P d):∀x∈[a,c,d],P x:=λx b=>by
 simp at b;obtain rfl|rfl|rfl:=b
 .exact h1
 .exact h2
 .exact e
def FJ(h:Qfi):∃c l,(oi n k).cps.toList=c::l/\97<=c:=by
 obtain⟨c,l,e,a,_⟩:=ZH h;unfold oi;rw[cq (gb h)];split
 .exact#[c,l,e,a]
 .exact#[c,_,by rw[b9,b9,e];rfl,a]
def zl(h:k.natAbs<10 ^ 30):intOf (sI k)=k:=by
 unfold intOf;rw[za h];rfl
theorem Dk(h:mM n k):Bw QcR=some (n,k):=by
 obtain⟨a,rfl|hn⟩:=h
 .rw[show oi "" k=sI k from dU rfl,Bw,dU (Uo a),zl a]
 .obtain⟨c,l,e,b⟩:=FJ (k:=k) hn;have dash:("-":Str)=#[(List.toArray [45])]:=by decide +kernel
  have plus:("+":Str)=#[(List.toArray [43])]:=by decide +kernel
  have nn:jO QcR=false:=Iu e b;unfold Bw;rw[cq (by rw[nn];exact gm)];by_cases h0:k=0
  .have ex:oi n k=n:=(cq QdK).trans (dU h0);have ep:part3 QcR (Ac QcR)=[n,"",""]:=by
    rw[ex];unfold Ac;split
    .rw[dash];exact CY (LX hn Wp)
    .rw[plus];exact CY (LX hn Wp)
   rw[ep,h0];exact(dU hn).trans (dU rfl)
  .have ex:oi n k=n++xD k++sI (k.natAbs:Int):=(cq QdK).trans (cq h0);have em:Ac QcR=xD k:=by
    unfold Ac;rw[dash,U8,iL,ex];by_cases z:k<0
    .rw[dU (e6 ((Fj hn h0).2 z)),cq Wc]
    .rw[cq (by rw[fw (λy=>z ((Fj hn h0).1 y))];exact gm),dU Wc];exact plus
   have ep:part3 QcR (Ac QcR)=[n,xD k,sI (k.natAbs:Int)]:=by
    rw[em,ex,iL];exact E8 (LX hn (by split<;>decide))
   have hf:iK Qmq=true:=Ir Wc a;have ne:¬ xD k="":=λz=>by
    have:=congrArg (λx:Str=>x.cps.toList.length) z;rw[iL]at this;cases this
   rw[ep,em];refine(dU hn).trans ((cq ne).trans ((dU hf).trans ?_));show some (n,if xD k="+" then intOf Qmq else -intOf Qmq)=_;rw[zl Wc,plus,iL];grind
theorem Ja(h:d.R):sC d.ws=some d:=by
 cases d with
 | call n=>exact dU #[rfl,h]
 | put b n k=>
  apply(dU #[.inl rfl,h.1]).trans;rw[Dk h.2];rfl
 | say x n k=>
  apply(dU #[.inr rfl,h.1]).trans;rw[Dk h.2];rfl
theorem VC{q:jk}(h:q.R):uX q.ws=some q:=by
 cases q with
 | kO w x=>exact dU h
 | num w n k n2 k2=>
  refine(dU h.1).trans ?_;rw[Dk h.2.1,Dk h.2.2];rfl
def We(x:Str):Prop:=x≠"" /\ x.length<=53/\∀c∈x.cps.toList,33<=c/\c<128
noncomputable def gI{x:Str}(h:x∈(["box","leaf","one","all","in","out","on","if","and","do","then","to","new","near","far","put","call","say","open","shut","<","<=","=","!="]:AT)):We x:=(show ∀y∈(["box","leaf","one","all","in","out","on","if","and","do","then","to","new","near","far","put","call","say","open","shut","<","<=","=","!="]:AT),y≠"" /\ y.length<=53/\∀c∈y.cps.toList,33<=c/\c<128 by decide +kernel) x h
theorem n5{x:Str}(h:QcX):We x:=#[gb h,by have:=(eK h).2.1;lia,λc a=>by have:=(eK h).2.2.2 c a;lia]
def VD{x:Str}(h:x.cps.toList≠[]):x≠"":=λz=>h (by rw[z];rfl)
theorem VF(k:Int):(sI k).cps.toList≠[]:=by
 by_cases h0:k<0
 .rw[tO h0];exact ik _ _
 .obtain⟨m,rfl⟩:=tw (show 0<=k by lia);exact LV m
theorem VG(h:k.natAbs<10 ^ 30):We (sI k):=#[VD (VF k),fg (kg h) Wp,λc a=>by have:=mG k c a;lia]
theorem MA(h:mM n k):We QcR/\oi n k∉fk:=by
 obtain⟨b,rfl|hn⟩:=h
 .refine#[VG b,?_];cases e:(sI k).cps.toList with
  | nil=>exact absurd e (VF k)
  | cons c l=>
   have a:c∈(sI k).cps.toList:=e▸eB;have:=mG k c a;exact MO a Wc
 .obtain⟨c,l,e,a⟩:=FJ (k:=k) hn;refine#[#[VD WA,?_],?_]
  .unfold oi;rw[cq QdK];split
   .exact(n5 hn).2
   .have l1:=(eK hn).2.1;have l2:=E9 b;have l3:(xD k).length=1:=by rw[iL];rfl
    refine#[by rw[<- aR,b9,b9,eP,eP,aR,aR,aR];lia,λc a=>?_];rw[b9,b9,eC,eC,iL]at a;obtain(a|a)|a:=a
    .exact(n5 hn).2.2 c a
    .have:=eR.1 a;lia
    .have:=mG _ c a;lia
  .by_cases h0:k=0
   .rw[show oi n k=n from(cq QdK).trans (dU h0)];exact zf hn
   .rw[show oi n k=n++xD k++sI _ from(cq QdK).trans (cq h0)];refine MO (c:=if 0<k then 43 else 45) ?_ (by split<;>decide);rw[b9,b9,iL];simp
theorem LM(h:d.R):∀x∈d.ws,We x/\x∉fk:=by
 cases d with
 | call n=>exact all2 #[gI Wl,Wl] #[n5 h,zf h]
 | put b n k=>exact VB #[gI Wl,Wl] #[n5 h.1,zf h.1] (MA h.2)
 | say b n k=>exact VB #[gI Wl,Wl] #[n5 h.1,zf h.1] (MA h.2)
theorem X1{q:jk}(h:q.R):∀x∈q.ws,We x/\x∉fk:=by
 cases q with
 | kO w x=>
  have hw:=h.1;simp at hw;refine all2 ?_ #[n5 h.2,zf h.2];obtain rfl|rfl:=hw<;>exact#[gI Wl,Wl]
 | num w n k n2 k2=>
  have hw:=h.1;simp[pH,hx]at hw;refine VB (MA h.2.1) ?_ (MA h.2.2);obtain rfl|rfl|rfl|rfl:=hw<;>exact#[gI Wl,Wl]
theorem MB:∀{l:AT} {x:Str},Av x l->oj x l=true
 | [],_,_=>rfl
 | y::l,x,h=>by
  show(decide (y∈kQ x)&&oj y l)=true;rw[e6 h.1,MB h.2];rfl
variable{w:mH}
def FL(n m:Str):∀x∈(["on","if","and","do","then"]:AT),Av x ((Fw n m).map kM):=λx a=>by
 have e:∀x∈(["on","if","and","do","then"]:AT),("to":Str)∈kQ x:=by decide +kernel
 unfold Fw;split
 .trivial
 .exact#[e x a,trivial]
theorem aat(A D:CS)(n m:Str):Av "on" ((lk "if" "and" A++lk "do" "then" D++Fw n m).map kM):=by
 have hd:∀x∈(["on","if","and"]:AT),Av x ((lk _ "then" D).map kM++(Fw n m).map kM):=λx a=>by
  have e:∀x∈(["on","if","and"]:AT),("do":Str)∈kQ x/\x∈(["on","if","and","do","then"]:AT):=by decide +kernel
  exact UE (FL n m x (e x a).2) (e x a).1 Wl Wl λy b=>FL n m y WE
 simp;exact UE (hd _ WE) Wl Wl Wl λy b=>hd y WE
def Jb(h:w.R):∀p∈w.ps,FX p/\∀x∈p,We x:=by
 obtain⟨h1,h2,t,s⟩:=h;have d:∀{f g:Str} {l:CS},f∈fk->g∈fk->We f->We g->(∀q∈l,∀x∈q,We x/\x∉fk)->∀p∈lk f g l,FX p/\∀x∈p,We x:=λ{f g l} hf r wf n j p hp=>by
  obtain⟨x,b,rfl|rfl⟩:=pG hp
  .exact#[#[f,x,rfl,hf,λy c=>(j x b y c).2],λy c=>(ew.1 c).elim (λe=>e▸wf) λc=>(j x b y c).1]
  .exact#[#[g,x,rfl,r,λy c=>(j x b y c).2],λy c=>(ew.1 c).elim (λe=>e▸n) λc=>(j x b y c).1]
 intro p hp;obtain rfl|hp:=ew.1 hp
 .exact#[#["on",[w.sg],rfl,Wl,λx b=>by rw[eR.1 b];exact zf h1],all2 Qgv (n5 h1)]
 obtain hp|hp:=eC.1 hp
 .obtain hp|hp:=eC.1 hp
  .refine d Wl Wl Qgv Qgv (λq k=>?_) p hp;obtain⟨a,m,rfl⟩:=eJ.1 k;exact X1 (h2 a m)
  .refine d Wl Wl Qgv Qgv (λq k=>?_) p hp;obtain⟨a,m,rfl⟩:=eJ.1 k;exact LM (t a m)
 .unfold Fw at hp;split at hp
  .cases hp
  .rename_i o;rw[eR.1 hp];obtain⟨hn,hm⟩:=s.resolve_left λz=>o z.1;have i:∀x∈(if w.md="new" then [] else [w.md]),We x/\x∉fk:=λx b=>by
    split at b
    .cases b
    .rw[eR.1 b];simp only[ew,fo,hx]at hm;obtain e|e|e:=hm<;>rw[e]<;>exact#[gI Wl,Wl]
   refine#[#["to",_,rfl,Wl,λx b=>?_],λx b=>?_]
   .exact(ew.1 b).elim (λe=>e▸zf hn) λb=>(i x b).2
   .obtain rfl|b:=ew.1 b
    .exact gI Wl
    .exact(ew.1 b).elim (λe=>e▸n5 hn) λb=>(i x b).1
def X0(h:w.R):pF w.ps.flatten=w.ps:=by
 unfold pF;rw[UB _ [] λp hp=>(Jb h p hp).1];rfl
def VH{q:Qkc}{z y:Bool}(h1:q "on" = false)(h2:q "to" = false)(d:q "if" = z)(c:q "and" = z)(b:q "do" = y)(a:q "then" = y):w.ps.filter Qij=(if z then lk "if" "and" (w.as.map jk.ws) else [])++if y then lk "do" "then" (w.ds.map jj.ws) else []:=by
 have no:∀{p:AT} (l:List _),q (kM p)=false->(p::l).filter _=l.filter (λp=>q _):=λl h=>hY (h▸gm);have t:(Fw w.tg w.md).filter Qij=[]:=by
  unfold Fw;split
  .rfl
  .exact no [] h2
 unfold mH.ps;rw[no (p:=[("on"),w.sg]) _ h1,ig,ig,jZ d c,jZ b a,t,ft]
theorem IH:w.ps.filter isA=lk "if" "and" Qm8:=(VH (q:=λx=>decide _) (z:=true) (y:=false) (rfl) (rfl) (rfl) WE Wl Wl).trans (ft _)
theorem IF:w.ps.filter Ep=lk "do" "then" Qm9:=VH (q:=λx=>decide _) (z:=false) (y:=true) (rfl) Wl Wl (rfl) WE WE
def VJ{l:CS}{o:Qg6}(h:∀q∈l,o q=true):(lk f g l).all (λp=>o p.tail)=true:=hB.2 λp hp=>by
 obtain⟨x,a,rfl|rfl⟩:=pG hp<;>exact h x a
def VL[Inhabited α]{l:QR}{F:AT->Option α}{W:α->AT}(h:∀a∈l,F (W a)=some a):((lk f g Qo8).map λp=>(F p.tail).getD default)=l:=by
 have:((lk f g Qo8).map λp=>(F p.tail).getD default)=((lk f g Qo8).map List.tail).map λq=>(F q).getD default:=by rw[ey];rfl
 rw[this,tS,ey];refine(hE λa b=>?_).trans (List.map_id' l);show(F _).getD default=a;rw[h a b];rfl
theorem VM{l m:QR}{d:α}(h:m≠[]):(l++m).getD ((l++m).length-1) d=m.getD (m.length-1) d:=by
 have:=iU.2 h;rw[e5,lz WF,eP];congr 2;lia
theorem VN(h:w.R):wC (jv w.ps)=some (w.tg,w.md):=by
 have b:=h.2.2.2;unfold jv;by_cases e:w.tg=""
 .have a:Fw _ w.md=[]:=dU e;have em:w.md="new":=by
   obtain z|z:=b
   .exact z.2
   .exact absurd e (gb z.1)
  have hp:w.ps≠[]:=ik _ _;have hm:=iJ [] (iU.2 hp);have nt:kM (w.ps.getD Qvr [])≠"to":=by
   generalize w.ps.getD _ []=p at hm;unfold mH.ps at hm;rw[a,ft]at hm;obtain rfl|hm:=ew.1 hm
   .exact show ¬ ("on":Str)="to" by decide +kernel
   obtain hm|hm:=eC.1 hm
   .obtain⟨x,_,rfl|rfl⟩:=pG hm
    .exact show ¬ ("if":Str)="to" by decide +kernel
    .exact show ¬ ("and":Str)="to" by decide +kernel
   .obtain⟨x,_,rfl|rfl⟩:=pG hm
    .exact show ¬ ("do":Str)="to" by decide +kernel
    .exact show ¬ ("then":Str)="to" by decide +kernel
  unfold wC;rw[dU nt,e,em]
 .have a:Fw _ _=[("to":Str)::w.tg::if w.md="new" then [] else [w.md]]:=cq e;obtain⟨hn,hm⟩:=b.resolve_left λz=>e z.1;have c:w.ps.getD Qvr []=("to":Str)::w.tg::if w.md="new" then [] else [w.md]:=by
   unfold mH.ps;rw[a,<- iu,VM Qch];rfl
  rw[c];by_cases z:w.md="new"
  .rw[dU z,Dc hn,z]
  .rw[cq z];refine De ?_ hn;simp_all
def afg(h:w.R):QI w.ps=true/\By w.ps=w:=by
 have h2:=h.2.1;have e:=h.2.2.1;constructor
 .unfold QI;rw[IH,IF,VN h];have a1:=MB (aat Qm8 Qm9 w.tg w.md);have a2:(lk "if" "and" _).all _=true:=VJ (o:=λq=>(uX q).isSome) λq c=>by
   obtain⟨a,b,rfl⟩:=eJ.1 c;rw[VC (h2 a b)];rfl
  have a3:(lk "do" "then" _).all _=true:=VJ (o:=λq=>(sC q).isSome) λq c=>by
   obtain⟨a,b,rfl⟩:=eJ.1 c;rw[Ja (e a b)];rfl
  rw[a2,a3];show(oj "on" ((lk _ _ _++lk _ _ _++Fw _ _).map kM)&&(true&&(true&&(true&&(true&&aU w.sg)))))=true;rw[a1,h.1];rfl
 .unfold By;rw[IH,IF,VN h,VL λa b=>VC (h2 a b),VL λd hd=>Ja (e d hd)];rfl
theorem VP{c:jl}(h:c.R):uY c.ws=some c:=by
 cases c with
 | bx n k=>exact(Vl h.1 (Uo h.2)).trans (by rw[zl h.2])
 | md w x st=>
  obtain⟨rfl,f⟩|⟨hw,rfl⟩:=h.2
  .show uY (("one")::x::if st="" then [] else [st])=_;exact cq (gb f)▸Vm h.1 f
  .exact(Mu hw).trans (dU h.1)
 | dd w d=>exact(NL h.1).trans (by rw[Ja h.2];rfl)
 | wy v=>
  have e:v.ps.flatten=("on":Str)::(v.ps.flatten).tail:=rfl;obtain⟨a,b⟩:=afg h;show uY v.ps.flatten=_;rw[e,NJ,<- e,X0 h,dU a,b]
theorem XX{c:jl}(h:c.R):∀x∈c.ws,We x:=by
 cases c with
 | bx n k=>exact VB (gI WE) (n5 h.1) (VG h.2)
 | md w x st=>
  obtain⟨rfl,b⟩|⟨hw,rfl⟩:=h.2
  .show ∀y∈("one":Str)::x::(if st="" then [] else [st]),We y;exact cq (gb b)▸VB (gI WE) (n5 h.1) (n5 b)
  .refine all2 ?_ (n5 h.1);simp at hw;obtain rfl|rfl:=hw<;>exact gI WE
 | dd w d=>
  intro x a;obtain rfl|a:=ew.1 a
  .have hw:=h.1;simp at hw;obtain rfl|rfl:=hw<;>exact gI Wl
  .exact(LM h.2 x a).1
 | wy v=>
  intro x a;obtain⟨p,hp,a⟩:=List.mem_flatten.1 a;exact(Jb h p hp).2 x a
theorem XT{n:Nat}(h0:ws≠[])(h1:∀x∈ws,32∉x.cps.toList)(h2:(Str.join " " ws).cps.toList.head? ≠ some 32):C9 (Txt.mul " " (n:Int)++Str.join " " ws)=ws/\qz (Txt.mul " " (n:Int)++Str.join " " ws)=n:=by
 have e:ko (Txt.mul " " n++Str.join " " ws)=Str.join " " ws:=OZ h2;constructor
 .unfold C9;rw[e];exact Bs h0 h1
 .unfold qz;rw[e,<- aR,b9,lg,eP,kx,aR];lia
def Pa(h0:ws≠[])(h:∀x∈ws.head?,x≠"" /\ 32∉x.cps.toList):(Str.join " " ws).cps.toList.head? ≠ some 32:=by
 rw[qy];have no:∀{x:Str} (t:Ch),x≠""->32∉x.cps.toList->(x.cps.toList++t).head? ≠ some 32:=λ{x} t h1 h2 z=>by
  cases e:x.cps.toList with
  | nil=>exact h1 (ja e)
  | cons c l=>
   rw[e]at z h2;have:=fO z;exact h2 (this▸eB)
 cases ws with
 | nil=>exact absurd rfl h0
 | cons a l=>
  obtain⟨h1,h2⟩:=h a rfl;cases l with
  | nil=>
   have:=no [] h1 h2;simp at this;exact this
  | cons e l=>
   rw[mF];exact no _ h1 h2
theorem VQ{x:Str}(h:We x):32∉x.cps.toList:=λz=>by
 have:=h.2.2 32 z;lia
def XP{n:Nat}{w:Str}{r:AT}(h0:We w)(h:∀x∈r,x="" \/ We x):C9 (Txt.mul " " (n:Int)++Str.join " " (w::r))=w::r/\qz (Txt.mul " " (n:Int)++Str.join " " (w::r))=n:=by
 refine XT Qch (λx a=>?_) (Pa Qch λx a=>?_)
 .obtain rfl|a:=ew.1 a
  .exact VQ h0
  .obtain rfl|a:=h x a
   .exactλz=>by cases z
   .exact VQ a
 .cases (fO a:w=x);exact#[h0.1,VQ h0]
theorem aau{c:jl}:∃x r,c.ws=c.w::x::r:=by
 cases c with
 | bx n k=>exact#[n,[sI k],rfl]
 | md w x st=>exact#[x,_,rfl]
 | dd w d=>cases d<;>exact#[_,_,rfl]
 | wy v=>exact#[v.sg,_,rfl]
def VR{c:jl}(h:c.R)(n:Nat):Fx (Txt.mul " " (n:Int)++Str.join " " c.ws)=some c/\qz (Txt.mul " " (n:Int)++Str.join " " c.ws)=n/\lK (Txt.mul " " (n:Int)++Str.join " " c.ws)=c:=by
 obtain⟨x,r,e⟩:=aau (c:=c);have hw:=XX h;rw[e]at hw;obtain⟨a,b⟩:=XP (n:=n) (hw _ eB) (λy d=>.inr (hw y (eD _ d)));rw[<- e]at a b;have f:Fx (Txt.mul " " (n:Int)++Str.join " " c.ws)=some c:=by unfold Fx;rw[a,VP h]
 exact#[f,b,by unfold lK QJ;rw[a,VP h];rfl]
section
variable{bn:AT}(hb:tQ bn)
def Dl{x:Str}(h:x∈l):pk l x=true:=by
 unfold pk;rw[e6 h,Bool.or_true]
theorem VW{z:Int}(h:z=-1\/(0<=z/\z<l.length)):pk l (qL l z)=true:=by
 unfold qL;split
 .exact Bool.or_eq_true_iff.2 Qw6
 .rename_i e;exact Dl Qgu
include hb
theorem MC{t:L3.D}(h:iI bn.length t):oi Qek (aS t 1).jF=eG bn t/\mM Qek (aS t 1).jF/\pk bn Qek=true:=by
 obtain⟨a,k,rfl,c,b⟩:=h;refine#[?_,#[b,?_],VW c]
 .rw[qu];show oi (qL bn a) k=_;unfold oi qL;by_cases e:a=-1
  .rw[dU e,dU rfl,dU e]
  .rw[cq e,cq e,cq (gb (gH hb Wc Wc))]
 .show qL bn a="" \/ aU (qL bn a)=true;unfold qL;by_cases e:a=-1
  .exact .inl (dU e)
  .rw[cq e];exact .inr (gH hb Wc Wc)
theorem MD{d:L3.D}(h:xE bn.length d):(dK bn d).ws=dW bn d/\(dK bn d).R/\(dK bn d).ok bn=true:=by
 obtain⟨n,rfl,hn⟩|⟨k,t,rfl,f,b⟩|⟨n,t,rfl,hn,b⟩:=h
 .rw[LZ];exact#[rfl,hn,rfl]
 .obtain⟨a,c,e⟩:=MC hb b;have:dK bn QhC=.put QsN Qek (aS t 1).jF:=(cq (show ¬ ("put":Str)="call" by decide +kernel)).trans (dU rfl);rw[Iv,this];refine#[?_,#[gH hb f.1 f.2,c],?_]
  .show [("put":Str),_,oi _ _]=_;rw[a]
  .show Qw7=true;rw[e,Dl Qgu];rfl
 .obtain⟨a,c,e⟩:=MC hb b;have:dK bn QhD=.say n Qek (aS t 1).jF:=(cq (show ¬ ("say":Str)="call" by decide +kernel)).trans (cq (show ¬ ("say":Str)="put" by decide +kernel));rw[Iw,this];refine#[?_,#[hn,c],e];show [("say":Str),_,oi _ _]=_;rw[a]
variable(hn:tQ ns)
include hn
theorem VX{d:L3.D}(h:Qug):(aK bn ns d).ws=aW bn ns d/\(aK bn ns d).R/\(aK bn ns d).ok bn ns=true:=by
 obtain⟨w,k,rfl,hw,b⟩|⟨w,s,t,rfl,hw,g,f⟩:=h
 .refine#[rfl,#[?_,gH hn b.1 b.2],Dl (lJ (show k.toNat<_ by lia))];show w∈(["open","shut"]:AT);obtain rfl|rfl:=hw<;>decide +kernel
 .obtain⟨a,c,e⟩:=MC hb g;obtain⟨a2,c2,e2⟩:=MC hb f;refine#[?_,#[hw,c,c2],?_]
  .show [oi _ _,w,oi _ _]=[eG bn s,w,eG bn t];exact congr (congrArg _ a) (congrArg (λx=>[w,x]) a2)
  .show Qw7=true;exact Bool.and_eq_true_iff.2 #[e,e2]
theorem XN{w:WY}(h:Quh):(wK bn ns w).ps=wP bn ns w/\(wK bn ns w).R/\(wK bn ns w).ok bn ns=true:=by
 refine#[?_,#[h.s,λq a=>?_,λq a=>?_,?_],?_]
 .unfold mH.ps wP wK;dsimp only;rw[ey,ey,hE (show ∀d∈w.qs,(jk.ws∘aK bn ns) d=aW bn ns d fromλd hd=>(VX hb hn Qgb).1),hE (show ∀d∈w.ds,(jj.ws∘dK bn) d=dW bn d fromλd hd=>(MD hb Qgc).1)];have:Fw Qon w.md=Ut ns w:=by
   unfold Fw Ut qL LN;by_cases e:w.tg=-1
   .rw[dU e,dU rfl,dU e]
   .have:=h.t.resolve_left λz=>e z.1;rw[cq e,cq e,cq (gb (gH hn this.1.1 this.1.2))]
  rw[this]
 .obtain⟨d,hd,rfl⟩:=eJ.1 a;exact(VX hb hn Qgb).2.1
 .obtain⟨d,hd,rfl⟩:=eJ.1 a;exact(MD hb Qgc).2.1
 .show(qL ns w.tg="" /\ w.md="new")\/(aU Qon=true/\_);unfold qL;obtain⟨e,m⟩|⟨e,m⟩:=h.t
  .exact .inl #[dU e,m]
  .rw[cq Wc];exact .inr #[gH hn e.1 e.2,m]
 .unfold mH.ok;rw[fD,fD,hB,hB];refine#[λq a=>?_,λq a=>?_,VW (h.t.imp (·.1) (·.1))]
  .obtain⟨d,hd,rfl⟩:=eJ.1 a;exact(VX hb hn Qgb).2.2
  .obtain⟨d,hd,rfl⟩:=eJ.1 a;exact(MD hb Qgc).2.2
theorem LL(h:QbI):(IK bn ns r).ws=r.ws bn ns/\(IK bn ns r).R/\(IK bn ns r).ok bn ns=true:=by
 cases r with
 | bx n k=>exact#[rfl,h,rfl]
 | md n k x st z=>
  obtain⟨_,f,g,b⟩:=h;refine#[rfl,#[g,?_],?_]
  .obtain⟨e,hz,es⟩|⟨e,es,_⟩:=b
   .exact .inl #[e,es▸gH hn hz.1 hz.2]
   .refine .inr #[?_,es];simp only[bB,ew,fo,hx]at f ⊢;obtain z|z|z:=f
    .exact .inl z
    .exact absurd z e
    .exact .inr z
  .show pk ns st=true;obtain⟨_,hz,es⟩|⟨_,es,_⟩:=b
   .rw[es];exact Dl Qgu
   .rw[es];exact Bool.or_eq_true_iff.2 Qw6
 | io n w d=>
  obtain⟨a,c,e⟩:=MD hb h.2.2;exact#[congrArg (w::·) a,#[h.2.1,c],e]
 | wy n w=>
  obtain⟨a,c,e⟩:=XN hb hn h.2;exact#[congrArg List.flatten a,c,e]
def LI(h:QbI):Fx Qi3=some Qjk/\qz Qi3=r.bl/\lK Qi3=IK bn ns r:=by
 obtain⟨a,c,_⟩:=LL hb hn h;have:=VR c r.bl;rw[a]at this;exact this
def ph(bn ns:AT):Int->DO->List dY
 | _,[]=>[]
 | i,r::l=>HH bn ns i r::ph bn ns Q3 l
theorem VY:∀{l:DO} (i:Int),(∀r∈l,r.Ok bn ns)->vY i QfA=ph bn ns i l
 | [],_,_=>rfl
 | r::l,i,h=>by
  obtain⟨_,b,c⟩:=LI hb hn (h r eB);show(#[i,qz _,lK _]:dY)::vY Q3 _=_::_;rw[b,c,VY Q3 λq a=>h q QdI];rfl
theorem afh(h:QbI)(s:yB pw mb r):jJ pw mb r.bl r.word=true:=by
 have tt:∀{p q:Prop} [Decidable p] [Decidable q],p->q->Ql4=true:=λhp l=>by rw[e6 hp,e6 l];rfl
 unfold jJ;cases r with
 | bx n k=>exact(dU rfl).trans (tt rfl s)
 | md n k x st z=>
  obtain⟨b,s⟩:=s;have b:k∈bB:=b;rw[cq (show ¬ (RW.md n k x st z).word="box" fromλ(e:k="box")=>by rw[e]at b;exact absurd b Wl)];obtain⟨e,e2⟩|⟨e,e2,e3⟩:=s
  .rw[dU e];exact tt (show((n:Nat):Int)=0 by lia) b
  .rw[cq e,dU (show(RW.md n k x st z).word∈bB from b)];exact tt (show(1:Int)<=(n:Nat) by lia) e3
 | io n w d=>
  obtain⟨hw,hm,g,a,c,j,ec,i⟩:=s;have f:w≠"box" /\ w∉bB:=by
   simp only[ew,fo,hx]at hw;obtain rfl|rfl:=hw<;>decide +kernel
  rw[cq (show ¬ (RW.io n w d).word="box" from f.1),cq hm,cq (show ¬ (RW.io n w d).word∈bB from f.2)];exact tt (show((n+1:Nat):Int)=mb+1 by lia) (show Ay pw<=Ay w by rw[Vu j,Vu ec];exact i)
 | wy n w=>
  obtain⟨hm,g,a,j,m⟩:=s;rw[cq (show ¬ (RW.wy n w).word="box" from show ¬ ("on":Str)="box" by decide +kernel),cq hm,cq (show ¬ (RW.wy n w).word∈bB from show ¬ ("on":Str)∈bB by decide +kernel)];exact tt (show((n+1:Nat):Int)=mb+1 by lia) (show Ay pw<=Ay "on" by rw[Vu j,show Ay "on" = 3 by decide +kernel];exact m)
theorem LH:∀{l:DO} {pw:Str} {mb:Int},(∀r∈l,r.Ok bn ns)->D0 pw mb l->wF pw mb QfA=true
 | [],_,_,_,_=>rfl
 | r::l,pw,mb,h,s=>by
  have e:=h r eB;obtain⟨a,b,c⟩:=LI hb hn e;have f:(IK bn ns r).w=r.word:=(Mn e).1;have em:O8 mb Qi3=rF mb r:=by
   unfold O8;rw[c,b,f];have:=uW e;cases r with
   | md n k x st z=>exact dU (eI this)
   | bx n k=>exact cq Qo9
   | io n w d=>exact cq Qo9
   | wy n w=>exact cq Qo9
  show((Fx _).isSome&&(jJ pw mb (qz _) (lK _).w&&wF (lK _).w (O8 mb _) _))=true;rw[em,a,b,c,f,afh hb hn e s.1,LH (λq g=>h q (eD _ g)) s.2];rfl
end
def cnt(x:Str):Nat:=x.cps.toList.count 10
def Hm:("\n":Str)=#[(List.toArray [10])]:=by decide +kernel
def nJ(x y:Str):cnt (x++y)=cnt x+cnt y:=by
 unfold cnt;rw[b9,q4]
theorem cnt_join:∀{l:AT},(∀p∈l,10∉p.cps.toList)->l≠[]->cnt (Str.join "\n" l)+1=l.length
 | [a],h,_=>by
  show cnt a+1=1;rw[cnt,List.count_eq_zero_of_not_mem (h a eB)]
 | a::c::l,h,_=>by
  have b:=cnt_join (l:=c::l) (λp hp=>h p Qpp) Qch;have e:cnt a=0:=List.count_eq_zero_of_not_mem (h a eB);have e2:cnt "\n" = 1:=by rw[Hm];rfl
  rw[g7,nJ,nJ,e,e2,gv,<- b];lia
def MF{x p:Str}(h:p∈e7 x):10∉p.cps.toList:=by
 unfold e7 at h;rw[Hm]at h;exact StrLaws.split_free x 10 p h
def VZ(x:Str):(e7 x).length=cnt x+1:=by
 have:=cnt_join (l:=e7 x) (λp hp=>MF hp) QeY
 rwa [show Str.join "\n" (e7 x)=x from kj _ _,eq_comm]at this
theorem mJ:∀{l:AT},l≠[]->(Str.join "\n" l).length+1=mU l
 | [a],_=>rfl
 | a::c::l,_=>by
  have b:=mJ (l:=c::l) Qch;rw[g7,str_len,str_len,show mU (a::c::l)=a.length+1+mU (c::l) by unfold mU;simp;lia,<- b];show _+1+_+1=_;lia
def afi(x:Str):cnt x<=x.length:=by
 rw[<- aR];exact List.count_le_length
theorem Jc{x:Str}(h0:0<=k)(h1:Qpa):(Txt.slice x none QcM).cps.toList=x.cps.toList.take k.toNat/\(Txt.slice x QcM none).cps.toList=x.cps.toList.drop k.toNat:=by
 obtain⟨n,rfl⟩:=tw h0;refine#[?_,?_]
 .have e:Txt.slice x none QnF=Txt.slice x (some 0) QnF:=by
   unfold Txt.slice;rw[StrLaws.sliceIdx_none_lo]
  rw[e,eq_of_beq (PyProof.Rows.slice_closesL (x:=x) (i:=0) (j:=n) (Int.le_refl _) h0 h1)];simp
 .rw[PyProof.Rows.slice_from_eq h0 h1 rfl];show List.take _ _=_;rw[tm (by rw[mu,aR];lia)]
theorem aav{x:Str}(h0:0<=k)(h1:Qpa):(Txt.slice x QnU none).length<=(Txt.slice x QcM none).length/\cnt (Txt.slice x QnU none)<=cnt Qtq:=by
 by_cases h:k+1<=x.length
 .have a:=(Jc h0 h1).2;have c:=(Jc (k:=k+1) Wc h).2;have e:(k+1).toNat=k.toNat+1:=by lia
  unfold cnt;rw[<- aR,<- aR,a,c,e,<- List.drop_drop];exact#[by rw[mu];lia,(mn _ _).count_le _]
 .have e:k=x.length:=by lia
  have z:Txt.slice x QnU none=Txt.slice x QcM none:=by
   unfold Txt.slice;rw[PyProof.Rows.sliceIdx_lo_beyond _ (show(x.length:Int)<=k+1 by lia),e]
  rw[z];exact#[eA _,eA _]
def afj{x:Str}(h0:0<=k)(h1:Qpa):(Txt.slice x none QcM).length+(Txt.slice x QcM none).length=x.length/\cnt (Txt.slice x none QcM)+cnt Qtq=cnt x:=by
 obtain⟨a,c⟩:=Jc h0 h1;unfold cnt;rw[<- aR,<- aR,<- aR,a,c,<- eP,<- q4,rb];exact#[rfl,rfl]
def rA:Str:=" !\"#$&'()*+,-./0123456789:;<=>?@ABCDEFGHIJKLMNOPQRSTUVWXYZ[\\]^_`" ++ "abcdefghijklmnopqrstuvwxyz{|}~\n"
def m3(c:Int):Str:=#[(List.toArray [rA.cps.toList.getD (c % 95).toNat 0])]
def BI(n:Nat)(c:Int):Int:=c*48271 % 2147483647 % ((n:Int)+1)
def Jd(l:AT)(w c:Int):AT:=
 if w=3 then cutD l none Qd4++cutD l Qd3 none
 else if w=4 then cutD l none Qh4++[l.getD (c % (l.length:Int)).toNat Str.empty]++cutD l Qh4 none
 else cutD l none Qd4++(cutD l Qd3 Qhw++cutD l Qd4 Qd3)++cutD l Qhw none
def Xv(x:Str)(w c:Int):Str:=
 if w % 6=0 then Txt.slice x none Qec++m3 QeH++Txt.slice x Qec none
 else if w % 6=1 then Txt.slice x none Qec++Txt.slice x QlP none
 else if w % 6=2 then Txt.slice x none Qec++m3 QeH++Txt.slice x QlP none
 else Txt.join "\n" Qx9
theorem Al(n:Nat)(c:Int):0<=BI n c/\BI n c<=n:=by
 have a:=hF QhS (b:=(n:Int)+1) Wc;have d:=hI QhS (b:=(n:Int)+1) Wc;unfold BI;lia
def MG(l:QR)(a c:Bn):(cutD l a c).Sublist l:=(lh _ _).trans QeR
theorem xP{m:AT}(h:l.Sublist m):mU l<=mU m:=by
 induction h with
 | slnil=>exact eA _
 | cons a h b=>unfold mU at b ⊢;simp;lia
 | cons_cons a h b=>unfold mU at b ⊢;simp;lia
section
variable{a:Int}(l:QR)(h:0<=a)
include h
theorem xQ:cutD l none (some a)=l.take a.toNat:=by
 unfold cutD HT.iy;simp only[show ¬ a<0 by lia,if_false,List.drop_zero,Nat.sub_zero];by_cases z:a.toNat<=l.length
 .rw[sx z]
 .rw[Nat.min_eq_right Wc,tm (eA _),tm Wc]
theorem Dm:cutD l (some a) none=l.drop a.toNat:=by
 unfold cutD HT.iy;simp only[show ¬ a<0 by lia,if_false];by_cases z:a.toNat<=l.length
 .rw[sx z,tm (by rw[mu];lia)]
 .rw[Nat.min_eq_right Wc,List.drop_length,List.drop_of_length_le Wc,List.take_nil]
theorem MH:cutD l (some a) (some (a+1))=(l.drop a.toNat).take 1:=by
 unfold cutD HT.iy;simp only[show ¬ a<0 by lia,show ¬ a+1<0 by lia,if_false];by_cases z:a.toNat<l.length
 .rw[sx Wc,sx Wc,show(a+1).toNat-a.toNat=1 by lia]
 .rw[Nat.min_eq_right Wc,Nat.min_eq_right Wc,List.drop_length,List.drop_of_length_le Wc,List.take_nil,List.take_nil]
end
theorem LG(h:l≠[])(w c:Int):(Jd l w c).length<=l.length+1/\mU (Jd l w c)<=2*mU l/\∀p∈Jd l w c,p∈l:=by
 have h0:=iU.2 h;have f:=hF c (b:=(l.length:Int)) Wc;have a1:=hI c (b:=(l.length:Int)) Wc;obtain⟨g,b1⟩:=Al l.length c;unfold Jd;generalize c % (l.length:Int)=a at f a1;generalize BI l.length c=t at g b1;have one:∀n:Nat,n<l.length->(l.drop n).take 1=[l.getD n Str.empty]:=λn hn=>by
  rw[xk hn,List.take_succ_cons,List.take_zero,e5,gh hn];rfl
 have mem:∀{m:AT},m.Sublist l->∀p∈m,p∈l:=λh p hp=>h.subset hp;split
 .rw[xQ l f,Dm l Wc];have s:(l.take a.toNat++l.drop (a+1).toNat).Sublist l:=by
   conv=>rhs;rw[<- rb a.toNat l]
   rw[show(a+1).toNat=a.toNat+1 by lia,<- List.drop_drop];exact(jW _).append QeR
  exact#[hU s.length_le,by have:=xP s;lia,mem s]
 have tl:∀n:Nat,mU (l.take n)+mU (l.drop n)=mU l:=λn=>by rw[<- k9,rb]
 have ll:∀n:Nat,(l.take n).length+(l.drop n).length=l.length:=λn=>by rw[<- eP,rb]
 split
 .rw[xQ l g,Dm l g,<- one a.toNat Wc];have s:((l.drop a.toNat).take 1).Sublist l:=(lh _ _).trans QeR;have e:=tl t.toNat;have e2:=ll t.toNat;have e3:=xP s;refine#[?_,?_,λp hp=>?_]
  .have:=List.length_take_le 1 (l.drop a.toNat);rw[eP,eP];lia
  .rw[k9,k9];lia
  .obtain hp|hp:=eC.1 hp
   .exact(eC.1 hp).elim (mem Qgs p) (mem s p)
   .exact mem QeR p hp
 .have i:cutD l (some (a+1)) (some (a+2))=(l.drop (a+1).toNat).take 1:=by
   have:=MH l (a:=a+1) Wc
   rwa [show a+1+1=a+2 by lia]at this
  rw[xQ l f,Dm l (a:=a+2) Wc,MH l f,i];have e:=tl a.toNat;have e2:=ll a.toNat;have d:∀k:Nat,l.drop k=(l.drop k).take 1++l.drop Qac:=λk=>by
   rw[<- List.drop_drop,rb]
  have d1:=d a.toNat;have d2:=d (a.toNat+1);rw[show(a+1).toNat=a.toNat+1 by lia,show(a+2).toNat=a.toNat+1+1 by lia];have f1:=congrArg mU d1;have f2:=congrArg mU d2;have g1:=congrArg List.length d1;have g2:=congrArg List.length d2;rw[k9]at f1 f2;rw[eP]at g1 g2;refine#[?_,?_,λp hp=>?_]
  .rw[eP,eP,eP];lia
  .rw[k9,k9,k9];lia
  .obtain hp|hp:=eC.1 hp
   .obtain hp|hp:=eC.1 hp
    .exact mem Qgs p hp
    .exact(eC.1 hp).elim QxZ QxZ
   .exact mem QeR p hp
theorem XB(x:Str)(w c:Int):cnt Qwt<=cnt x+1/\(Xv x w c).length<=2*x.length+1:=by
 obtain⟨a,b1⟩:=Al x.length c;unfold Xv;generalize BI x.length c=t at a b1;obtain⟨l1,c1⟩:=afj a b1;obtain⟨l2,c2⟩:=aav a b1;have s1:∀k,(m3 k).length=1:=λ_=>rfl;have s2:∀k,cnt (m3 k)<=1:=λk=>afi _;split
 .have:=s2 QeH;rw[nJ,nJ,str_len,str_len,s1];lia
 split
 .rw[nJ,str_len];lia
 split
 .have:=s2 QeH;rw[nJ,nJ,str_len,str_len,s1];lia
 .obtain⟨f,d,b⟩:=LG (l:=e7 x) QeY QeW c;have e:=VZ x;have e2:=mJ (l:=e7 x) QeY;rw[show Str.join "\n" (e7 x)=x from kj _ _]at e2;rw[show Txt.join "\n" Qx9=Str.join "\n" (Jd (e7 x) QeW c) from vT _ _];generalize Jd (e7 x) QeW c=m at f d b;by_cases hm:m=[]
  .subst hm;exact#[fv _,fv _]
  .have h:=cnt_join (λp hp=>MF (b p hp)) hm;have g:=mJ hm;lia
def fX(f:Qka)(l:QR)(a c:Bn):cutD QbD a c=(cutD l a c).map f:=by
 unfold cutD;rw[eu,List.map_take,List.map_drop]
theorem Dn{z:Str}(hz:z.length=1)(h:mU l<=16000000):JoinOk z l=true:=by
 unfold JoinOk;rw[StrLaws.joinTotal,kq,hz,Nat.mul_one];refine fw ?_;rw[fR];unfold mU at h;lia
def t6{l m:BC}(h:D.bC l=true)(h2:D.bC m=true):D.bC (l++m)=true:=fE λd hd=>(eC.1 hd).elim (L3.oR h d) (L3.oR h2 d)
structure WyS(nb nm n:Nat)(w:WY):Prop where
 g1:∀d∈w.qs,pB nb nm d
 g2:∀d∈w.ds,jH nb d
 s3:w.sg.length<=21
 tg:w.tg=-1/\w.md="new" \/ Qio/\w.md∈(["new","near","far"]:AT)
 sr:0<=w.src/\w.src<n
structure t7(c:CH):Prop where
 nl:c.ns.length=c.es.length
 kl:c.ks.length=c.es.length
 sl:c.ss.length=c.es.length
 il:c.is.length=c.es.length
 ol:c.os.length=c.es.length
 e1:c.es.length<=49
 tr:i6 c.es
 nk:∀x∈c.ns,x.length<=21
 bk:∀p∈c.bs,p.1.length<=21/\p.2.natAbs<10 ^ 30
 kk:∀x∈c.ks,x.length<=4
 one:∀m,m<c.es.length->c.ks.getD m Str.empty="one"->0<=c.ss.getD m 0/\c.ss.getD m 0<c.es.length
 ii:∀l∈c.is,∀d∈l,jH c.bs.length d
 oo:∀l∈c.os,∀d∈l,jH c.bs.length d
 ww:∀w∈c.ws,WyS c.bs.length c.es.length c.es.length w
 wl:c.ws.length<=400000
 tl:mU QvS<=400000
theorem t7.bn(h:t7 c):∀x∈c.bn,x.length<=21:=λx a=>by
 obtain⟨p,hp,rfl⟩:=eJ.1 a;exact(h.bk p hp).1
theorem MJ{x:Str}(h:x∈l):x.length+1<=mU l:=by
 have:=xP (List.singleton_sublist.2 h);exact fg (by show _<=x.length+0+1;lia) this
def xR(l:AT):l.length<=mU l:=Nat.le_add_left ..
theorem V0:∀(l:AT) (a:Str),(jn a l).length=a.length+mU l
 | [],a=>rfl
 | w::l,a=>by
  show(jn (a++" " ++ w) l).length=_;rw[V0 l,str_len,str_len,show mU Qgx=w.length+1+mU l by unfold mU;simp;lia];show a.length+1+_+_=_;lia
section
variable(h:t7 c)
include h
def Je{k:Nat}(a:k<=c.es.length):mU (kh c k)<=400000:=by
 refine fg (xP ?_) h.tl;obtain⟨j,e⟩:=Nat.exists_eq_add_of_le a;rw[e];unfold kh;rw[List.range_add,oa];exact(jW _).append (ze _ _)
theorem Jf{m:Nat}(hm:Qg4):mU (tN c m)<=400000:=by
 have:=Je h (k:=m+1) hm;rw[Bp,k9]at this;lia
theorem Xx{m:Nat}(hm:Qg4):(Au c m).length+(Uk c m).length<=400000:=by
 have:=MJ (l:=tN c m) eB;have:=Jf h hm;rw[str_len] at *;lia
theorem MK{m:Nat}(hm:Qg4){t:Str}(a:t∈qK c m):(Au c m).length+t.length<=400000:=by
 have:=MJ (l:=tN c m) (eD _ (eJ.2 #[t,a,rfl]));have:=Jf h hm;rw[str_len,str_len] at *;lia
theorem Dp{m:Nat}(hm:Qg4):(qK c m).length<=400000:=by
 have:=xR (tN c m);have:=Jf h hm;unfold tN at *;rw[gv,eu] at *;lia
theorem afm{w:WY}(hw:w∈c.ws):As c.bn c.ns w∈qK c w.src.toNat/\w.src.toNat<c.es.length:=by
 have s:=(h.ww w hw).sr;exact#[fx _ (eJ.2 #[w,ir.2 #[hw,e6 Wc],rfl]),Wc]
theorem aaw{w:WY}(hw:w∈c.ws):mU (("on":Str)::Xs c.bn c.ns w)<=400001/\2*w.qs.length+2*w.ds.length<=400000:=by
 obtain⟨a,d⟩:=afm h hw;have:=MK h d a;unfold As at this;rw[V0]at this;have e:=xR Qw8;unfold Xs at e;rw[gv,eP,eP,k8,k8,eu,eu]at e;have b:("on":Str).length=2:=rfl;have:mU (("on":Str)::Xs c.bn c.ns w)=3+mU Qw8:=by
  show _=2+1+_;unfold mU;simp;lia
 unfold Xs at *;lia
end
seal L3.cK L3.RH L3.bG L3.b5 L3.m5 L3.Bb L3.GZ
def kr:Sq (Str×Str×AT):=#["linked",1,3,top 88,["first","further","texts","words","text"],λ(f,g,ts)=>([.str f,.str g,.lst QnT],(ts.length<=400000),(.lst (((uU f g ts).map .str).map T.sh):T))]
def eN:Sq Qn4:=#["term_text",1,2,top 91,["chart","term","more","name"],λ(c,d)=>([c.d,d],(t7 c/\iI c.bs.length d),(.sh (.str (eG c.bn d)):T))]
def jb:Sq Qn4:=#["ask_text",2,2,top 89,["chart","ask","mark"],λ(c,d)=>([c.d,d],(t7 c/\pB c.bs.length c.es.length d),(.sh QtY:T))]
def fj:Sq Qn4:=#["deed_text",2,2,top 90,["chart","deed","word","name"],λ(c,d)=>([c.d,d],(t7 c/\jH c.bs.length d),(.sh QvT:T))]
def jc:Sq (CH×WY):=#["way_text",3,2,top 87,["chart","way","words"],λ(c,w)=>([c.d,w.d],(t7 c/\w∈c.ws),(.sh QtZ:T))]
def fq(l:AT):T:=.lst ((l.map L3.D.str).map T.sh)
def Pb(l:AT):T.dJ (fq l)=.lst QbR:=cI _
theorem aax{n s:Nat}{f:Nat->α}{x:α}:((List.range n).map f).set s x=(List.range n).map λm=>if m=s then x else f m:=by
 refine kv λi=>?_;rw[xf,fT,fT];by_cases hi:i<n
 .rw[hW hi];by_cases e:s=i
  .subst e;rw[dU rfl,eu,gz,dU hi];simp
  .rw[cq e];have:¬ i=s:=λz=>e z.symm;simp[this]
 .rw[v3 (by rw[gz];lia)];by_cases e:s=i
  .subst e;rw[dU rfl,eu,gz,cq hi];rfl
  .rw[cq e];rfl
def Jg(c:CH)(l:Qbe)(w:WY)(m:Nat):ju c (l++[w]) m=ju c l m++if w.src=(m:Int) then [As c.bn c.ns w] else []:=by
 unfold ju;rw[ig,eE];congr 1;by_cases e:w.src=(m:Int)
 .rw[dU e,List.filter_cons,dU (e6 e)];rfl
 .rw[if_neg e,List.filter_cons,if_neg (by simpa using e)];rfl
theorem zip_get{ds es:BC}{d:L3.D}(h:(Cp ds es)[j]? = some d):∃x y,ds[j]? = some x/\es[j]? = some y/\d=.tup [x,y]:=by
 unfold Cp at h;rw[fT]at h;cases e:(ds.zip es)[j]? with
 | none=>rw[e]at h;cases h
 | some p=>
  rw[e]at h;obtain⟨h1,h2⟩:=List.getElem?_zip_eq_some.1 e;exact#[p.1,p.2,h1,h2,(fO h).symm]
def jw:Sq (CH):=#["own_texts",4,1,top 86,["chart","found","ins","outs","texts","way"],λc=>([c.d],(t7 c),(.lst ((List.range c.es.length).map λm=>fq (qK c m)):T))]
def t8:Sq Qt0:=#["above",1,2,top 24,["tree","mood","found","elder"],λ(ks,es,ss,m)=>([mz ks es ss,.int m],QkH,(.lst (((b8 es m).map .int).map T.sh):T))]
def qB:Sq Qt0:=#["depth",2,2,top 25,["tree","mood"],λ(ks,es,ss,m)=>([mz ks es ss,.int m],QkH,(.sh (.int ((b8 es m).length:Nat)):T))]
def g9:Sq (CH×Nat):=#["mood_text",1,2,top 85,["chart","mood","kind","words"],λ(c,m)=>([c.d,.int m],(t7 c/\m<c.es.length),(.sh Qnx:T))]
def V1(c:CH)(n:Nat):T.dJ QqI=.lst ((List.range n).map λm=>L3.D.lst ((qK c m).map .str)):=by
 rw[T.dJ];congr 1;generalize List.range n=l
 induction l with
 | nil=>rfl
 | cons m l a=>rw[e4,T.dF,a,Pb,e4]
def Jh(c:CH)(n:Nat):T.clean QqI=true:=by
 rw[gY];generalize List.range n=l
 induction l with
 | nil=>rfl
 | cons m l a=>
  rw[e4,T.cA,a];have:(fq (qK c m)).clean=true:=gT _;rw[this];rfl
def Ji(c:CH)(m:Nat):(((kh c m).map L3.D.str).map T.sh++[T.sh (.str (Au c m++Uk c m))])++(((qK c m).map λt=>Au c m++" " ++ t).map L3.D.str).map T.sh=((kh c (m+1)).map L3.D.str).map T.sh:=by
 rw[Bp,tN,eE,eE,fb];rfl
def t9:Sq (CH):=#["shown",5,1,top 84,["chart","rows","mood","texts","blanks"],λc=>([c.d],(t7 c),(.sh (.str (Txt.join "\n" QvS)):T))]
abbrev jx:=inClass (top 23) 0
abbrev pJ:=AT×BA×BA
abbrev pK:AT:=["self","kinds","elders","starts"]
noncomputable def qT:pJ->BC:=λ(ks,es,ss)=>[.lst QcA,.lst Qbz,.lst QcB]
def qU:pJ->Prop:=λ(ks,es,ss)=>True
def qV:pJ->B1:=λ(ks,es,ss)=>(qR ks es ss:B1)
abbrev iN:=inClass (top 11) 0
abbrev nK:=BC×BC×V×BC×BC×BC
abbrev nL:AT:=["self","boxes","names","tree","ins","outs","ways"]
def pL:nK->BC:=λ(bs,nm,tv,is,os,ws)=>[.lst bs,.lst nm,.val tv,.lst is,.lst os,.lst ws]
def pM:nK->Prop:=λ(bs,nm,tv,is,os,ws)=>D.bC bs=true/\D.bC nm=true/\D.bC is=true/\D.bC os=true/\D.bC ws=true
def pN:nK->B1:=λ(bs,nm,tv,is,os,ws)=>(lH bs nm Qw9 is os ws:B1)
def ku:Sq (BC×AT×AT×BA×BA×BC×BC×BC):=#["_law_chart_by",3,1,top 105,["parts","tree"],λ(bs,ns,ks,es,ss,is,os,ws)=>([Ik bs ns ks es ss is os ws],(D.bC bs=true/\D.bC is=true/\D.bC os=true/\D.bC ws=true),(.ins "Chart" (lH bs Qex Qll is os ws):T))]
def qD:Sq (BA×Int):=#["_law_cell_at",1,2,top 93,["script","k"],λ(ns,j)=>([.lst (ns.map .int),.int j],(0<=j),(.sh (.int (eY ns j)):T))]
def xS:Sq (BA×Int):=#["_law_chain",1,2,top 94,["elders","mood","found","at"],λ(es,m)=>([.lst Qbz,.int m],QkH,(.lst (((b8 es m).map .int).map T.sh):T))]
def jy:Sq (CU):=#["_law_elders_by",2,1,top 98,["items","elders","item","last","roads"],λl=>([.lst QnO],(l.length<=100),(.lst (((TY l).map .int).map T.sh):T))]
def j0:Sq (Int×AT):=#["_law_name_by",1,2,top 95,["number","used","letters","words","more","name","rest"],λ(m,us)=>([.int m,.lst (us.map .str)],(0<=m/\m<100000000000000000000/\us.length<=100),(.sh (.str Qpn):T))]
def kB:Sq (BA×Nat):=#["_law_names_by",2,2,top 96,["script","many","base","step","found","k"],λ(s,n)=>([.lst Qoc,.int n],(n<=100),(.lst (((B5 s n).map .str).map T.sh):T))]
def kC:Sq (BA×BA):=#["_law_kinds_by",1,2,top 103,["elders","cells","kinds","starts","mood","near","start"],λ(es,cs)=>([.lst Qbz,.lst (cs.map .int)],(es.length<=100/\cs.length=es.length),(.lst [.lst (((fG es cs es.length).map .str).map T.sh),.lst (((fQ es cs es.length).map .int).map T.sh)]:T))]
def jz:Sq (Int):=#["_law_number_by",1,1,top 97,["cell","size"],λc=>([.int c],(True),(.sh QnV:T))]
def jd:Sq (Int×Int×Nat×AT):=#["_law_deed_by",2,3,top 99,["item","boxes","names","pick","name","term"],λ(a,c,n,ns)=>([.tup [.int a,.int c],.int n,.lst Qex],Qr1,(.sh (j9 a c n ns):T))]
def pO:Sq (Int×Int×Int×Nat×AT):=#["_law_way_by",1,4,top 100,["item","source","many","names","target","mode"],λ(a,c,src,n,ns)=>([.tup [.int a,.int c],.int src,.int n,.lst Qex],Qr1,(.sh (BO a c src n ns):T))]
def pP:Sq (Int×Int×Nat×Nat):=#["_law_ask_by",2,3,top 101,["item","boxes","many","pick","one","other"],λ(a,c,n,m)=>([.tup [.int a,.int c],.int n,.int m],(n<=1000/\0<m/\m<=1000),(.sh (Il a c n m):T))]
def mK:Sq (CU×Nat×Nat×AT):=#["_law_owns_by",3,4,top 102,["items","boxes","many","names","ins","outs","ways","item","kind","mood","way"],λ(l,nb,nm,ns)=>([.lst QnO,.int nb,.int nm,.lst Qex],(l.length<=100/\nb<=1000/\(0<nm/\nm<=1000)/\(0<ns.length/\ns.length<=1000)/\OU ns),(.lst [DZ (T9 nb nm ns l).is,DZ (T9 nb nm ns l).os,Uc (T9 nb nm ns l).ws]:T))]
def kS(s:BA):Int:=if 82<(s.length:Int) then 82 else s.length
theorem V2(s:BA):0<=kS s/\kS s<=82/\kS s<=s.length:=by
 unfold kS;split<;>lia
def Ad(s:BA)(k:Int):Int×Int:=(s.getD k.toNat 0,eY s Qac)
def iS(s:BA):CU:=(List.range (nq 2 (kS s))).map λ(i:Nat)=>Ad s (2+(i:Int)*2)
theorem zm(s:BA):(iS s).length<=40:=by
 have:=V2 s;unfold iS nq;rw[eu,gz];lia
def Xw(s:BA):Int:=eY s 1 / 5
def bY(s:BA):BA:=TY (iS s)
def pQ(s:BA):AT:=B5 s ((bY s).length+4)
def y4(s:BA)(ns:AT)(k:Int):Str×Int:=(ns.getD k.toNat Str.empty,CP (eY s (3+2*k)))
def nM(s:BA):DA:=(List.range (Xw s % 4).toNat).map λ(k:Nat)=>y4 s (pQ s) (0+(k:Int))
def xT(s:BA):BA:=[Xw s / 4]++yV (iS s)
def Az(s:BA):OW:=T9 (nM s).length (bY s).length (pQ s) (iS s)
def nc(s:BA):AT:=(pQ s).take (bY s).length
def afp(s:BA):L3.D:=Ik ((nM s).map oZ) (nc s) Qr2 (bY s) Qr3 ((Az s).is.map .tup) ((Az s).os.map .tup) ((Az s).ws.map WY.d)
theorem mL(s:BA):0<(bY s).length/\(bY s).length<=41/\(xT s).length=(bY s).length:=by
 have a:=(CN (iS s)).2;have c:=qm (iS s);have d:=zm s;have e:=rZ (iS s);unfold bY xT;simp;lia
def ua(s:BA):(pQ s).length=(bY s).length+4:=tG _ _ _
def xU(s:BA):∀x∈pQ s,x.length<=21/\PyData.strOk x=true:=Lz _ _ _
theorem ML(s:BA):(nc s).length=(bY s).length:=by
 have:=ua s;unfold nc;rw[hM];lia
def afq(s:BA):∀x∈nc s,x.length<=21:=λx a=>(xU s x (tj a)).1
theorem FN(s:BA):(nM s).length<=3:=by
 unfold nM;simp;lia
theorem aaz(s:BA):∀p∈nM s,p.1.length<=21:=λp hp=>by
 obtain⟨k,_,rfl⟩:=eJ.1 hp;show((pQ s).getD _ Str.empty).length<=21;rw[e5];cases e:(pQ s)[(0+(k:Int)).toNat]? with
 | none=>exact fv _
 | some x=>exact(xU s x (gc e)).1
def V3(s:BA):OU (pQ s):=#[λx a=>(xU s x a).1,λx a=>(xU s x a).2]
theorem V4(s:BA):CQ (nM s).length (bY s).length 40 (Az s):=by
 have a:=Im (nb:=(nM s).length) (nm:=(bY s).length) (V3 s) (mL s).1 (iS s) 0 OS (T8 _ _);have c:=zm s;rw[Nat.zero_add]at a;have up:∀(n k:Nat) (o:OW),CQ (nM s).length (bY s).length k o->CQ (nM s).length (bY s).length (k+n) o:=by
  intro n
  induction n with
  | zero=>
   intro k o h;exact h
  | succ n d=>
   intro k o h;obtain⟨n0,n1,n2,ii,oo,wl,ww⟩:=d k o h;exact#[n0,hU n1,n2,λl b=>(ii l b).up,λl b=>(oo l b).up,hU wl,λw hw=>(ww w hw).up (eA _)]
 have:=up QuE _ _ a
 rwa [show(iS s).length+QuE=40 by lia]at this
def V5(l:DA):D.bC (l.map oZ)=true:=cR Qal _
def V6(l:QR)(n:Nat):cutD l none QnF=l.take n:=by
 show(l.drop 0).take (min n _-0)=_;rw[List.drop_zero,Nat.sub_zero,<- List.take_eq_take_min]
def kD:Sq BA:=#["_law_parts_by",4,1,top 104,["script","head","items","elders","names","boxes","shapes","owns"],λs=>([.lst Qoc],(s.length<=1000),(.sh (afp s):T))]
def mO:Sq (Int):=#["_law_sign_by",1,1,top 106,["cell","some"],λc=>([.int c],(True),(.sh (.str (m3 c)):T))]
def gM:Sq (AT×Int×Int):=#["_law_rows_turned",1,3,top 107,["rows","way","cell","at","to","pair"],λ(l,w,c)=>([.lst QbR,.int w,.int c],(l≠[]/\l.length<=4000001),(.lst (((Jd l w c).map .str).map T.sh):T))]
def pR:Sq (Str×Int×Int):=#["_law_turned",2,3,top 108,["text","what","cell","at","sign"],λ(x,w,c)=>([.str x,.int w,.int c],(x.length<=4000000),(.sh Qyr:T))]
def uc:Sq AT:=#["places",1,1,top 68,["names","found","place","name"],λl=>([.lst QbR],(l.length<=1000),(.jq (Ax l):T))]
def gU:Aa (AT×Str×Int):=#["place_of",3,3,top 74,["name","given","row"],λ(l,x,r)=>([.str x,.jq (Ax l),.int r],(True),(pk l x),(.sh (.int (pz l x)):T),("NoName",some [("row",.int r)]))]
def dg:Aa (AT×Str×Int×Int):=#["numbered_term",4,3,top 73,["term","boxes","row"],λ(l,n,k,r)=>([U1 n k,.jq (Ax l),.int r],(True),(pk l n),(.sh (ZT l n k):T),("NoName",some [("row",.int r)]))]
def dh:Aa (AT×jj×Int):=#["numbered_deed",5,3,top 72,["deed","boxes","row"],λ(l,q,r)=>([q.d,.jq (Ax l),.int r],(True),(q.ok l),(.sh (q.n l):T),("NoName",some [("row",.int r)]))]
def dR:Aa (AT×AT×jk×Int):=#["numbered_ask",5,4,top 71,["ask","boxes","moods","row"],λ(bs,ms,q,r)=>([q.d,.jq QjX,.jq QjY,.int r],(q.Ok),(q.ok bs ms),(.sh Qjy:T),("NoName",some [("row",.int r)]))]
def dS:Aa (AT×AT×mH×Int):=#["numbered_way",6,4,top 70,["content","boxes","moods","row","asks","deeds"],λ(bs,ms,w,r)=>([w.d,.jq QjX,.jq QjY,.int r],(w.Ok),(w.ok bs ms),(.sh (w.n bs ms):T),("NoName",some [("row",.int r)]))]
def d7:Aa (AT×AT×dY):=#["numbered_form",7,3,top 69,["form","boxes","moods","row","word","content"],λ(bs,ms,q)=>([q.d,.jq QjX,.jq QjY],(q.c.Ok),(q.c.ok bs ms),(.sh Qjy:T),("NoName",some [("row",.int q.r)]))]
def gV:Aa Qqm:=#["numbered",8,1,top 67,["forms","boxes","moods"],λfs=>([.lst (fs.map dY.d)],(Mo fs),(fs.all (U3 fs)),(.lst ((fs.map (dY.n (Fp fs) (D3 fs))).map T.sh):T),("NoName",some [("row",.int (U4 fs))]))]
def mP:Sq (Str):=#["is_name",1,1,top 12,["text","sign"],λx=>([.str x],Qb5,(.sh Qdh:T))]
def je:Aa QcF:=#["name_of",3,2,top 56,["text","row"],λ(x,r)=>([.str x,.int r],Qb5,(aU x),(.sh Qax:T),("BadRow",some [("row",.int r)]))]
def gO:Sq (Str):=#["are_figures",1,1,top 59,["text","sign"],λx=>([.str x],Qb5,(.sh Qje:T))]
theorem ud(x:Str):Txt.startswith x "-" = decide (x.cps.toList.head? = some 45):=by
 unfold Txt.startswith;obtain⟨⟨l⟩⟩:=x;have e1:("-":Str)=#[(List.toArray [45])]:=rfl;rw[e1];unfold Builtin.Str.subAt;cases l with
 | nil=>rfl
 | cons c l=>
  by_cases h:c=45
  .subst h;simp[Str.length]
  .simp[Str.length,h]
theorem Xt(n:Nat):Builtin.Str.strSliceIndices QdF none 1 Qap=(List.range n).map (· + 1):=by
 unfold Builtin.Str.strSliceIndices sliceRange;have e:max 0 (min 1 ((n+1:Nat):Int))=1:=by lia
 simp only[show ¬ (1:Int)<0 by decide,if_false,show(1:Int) > 0 by decide,if_true,e];have e2:(if 1<((n+1:Nat):Int) then(((n+1:Nat):Int)-1+1-1) / 1 else 0).toNat=n:=by
  split<;>lia
 rw[e2];refine hE λk _=>?_;lia
theorem aaA(l:Ch):∀r:Ch,((List.range l.length).map (· + r.length)).filterMap (λi=>(r++l).toArray[i]?)=l:=by
 induction l with
 | nil=>intro r;rfl
 | cons c l a=>
  intro r;rw[gv,List.range_succ_eq_map,e4,kz];have e:(r++c::l).toArray[0+r.length]? = some c:=by simp
  rw[e];have:=a (r++[c]);rw[eP,fb]at this;show c::_=_;congr 1;rw[ey];refine Eq.trans ?_ this;congr 1;refine hE λk _=>?_;show k+1+r.length=k+Qom;lia
def Pg{x:Str}{c:Nat}{l:Ch}(a:x.cps.toList=c::l):Txt.slice x QdF none=#[(x.cps.toList.drop 1).toArray]:=by
 obtain⟨⟨m⟩⟩:=x;subst a;unfold Txt.slice;have b:(#[#[c::l]]:Str).length=l.length+1:=rfl;rw[b,Xt,cq W2];have:=aaA l [c];exact congrArg (λz=>(#[ _ ]:Str)) this
def jA:Sq (Str):=#["is_number",2,1,top 58,["text","figures"],λx=>([.str x],Qb5,(.sh (.bl (jO x)):T))]
def gf:Aa QcF:=#["number_of",3,2,top 57,["text","row"],λ(x,r)=>([.str x,.int r],Qb5,(jO x),(.sh (.int Qdw):T),("BadRow",some [("row",.int r)]))]
def jf:Aa QcF:=#["term_of",4,2,top 60,["text","row","mark","parts","name","more"],λ(x,r)=>([.str x,.int r],Qb5,((Bw x).isSome),(.sh (Vb x):T),("BadRow",some [("row",.int r)]))]
def jg:Aa Qf3:=#["deed_of",5,2,top 61,["words","row"],λ(ws,r)=>([.lst Qez,.int r],(∀w∈ws,w.length<=sizeLine),((sC ws).isSome),(.sh (Vc ws):T),("BadRow",some [("row",.int r)]))]
def kE:Sq AT:=#["parts_of",1,1,top 64,["words","parts","word"],λws=>([.lst Qez],((∃r,ws=("on":Str)::r)/\ws.length<=1000000),(.lst ((pF ws).map lT):T))]
def jh:Aa Qf3:=#["goal_of",4,2,top 65,["part","row"],λ(p,r)=>([.lst (p.map .str),.int r],(p≠[]/\∀w∈p,w.length<=sizeLine),((wC p).isSome),(.sh (vj p):T),("BadRow",some [("row",.int r)]))]
def kF:Aa Qf3:=#["ask_of",5,2,top 62,["words","row"],λ(ws,r)=>([.lst Qez,.int r],(∀w∈ws,w.length<=sizeLine),((uX ws).isSome),(.sh (lL ws):T),("BadRow",some [("row",.int r)]))]
def kG:Aa Qf3:=#["way_of",6,2,top 63,["words","row","parts","last","part","asks","deeds","goal"],λ(ws,r)=>([.lst Qez,.int r],((∃l,ws=("on":Str)::l)/\ws.length<=1000000/\∀w∈ws,w.length<=sizeLine),(QI (pF ws)),((By (pF ws)).t:T),("BadRow",some [("row",.int r)]))]
def fH:Aa Qf3:=#["content_of",7,2,top 55,["words","row","word"],λ(ws,r)=>([.lst Qez,.int r],(ws≠[]/\ws.length<=1000000/\∀w∈ws,w.length<=sizeLine),((uY ws).isSome),((QJ ws).t:T),("BadRow",some [("row",.int r)]))]
def ji:Aa QcF:=#["form_of",8,2,top 54,["line","row","rest","words"],λ(x,r)=>([.str x,.int r],Qwu,((Fx x).isSome),((dY.mk r (qz x) (lK x)).t:T),("BadRow",some [("row",.int r)]))]
def jB:Sq (dY×Str×Int):=#["may_stand",1,3,top 79,["form","last_word","mood_blanks","word","blanks"],λ(f,pw,mb)=>([f.t.dJ,.str pw,.int mb],(f.c.w∈tY/\(mb=-1\/∃a,fW.lookup pw=some a)),(.sh (.bl (jJ pw mb f.bl f.c.w)):T))]
def kH:Aa (Str):=#["formed",9,1,top 78,["text","forms","last_word","mood_blanks","place","line","form"],λx=>([.str x],Qwu,(wF "" (-1) (e7 x)),(.lst ((vY 1 (e7 x)).map dY.t):T),("BadRow",some [("row",.int (QK 1 "" (-1) (e7 x)))]))]
def kA(es:BA)(j:Nat):BA:=if j=0 then [] else(((j-1:Nat):Int)::b8 es ((j-1:Nat):Int)).reverse
theorem zo(h:g5 es)(a:j<es.length):(kA es j).take (b8 es (j:Int)).length=(b8 es (j:Int)).reverse/\((b8 es (j:Int)).reverse.getLast? = if es.getD j 0=-1 then none else some (es.getD j 0)):=by
 have e:=rW h.1 (m:=j) Wc Wc;rw[i4]at e;cases j with
 | zero=>
  obtain⟨e0,e1⟩:=y2 h.1 a;rw[e1,dU e0];simp
 | succ k=>
  have hp:=h.2 k a;generalize es.getD _ 0=x at hp e ⊢;have b:0<=x:=by
   obtain z|z:=hp
   .lia
   .exact(xA h.1 Wc Wc z).1
  rw[e,cq Wc,cq Wc];constructor
  .unfold kA;rw[cq W2,q7];obtain z|z:=hp
   .subst z;rw[<- w8,hZ]
   .obtain⟨pre,ep,_⟩:=qk h.1 Qac Wc Wc Wc z;have e2:(k:Int)::b8 es k=((k:Int)::pre)++(x::b8 es x):=by rw[ep];rfl
    rw[e2,List.reverse_append,<- w8,List.take_left]
  simp
def V7(xs:QR)(k:Nat):cutD xs none Qxw=xs.take k:=by simp[cutD,HT.XW,HT.Rk]
def Dq:(b8 es (j:Int)).reverse++[(j:Int)]=kA es QaH:=by
 unfold kA;rw[cq QuF,q7,q5]
def jC:Sq BA:=#["elders_of",1,1,top 80,["depths","elders","line","mood","deep"],λes=>([.lst ((Aw es).map .int)],QuT,(.lst ((es.map .int).map T.sh):T))]
def kI:Sq (CH×Bool):=#["deeds_of",1,2,top 81,["forms","word","found","form"],λ(c,b)=>([.lst c.wB,.str QpQ],(Dh c),(.lst (((c.dl b).map L3.D.tup).map T.sh):T))]
def mQ:Sq (CH):=#["ways_of",1,1,top 82,["forms","ways","mood","form"],λc=>([.lst c.wB],(Dh c),(.lst ((c.ws.map WY.d).map T.sh):T))]
def cU:Sq Qnb:=#["are_elders_right",3,1,top 33,["tree","mood","line"],λ(ks,es,ss)=>([mz ks es ss],(g5 es/\1<=es.length/\es.length<=900),(.sh (.bl (nC es)):T))]
def cY:Sq Qnb:=#["are_kinds_right",1,1,top 34,["tree","with_inner","elder","mood","kind"],λ(ks,es,ss)=>([mz ks es ss],(ks.length<=900/\es.length<=900),(.sh Qxa:T))]
def kJ:Sq (Int×BC):=#["is_place",1,2,top 44,["number","row"],λ(i,ds)=>([.int i,.lst ds],(True),(.sh (.bl (Ab i ds.length)):T))]
def cV:Sq Qnb:=#["are_starts_right",2,1,top 35,["tree","mood","start"],λ(ks,es,ss)=>([mz ks es ss],(ks.length=es.length/\ss.length=es.length/\es.length<=900),(.sh Qmv:T))]
structure GG(bs:DA)(nm ks:AT)(es ss:BA)(is os:List QeP)(ws:List Zt):Prop where
 pre:g5 es
 kl:ks.length=es.length
 sl:ss.length=es.length
 nl:nm.length=es.length
 l4:es.length<=400
 n1:∀x∈nm,x.length<=1000
 b1:∀q∈bs,q.1.length<=1000
 b2:bs.length<=1000
 il:is.length=nm.length
 ol:os.length=nm.length
 wl:ws.length<=100
 dd:∀l∈is++os++ws.map (·.dl),∀q∈l,nH q/\nN bs.length q=true
 ww:∀w∈ws,w.Ok nm.length bs.length
 wp:ws.Pairwise λa c=>a.src<=c.src
def fM:Sq (AT×BA×BA×BC):=#["is_tree_right",4,2,top 32,["tree","names","many"],λ(ks,es,ss,nm)=>([mz ks es ss,.lst nm],(QuT/\ks.length=es.length/\ss.length=es.length/\nm.length=es.length),(.sh (.bl (FH ks es ss)):T))]
def cZ:Sq AT:=#["are_names_right",2,1,top 36,["names","name"],λl=>([.lst QbR],((∀x∈l,x.length<=1000)/\l.length<=1000),(.sh (.bl (oh l)):T))]
def iO:Sq (Int):=#["is_bounded",1,1,top 45,["number"],λi=>([.int i],(True),(.sh (.bl (Zq i)):T))]
def eO:Sq (DA):=#["are_boxes_right",3,1,top 37,["boxes","box"],λl=>([.lst (l.map mc)],((∀q∈l,q.1.length<=1000)/\l.length<=1000),(.sh (.bl (Aq l)):T))]
def fN:Sq (BC×BC×L3.D×BC×BC×BC×Int×Int):=#["is_term_right",2,2,top 43,["chart","term"],λ(bs,nm,tr,is,os,ws,i,c)=>([jG bs nm tr is os ws,.tup [.int i,.int c]],(True),(.sh (.bl (Ii bs.length i c)):T))]
def fP:Sq (BC×BC×L3.D×BC×BC×BC×Lk):=#["is_deed_right",3,2,top 42,["chart","deed","word"],λ(bs,nm,tr,is,os,ws,q)=>([jG bs nm tr is os ws,Lv q],(nH q),(.sh (.bl (nN bs.length q)):T))]
def c9:Sq (BC×BC×L3.D×List QeP×List QeP×List Zt):=#["are_deeds_right",4,1,top 38,["chart","many","deeds","deed"],λ(bs,nm,tr,is,os,ws)=>([jG bs nm tr Qrw Qrx Qow],(is.length=nm.length/\os.length=nm.length/\nm.length<=400/\ws.length<=100/\(∀l∈is++os++ws.map (·.dl),∀q∈l,nH q/\nN bs.length q=true)),(.sh QaG:T))]
def gi:Sq (BC×BC×L3.D×BC×BC×BC×mT):=#["is_ask_right",3,2,top 41,["chart","ask","mark"],λ(bs,nm,tr,is,os,ws,q)=>([jG bs nm tr is os ws,nr q],(Zr q),(.sh (.bl (va nm.length bs.length q)):T))]
def gk:Sq (BC×BC×L3.D×BC×BC×BC×Int×Str×List mT×BC×Int×Str):=#["is_way_right",4,2,top 40,["chart","way","target","mode","ask"],λ(bs,nm,tr,is,os,ws,src,sg,al,dd,tg,md)=>([jG bs nm tr is os ws,.tup [.int src,.str sg,.tup (al.map nr),.tup dd,.int tg,.str md]],(Ab src nm.length=true/\(sg.length<=1000/\aU sg=true)/\md∈(["new","near","far"]:AT)/\((tg=-1/\md="new")\/(tg ≠ -1/\Ab tg nm.length=true))/\∀q∈al,Zr q/\va nm.length bs.length q=true),(.sh QaG:T))]
def dM:Sq (BC×BC×L3.D×BC×BC×List Zt):=#["are_ways_right",5,1,top 39,["chart","last","way"],λ(bs,nm,tr,is,os,ws)=>([jG bs nm tr is os Qow],((∀w∈ws,w.Ok nm.length bs.length)/\ws.Pairwise Qtr),(.sh QaG:T))]
def kK:Aa (DA×AT×AT×BA×BA×List QeP×List QeP×List Zt):=#["looked",6,1,top 31,["chart"],λ(bs,nm,ks,es,ss,is,os,ws)=>([jG (bs.map mc) (nm.map .str) (mz ks es ss) Qrw Qrx Qow],(GG bs nm ks es ss is os ws),Qsp,(.sh .non:T),(QpL,none))]
theorem RU{c:jl}(h:c.R)(s:c.Sm):c.Ok:=by
 cases c with
 | bx n k=>trivial
 | md w x st=>
  obtain⟨e,_⟩|⟨e,_⟩:=h.2
  .show w∈bB;rw[e];decide +kernel
  .show w∈bB;simp only[ew,fo,hx]at e;obtain e|e:=e<;>rw[e]<;>decide +kernel
 | dd w d=>exact h.1
 | wy v=>
  have s:v.as.length+v.ds.length<=400000:=s;refine#[λq a=>?_,Wc,Wc];have:=h.2.1 q a;cases q with
  | kO w x=>exact this.1
  | num w n k n2 k2=>
   have hw:w∈pH:=this.1;show w∉(["open","shut"]:AT);simp only[pH,ew,fo,hx]at hw;obtain rfl|rfl|rfl|rfl:=hw<;>decide +kernel
theorem LF{x:Str}(hp:l0 x)(b:wF "" (-1) (e7 x)=true):Mo (sE x):=by
 obtain⟨_,c⟩:=IZ (i:=1) b;have d:=hp.ll;have e:=xN x;refine#[λq a=>RU (c q a) (hp.sm q a),Wc,fg QjC Wc,fg QjC Wc]
def sf:Aa (Str):=#["read",10,1,top 77,["text","forms","moods","kinds","elders","starts","chart"],λx=>([.str x],(x.length<=900000/\l0 x),(wF "" (-1) (e7 x)&&QmC),((qS x).t:T),(ma x))]
def kR(s:BA):CH:=#[nM s,nc s,fG (bY s) (xT s) (bY s).length,bY s,fQ (bY s) (xT s) (bY s).length,(Az s).is,(Az s).os,(Az s).ws]
theorem Dr(nb nm:Nat)(ns:AT):∀(l:CU) (o:OW),(l.foldl Qde o).is.length=o.is.length+lI l
 | [],o=>rfl
 | p::r,o=>by
  have e:(i9 nb nm ns o p).is.length=o.is.length+Qrf:=by
   unfold i9;split
   .simp
   split
   .rw[g6,kc];rfl
   split
   .rfl
   split
   .rfl
   split<;>rfl
  rw[kb,Dr nb nm ns r,e,lI];lia
def pT(es cs:BA){n m:Nat}(h:m<n):(fG es cs n).getD m Str.empty=kindB es cs m/\(fQ es cs n).getD m 0=nY es cs m:=by
 unfold fG fQ;rw[e5,e5,fT,fT,hW h];exact#[rfl,rfl]
theorem afr(s:BA):Jn (kR s):=by
 obtain⟨e0,e1,e2⟩:=mL s;refine#[ML s,yW _ _ _,yX _ _ _,?_,e0,e1,(CN (iS s)).1,afq s,FN s,λp hp=>#[aaz s p hp,?_],λx a=>?_,λm hm=>?_,V4 s]
 .show(Az s).is.length=(TY (iS s)).length;rw[(CN (iS s)).2];exact Dr _ _ _ (iS s) OS
 .obtain⟨k,_,rfl⟩:=eJ.1 hp;exact T6 _
 .obtain⟨k,_,rfl⟩:=eJ.1 a;unfold kindB;split
  .decide +kernel
  split<;>decide +kernel
 .show((fG (bY s) (xT s) (bY s).length).getD m Str.empty="one"->0<=(fQ (bY s) (xT s) (bY s).length).getD m 0/\(fQ (bY s) (xT s) (bY s).length).getD m 0<(bY s).length)/\((fG (bY s) (xT s) (bY s).length).getD m Str.empty≠"one"->(fQ (bY s) (xT s) (bY s).length).getD m 0=-1);have hm:m<(bY s).length:=hm;rw[(pT _ _ hm).1,(pT _ _ hm).2];generalize bY s=es at hm ⊢;generalize xT s=cs;unfold kindB nY;split
  .exact#[λz=>absurd z Wl,λ_=>rfl]
  split
  .exact#[λz=>absurd z Wl,λ_=>rfl]
  .rename_i hz _;refine#[λ_=>?_,λz=>absurd rfl z];have c:0<(uO es m).length:=iU.2 hz;have b1:=hF Qxb (b:=((uO es m).length:Nat)) Wc;have b2:=hI Qxb (b:=((uO es m).length:Nat)) Wc;have:=Lr (getD_mem (l:=uO es m) (n:=(cs.getD m 0 / 2 % ((uO es m).length:Nat)).toNat) Wc);exact#[this.1,this.2.1]
theorem Ph(h0:0<=m)(h1:Qsn):jN m us∉us:=by
 have hn:=Fb h0 h1;unfold jN at hn ⊢;split
 .rename_i j e;have h2:=(y6.1 e).1;unfold Xr at h2;simp_all
 .rename_i e;rw[e]at hn;exact absurd (show aU "" = true from hn) Wl
theorem FP{c sp:Int}(h0:0<=c)(h1:c<26*3656158440062976)(s0:0<=sp)(s1:sp<=1213056):∀n:Nat,n<=100->x3 (qI c sp n)
 | 0,_=>#[λx b=>(by cases b),.nil]
 | n+1,hn=>by
  obtain⟨a,d⟩:=FP h0 h1 s0 s1 n Wc;have h:0<=n*sp/\n*sp<=100*1213056:=#[Int.mul_nonneg Wc s0,Int.mul_le_mul Wc s1 s0 Wp];have g:=tG c sp n;have b1:0<=c+n*sp:=by lia
  have b2:c+n*sp+(qI c sp n).length+20<26*131621703842267136:=by lia
  rw[qI];refine#[λx b=>?_,?_]
  .obtain b|b:=eC.1 b
   .exact a x b
   .cases eR.1 b;exact Fb b1 b2
  .rw[iw];refine#[d,W2,λx b y f e=>?_];cases eR.1 f;exact Ph b1 b2 (e▸b)
theorem uf(s:BA):x3 (pQ s):=by
 have a:=hF (eY s 0) (show(26*36 ^ (10:Int).toNat)≠0 by decide +kernel);have st:=EY s;have b:=(mL s).2.1;exact FP a Wc st.1 st.2 _ Wc
def MN(s:BA):x3 (nc s):=#[λx a=>(uf s).n x (tj a),(uf s).d.sublist Qgs]
theorem MP(s:BA):x3 ((nM s).map (·.1)):=by
 have h:=uf s;have c:=ua s;have e0:=(mL s).1;have a:=hF (Xw s) (show(4:Int)≠0 by decide);have d:=hI (Xw s) (show(0:Int)<4 by decide);have e:(nM s).map (·.1)=(pQ s).take (Xw s % 4).toNat:=by
  unfold nM;rw[ey];refine kv λi=>?_;rw[fT];by_cases hi:i<(Xw s % 4).toNat
  .rw[hW hi,List.getElem?_take_of_lt hi,gh Wc];show some ((pQ s).getD (0+(i:Int)).toNat Str.empty)=_;rw[show(0+(i:Int)).toNat=i by lia,e5,gh Wc];rfl
  .rw[v3 (by rw[gz];lia),v3 (by rw[hM];lia)];rfl
 rw[e];exact#[λx b=>h.n x (tj b),h.d.sublist Qgs]
theorem V8(p:QcW)(h:g5 es)(h0:Qjx)(hd:∀m:Int,0<=m->m<es.length->(b8 es m).length<=12):g5 Qpo/\0<(mD es p).length/\∀m:Int,0<=m->m<(mD es p).length->(b8 Qpo m).length<=12:=by
 unfold mD;split
 .obtain⟨k,g⟩:∃k,k+1=es.length:=#[es.length-1,Wc];rw[show es.length-1=k by lia];obtain⟨q,_,_⟩:=pe (k:=k) h.1 g;have b1:=hF Qgf (b:=((cy es k).length:Nat)) Wc;have b2:=hI Qgf (b:=((cy es k).length:Nat)) Wc;have a:=getD_mem (l:=cy es k) (n:=(p.1 / 8 % ((cy es k).length:Nat)).toNat) Wc;generalize (cy es k).getD (p.1 / 8 % ((cy es k).length:Nat)).toNat 0=x at a;have o:=hd (k:Int) Wc Wc;have c:(x=k\/x∈b8 es k)/\(b8 es x).length<=11:=by
   have i:x∈b8 es k->(b8 es x).length+1<=(b8 es k).length:=λz=>by
    obtain⟨pre,ep,_⟩:=qk h.1 Qac (m:=(k:Int)) Wc Wc Wc z;rw[ep,eP,gv];lia
   unfold cy at a;split at a
   .have e:cutD ([(k:Int)]++b8 es k) QdF none=b8 es k:=by
     generalize b8 es k=l;unfold cutD;have h1:HT.iy ([(k:Int)]++l).length 0 QdF=1:=by
      unfold HT.iy;simp
     have h2:HT.iy ([(k:Int)]++l).length ([(k:Int)]++l).length none=([(k:Int)]++l).length:=rfl;rw[h1,h2];simp
    rw[e]at a;have:=i a;exact#[.inr a,Wc]
   .rename_i f;rw[eP,hH]at f;obtain a|a:=eC.1 a
    .have:x=k:=eR.1 a;subst this;exact#[.inl rfl,Wc]
    .have:=i a;exact#[.inr a,Wc]
  have hp:=h.snoc g c.1;have d:0<=x/\x<es.length:=by
   obtain e|e:=c.1
   .lia
   .have:=xA h.1 (m:=(k:Int)) Wc Wc e;lia
  refine#[hp,by rw[eP];lia,λm m0 j=>?_];rw[eP,hH]at j;by_cases hm:m<es.length
  .rw[tu h.1 m0 hm];exact hd m m0 hm
  .have em:m=(es.length:Int):=by lia
   subst em;have e:=rW hp.1 (m:=(es.length:Int)) Wc (by rw[eP,hH];lia);have e2:(es++[x]).getD ((es.length:Int)).toNat 0=x:=by
    rw[i4,e5,lz (eA _),Nat.sub_self];rfl
   rw[e2,cq Wc,tu h.1 d.1 d.2]at e;rw[e,gv];have:=c.2;lia
 .exact#[h,h0,hd]
theorem FQ:∀(l:CU) (es:BA),g5 es->0<es.length->(∀m:Int,0<=m->m<es.length->(b8 es m).length<=12)->g5 Qnw/\∀m:Int,0<=m->m<(l.foldl mD es).length->(b8 Qnw m).length<=12
 | [],es,h,_,hd=>#[h,hd]
 | p::r,es,h,h0,hd=>by
  obtain⟨a,c,d⟩:=V8 p h h0 hd;exact FQ r _ a c d
structure ro(nb:Nat)(o:OW):Prop where
 ii:∀l∈o.is,∀d∈l,xE nb d
 oo:∀l∈o.os,∀d∈l,xE nb d
 wd:∀w∈o.ws,aU w.sg=true/\∀d∈w.ds,xE nb d
 ss:o.ws.Pairwise λa c=>a.src<=c.src
 sl:∀w∈o.ws,w.src<=(o.is.length:Int)-1
theorem aaC(a c:Int)(nb:Nat)(h:tQ ns)(d:Qo0):xE nb (j9 a c nb ns):=by
 have b1:=hF c (b:=ns.length) Wc;have b2:=hI c (b:=ns.length) Wc;unfold j9;split
 .exact .inl #[_,rfl,gH h b1 b2]
 split
 .exact .inr Qq0
 .exact .inr (.inr #[_,_,rfl,gH h b1 b2,qq _ _ _])
theorem MQ{l:Da}{d:L3.D}(h:∀x∈l,∀d∈x,xE nb d)(hd:Qg5):∀x∈g6 l d,∀d∈x,xE nb d:=λx b y a=>by
 obtain b|rfl:=oN b
 .exact h x b y a
 .obtain a|a:=eC.1 a
  .simp at a;cases e:l[l.length-1]? with
   | none=>rw[e]at a;cases a
   | some z=>rw[e]at a;exact h z (gc e) y a
  simp_all
theorem afs{o:OW}(p:QcW)(hn:tQ ns)(f:Qo0)(h0:0<o.is.length)(h:ro nb o):ro nb Qiz:=by
 obtain⟨ii,oo,wd,ss,sl⟩:=h;have dd:=aaC p.1 p.2 nb hn f;have q:o.ws≠[]->eZ o.ws∈o.ws:=λhz=>iJ l6 (iU.2 hz);have g:∀(w:WY),o.ws≠[]->w.src=(eZ o.ws).src->(o.ws.set Qda w).Pairwise Qtr:=λw hz hw=>by
  have e:(o.ws.set Qda w).map (·.src)=o.ws.map (·.src):=by
   rw[nZ];refine kv λi=>?_;by_cases hi:i=o.ws.length-1
   .subst hi;have hp:=iU.2 hz;rw[wg (by rw[eu];lia),fT,gh Wc,hw];unfold eZ;rw[e5,gh Wc];rfl
   .rw[vw (λz=>hi z.symm)]
  exact vr.1 (e▸vr.2 ss)
 have k:∀{w:WY} {P:WY->Prop},(∀x∈o.ws,P x)->P w->∀x∈o.ws.set Qda w,P x:=λn hb x m=>by
  obtain m|rfl:=oN m
  .exact n x m
  .exact hb
 unfold i9;split
 .refine#[λl f=>?_,λl f=>?_,wd,ss,λw hw=>?_]
  .obtain f|f:=eC.1 f
   .exact ii l f
   .cases eR.1 f;exactλd hd=>by cases hd
  .obtain f|f:=eC.1 f
   .exact oo l f
   .cases eR.1 f;exactλd hd=>by cases hd
  .have:=sl w hw;show w.src<=((o.is++[[]]).length:Int)-1;rw[eP];lia
 split
 .refine#[MQ ii dd,oo,wd,ss,λw hw=>?_];show w.src<=((g6 o.is _).length:Int)-1;rw[g6,kc];exact sl w hw
 split
 .exact#[ii,MQ oo dd,wd,ss,sl]
 split
 .have b1:=hF (p.1 / 24) (b:=(ns.length:Int)) Wc;have b2:=hI (p.1 / 24) (b:=(ns.length:Int)) Wc;refine#[ii,oo,λw hw=>?_,?_,λw hw=>?_]
  .obtain hw|hw:=eC.1 hw
   .exact wd w hw
   .cases eR.1 hw;exact#[gH hn b1 b2,λd hd=>by cases hd]
  .rw[List.pairwise_append];refine#[ss,List.pairwise_singleton _ _,λa n c s=>?_];cases eR.1 s;exact sl a n
  .obtain hw|hw:=eC.1 hw
   .exact sl w hw
   .cases eR.1 hw;exact Int.le_refl _
 rename_i hz;have r:o.ws≠[]:=λz=>hz Qnq;have j:=q r;split
 .exact#[ii,oo,k wd (show aU (eZ o.ws).sg=true/\∀d∈(eZ o.ws).ds,xE nb d from wd Qgg j),g _ r rfl,k sl (show(eZ o.ws).src<=_ from sl Qgg j)]
 .refine#[ii,oo,k wd #[(wd _ j).1,λd hd=>?_],g _ r rfl,k sl (show(eZ o.ws).src<=_ from sl Qgg j)];obtain hd|hd:=eC.1 hd
  .exact(wd _ j).2 d hd
  .cases eR.1 hd;exact dd
theorem LB{nb nm:Nat}{ns:AT}(hn:tQ ns)(a:Qo0):∀(l:CU) (o:OW),0<o.is.length->ro nb o->ro nb QmI
 | [],o,_,h=>h
 | p::r,o,h0,h=>by
  refine LB hn a r _ ?_ (afs p hn a h0 h);have:=Dr nb nm ns [p] o;grind
def Xe(nb:Nat):ro nb OS:=by
 refine#[λl a d hd=>?_,λl a d hd=>?_,λw hw=>?_,.nil,λw hw=>?_]
 .cases eR.1 a;cases hd
 .cases eR.1 a;cases hd
 .cases hw
 .cases hw
theorem aaD:g5 [-1]:=#[tH,λk a=>by
 have:k+1<1:=a;lia]
theorem V9:∀m:Int,0<=m->m<([-1]:BA).length->(b8 [-1] m).length<=12:=λm h0 h1=>by
 have h1:m<1:=h1;have:m=0:=by lia
 subst this;decide +kernel
def LA{m:Nat}:uO es m=[]↔(m:Int)∉es:=by
 unfold uO;rw[lp,ot];constructor
 .intro h z;obtain⟨i,hi⟩:=List.getElem?_of_mem z;have a:=(hR.1 hi).1;exact h i (g4.2 a) (e6 (by rw[e5,hi];rfl))
 .intro h i hi z;have hi:=g4.1 hi;have z:=eI z;rw[e5,gh hi]at z;exact h (z▸sk hi)
theorem aft{fs:BA}(h:g5 es)(g:g5 fs)(f:es.length=fs.length)(hd:∀m:Nat,m<es.length->(b8 es (m:Int)).length=(b8 fs (m:Int)).length):es=fs:=by
 have key:∀j,j<=es.length->kA es j=kA fs j:=λj=>by
  induction j with
  | zero=>exactλ_=>rfl
  | succ j d=>
   intro c;rw[<- Dq,<- Dq,<- (zo h c).1,<- (zo g Wc).1,d Wc,hd j c]
 refine List.ext_getElem f λi h1 h2=>?_;have a:=zo h h1;have b:=zo g h2;have e:(b8 es (i:Int)).reverse=(b8 fs (i:Int)).reverse:=by rw[<- a.1,<- b.1,key i Wc,hd i h1]
 have a2:=a.2;rw[e,b.2,e5,e5,gh h1,gh h2]at a2;dsimp only [Option.getD]at a2;split at a2<;>split at a2
 .lia
 .cases a2
 .cases a2
 .exact(fO a2).symm
def RW.sN(ns:AT):RW->Int
 | .md _ _ _ st _=>pz ns st
 | _=>0
def y1(d:L3.D):T:=.tup [.sh QdH,.sh Qbi,.sh QpC]
def HI(z:RW->L3.D)(r:RW):T:=.tup [.sh (.int r.bl),.sh (.str r.word),.sh (z r)]
variable{bn:AT}
theorem Wa:∀{l:DO} (i:Int),(∀r∈l,r.Ok bn ns)->(((ph bn ns i l).map (dY.n bn ns)).filter λd=>decide ((aS d 2).toS∈bB)).map y1=(l.filter RW.O4).map (HI λr=>.int (r.sN ns))
 | [],_,_=>rfl
 | r::l,i,h=>by
  have b:=h r eB;have e:(IK bn ns r).w=r.word:=(Mn b).1;have ep:decide ((aS ((HH bn ns i r).n bn ns) 2).toS∈bB)=r.O4:=by
   rw[<- uW b,<- e];rfl
  have a:=Wa Q3 λq c=>h q QcQ;show((_::_).filter _).map y1=_;cases hm:r.O4 with
  | false=>
   rw[hY (by rw[ep,hm];exact gm),hY (by rw[hm];exact gm)];exact a
  | true=>
   rw[kn (by rw[ep,hm]),kn hm,e4,e4];refine congr (congrArg _ ?_) a;cases r with
   | md n k x st z=>rfl
   | bx n k=>cases hm
   | io n w d=>cases hm
   | wy n w=>cases hm
theorem z4{q:jl->Bool}{q':Qo6}(a:∀r,q Qjk=q' r):∀(l:DO) (i:Int),(((ph bn ns i l).filter λf=>q f.c).map (·.c.nm))=(l.filter q').map RW.nm
 | [],_=>rfl
 | r::l,i=>by
  have b:=z4 a l Q3;show((_::_).filter _).map _=_;have e:(IK bn ns r).nm=r.nm:=by cases r<;>rfl
  cases hm:q' r with
  | false=>
   rw[hY (by show ¬ q Qjk=true;rw[a,hm];exact gm),hY (by rw[hm];exact gm)];exact b
  | true=>
   rw[kn (by show q Qjk=true;rw[a,hm]),kn hm,e4,e4];exact congr (congrArg _ e) b
theorem Lu:∀{l:DO} {i:Int} {f:dY},f∈ph bn ns i l->∃r∈l,f.c=IK bn ns r
 | r::l,i,f,h=>by
  obtain rfl|h:=ew.1 h
  .exact#[r,eB,rfl]
  .obtain⟨q,a,b⟩:=Lu h;exact#[q,eD _ a,b]
def Wb(h:Dh c):tQ c.bn:=λx a=>by
 obtain⟨p,hp,rfl⟩:=eJ.1 a;exact(h.bk p hp).1
def pd(x:Str):Bool:=wF "" (-1) (e7 x)&&QmC
theorem aaE(nd:l.Nodup)(h:tQ l){z:Int}(h0:0<=z)(h1:z<l.length):pz l (l.getD z.toNat Str.empty)=z:=by
 have hi:z.toNat<l.length:=by lia
 unfold pz;rw[cq (gb (gH h h0 h1)),e5,gh hi];show((l.idxOf l[z.toNat]:Nat):Int)=z;rw[List.Nodup.idxOf_getElem nd];lia
theorem Pj(h:Dh c)(u:c.rows≠[])(nd:c.ns.Nodup)(t:c.bn.Nodup)(tr:FH c.ks c.es c.ss=true)(hp:l0 (Str.join "\n" QfG)):pd (Str.join "\n" QfG)=true:=by
 have hb:=Wb h;have hn:=h.n;have s:=jT h;have o:e7 (Str.join "\n" QfG)=c.rows.map Qfq:=vW hb hn s u;generalize Str.join "\n" QfG=x at hp o ⊢;have v:wF "" (-1) (e7 x)=true:=by rw[o];exact LH hb hn s (Fo h.1)
 have hf:sE x=ph c.bn c.ns 1 c.rows:=by unfold sE;rw[o];exact VY hb hn 1 s
 have A:Fp (sE x)=c.bn:=by
  rw[hf];refine(z4 (q:=jl.ZP) (q':=RW.ZP) (λr=>by cases r<;>rfl) c.rows 1).trans ?_;rw[UM];show(c.bs.map _).map RW.nm=c.bs.map _;rw[ey];rfl
 have z:D3 (sE x)=c.ns:=by
  rw[hf];refine(z4 (q:=jl.O4) (q':=RW.O4) (λr=>by cases r<;>rfl) c.rows 1).trans ?_;rw[IA,ey];show(List.range c.es.length).map _=_;rw[<- h.nl];exact m4 Str.empty c.ns
 have w:l8 x=true:=hB.2 λf hm=>by
  unfold U3;rw[A,z];rw[hf]at hm;obtain⟨r,u,e⟩:=Lu hm;rw[e];exact(LL hb hn (s r u)).2.2
 obtain⟨⟨h',p,en,_⟩,em⟩:=I0 hp v w;unfold pd;rw[v,w];show(qS x).lk=true;generalize qS x=j at h' p en em;rw[A]at p;rw[z]at en;have y:j.es.length=c.es.length:=by rw[<- h'.nl,<- h.nl,en]
 have core:=pI h' (g:=y1) (g':=HI λr=>aS r.cn 1) Qdi;rw[cG]at core;have core:=T.lst.inj core;unfold CH.kW at core;rw[<- em,p,en,hf,Wa 1 s,IA,ey,y]at core;have at_:∀m:Nat,m<c.es.length->(b8 j.es (m:Int)).length=(b8 c.es (m:Int)).length/\j.ks.getD m Str.empty=c.ks.getD m Str.empty/\j.ss.getD m 0=c.ss.getD m 0:=λm hm=>by
  have e:=congrArg (λl=>l[m]?) core;rw[fT,fT,hW hm]at e;have e:=fO e;have e:T.tup [.sh (.int ((b8 c.es m).length:Nat)),.sh (.str Qc5),.sh (.int (pz c.ns (if c.ks.getD m Str.empty="one" then c.ns.getD (c.ss.getD m 0).toNat Str.empty else "")))]=.tup [.sh (.int ((b8 j.es m).length:Nat)),.sh (.str (j.ks.getD m Str.empty)),.sh (.int (j.ss.getD m 0))]:=e;simp only[T.tup.injEq,sT,T.sh.injEq,L3.D.int.injEq,L3.D.str.injEq,and_true]at e;obtain⟨e1,e2,e3⟩:=e;refine#[Wc,e2.symm,?_];rw[<- e3];obtain⟨a,b,d⟩|⟨a,b⟩:=h.one m hm
  .rw[dU a];exact aaE nd hn b d
  .rw[cq a,b];exact dU rfl
 have C:j.es=c.es:=aft h'.pre h.pre y λm hm=>(at_ m Wc).1;have ext:∀{α:Type} {l m:QR} {d:α},l.length=j.es.length->m.length=c.es.length->(∀i,i<c.es.length->l.getD i d=m.getD i d)->l=m:=λ{α l m d} a b e=>by
  refine List.ext_getElem Wc λi h1 h2=>?_;have:=e i Wc
  rwa [e5,e5,gh h1,gh h2]at this
 have ek:j.ks=c.ks:=ext h'.kl h.kl λi hi=>(at_ i hi).2.1;have es:j.ss=c.ss:=ext h'.sl h.sl λi hi=>(at_ i hi).2.2;unfold CH.lk;rw[ek,C,es,tr,en];have k:∀{l:AT},tQ l->l.Nodup->oh l=true:=λo hd=>by
  unfold oh;rw[e6 hd,Bool.and_true];exact hB.2 o
 rw[k hn nd];show Aq j.bs=true;unfold Aq;rw[fD,hB];exact#[λq B=>NH (h'.bk q B).2,k (show tQ j.bn from p▸hb) (show j.bn.Nodup from p▸t)]
theorem Ds{α:Type}(f:α->Nat)(z y:α):∀(l:QR) (i:Nat),f y<=f Qji+1->((l.set i y).map f).sum<=(l.map f).sum+1
 | [],i,_=>fv _
 | a::l,0,h=>by
  have h:f y<=f a+1:=h;show f y+_<=f a+_+1;lia
 | a::l,i+1,h=>by
  exact Nat.add_le_add_left (Ds f z y l i h) (f a)
def Pk(w:WY):Nat:=1+Qly
def Xy(o:OW):Nat:=o.is.length+(o.is.map List.length).sum+(o.os.map List.length).sum+(o.ws.map Pk).sum
theorem aaF(nb nm:Nat)(ns:AT)(o:OW)(p:QcW):Xy Qiz<=Xy o+1:=by
 have ad:∀(l:Da) (d:L3.D),((g6 l d).map List.length).sum<=(l.map List.length).sum+1:=λl d=>Ds List.length [] _ l _ (by rw[eP];exact eA _);have wd:∀w:WY,Pk w<=Pk Qgg+1->((o.ws.set Qda w).map Pk).sum<=(o.ws.map Pk).sum+1:=λw h=>Ds Pk l6 w _ _ h;unfold Xy i9;split
 .show(o.is++[[]]).length+((o.is++[[]]).map List.length).sum+((o.os++[[]]).map List.length).sum+_<=_;rw[eP,eE,eE,la,la];show o.is.length+1+(_+0)+(_+0)+_<=_;lia
 split
 .have:=ad o.is QfK;show(g6 o.is _).length+_+_+_<=_;rw[g6,kc] at *;dsimp only at *;lia
 split
 .have:=ad o.os QfK;dsimp only;lia
 split
 .show _+_+_+((o.ws++[_]).map Pk).sum<=_;rw[eE,la];show _+_+_+(_+1)<=_;lia
 split
 .have:=wd {eZ o.ws with qs:=(eZ o.ws).qs++[Il p.1 p.2 nb nm]} (by unfold Pk;dsimp only;rw[List.length_append,List.length_singleton];lia);dsimp only;lia
 .have:=wd {eZ o.ws with ds:=(eZ o.ws).ds++[j9 p.1 p.2 nb ns]} (by unfold Pk;dsimp only;rw[List.length_append,List.length_singleton];lia);dsimp only;lia
theorem MR(nb nm:Nat)(ns:AT):∀(l:CU) (o:OW),Xy QmI<=Xy o+l.length
 | [],o=>eA _
 | p::l,o=>by
  have:=MR nb nm ns l Qiz;have:=aaF nb nm ns o p;rw[kb,gv];lia
def Jj:RW->Nat
 | .wy _ w=>Pk w
 | _=>1
theorem Dt{α:Type}{f:α->Nat}:∀{l:QR},(∀a∈l,f a=1)->(l.map f).sum=l.length
 | [],_=>rfl
 | a::l,h=>by
  rw[e4,qo,h a eB,Dt λb hb=>h b Qpr,gv,Nat.add_comm]
theorem Lo(c:CH):∀L:Ch,((L.flatMap c.mr).map Jj).sum=L.length+(L.map λm=>(c.is.getD m []).length).sum+(L.map λm=>(c.os.getD m []).length).sum+((L.flatMap λ(m:Nat)=>c.ws.filter λw=>decide QbP).map Pk).sum
 | []=>rfl
 | m::L=>by
  have b:=Lo c L;have e:((c.mr m).map Jj).sum=1+(c.is.getD m []).length+(c.os.getD m []).length+((c.ws.filter λw=>decide QbP).map Pk).sum:=by
   unfold CH.mr;rw[e4,eE,eE,qo,la,la,ey,ey,ey];have a:∀l:BC,∀n w,(l.map (Jj∘RW.io n w)).sum=l.length:=λl n w=>Dt λ_ _=>rfl;rw[a,a];show 1+(_+_+((c.ws.filter _).map Pk).sum)=_;lia
  rw[h9,h9,eE,eE,la,la,b,e,e4,e4,qo,qo,gv];lia
def aaG(hi:c.is.length=c.es.length)(b:c.os.length=c.es.length)(s:QrG)(h:∀w∈c.ws,0<=w.src/\w.src<c.es.length):(c.rows.map Jj).sum=c.bs.length+Xy #[c.is,c.os,c.ws]:=by
 have g:∀l:Da,l.length=c.es.length->((List.range c.es.length).map λm=>(l.getD m []).length)=l.map List.length:=λl d=>by
  have:=congrArg (List.map List.length) (m4 [] l);rw[ey,d]at this;exact this
 unfold CH.rows;rw[eE,la,Lo,g _ hi,g _ b,zg _ _ s h,gz];have:(c.br.map Jj).sum=c.bs.length:=by
  unfold CH.br;rw[ey];exact Dt λ_ _=>rfl
 unfold Xy;rw[this,<- hi]
section
variable(hb:tQ bn)(hn:tQ ns)
include hb hn
theorem afv(h:QbI):(r.line bn ns).length+1<=500*Jj r:=by
 obtain⟨h1,_⟩:=Uy hb hn h;have b:=Ff (c:=32) (n:=53) λw hw=>(h1 w hw).1;rw[<- qy]at b;have f:(r.line bn ns).length=r.bl+(Str.join " " (r.ws bn ns)).length:=by
  unfold RW.line RW.rest;rw[str_len];have:(Txt.mul " " (r.bl:Int)).length=r.bl:=by rw[<- aR,lg,kx]
  rw[this]
 have a:r.bl<=51:=by
  cases r with
  | bx n k=>exact fv _
  | md n k x st z=>exact fg h.1 Wp
  | io n w d=>exact rf h.1
  | wy n w=>exact rf h.1
 have hw:(r.ws bn ns).length<=8*Jj r:=by
  cases r with
  | bx n k=>exact eL rfl
  | md n k x st z=>
   show(if st="" then [] else [st]).length+1+1<=8;split<;>exact eL rfl
  | io n w d=>
   have:=(C1 hb h.2.2).2;show(dW bn d).length+1<=8;lia
  | wy n w=>
   obtain⟨_,h2⟩:=MU hb hn h.2;have:=Fi λp hp=>(h2 p hp).1;have e:(wP bn ns w).length<=2+Qly:=by
    have:(Ut ns w).length<=1:=by unfold Ut;split<;>exact eL rfl
    unfold wP;rw[gv,eP,eP,uV,uV,eu,eu];lia
   show(wP bn ns w).flatten.length<=8*(1+Qly);lia
 have:1<=Jj r:=by
  cases r with
  | wy n w=>exact oA ..
  | _=>exact eA _
 lia
theorem Wf:∀{l:DO},(∀r∈l,r.Ok bn ns)->mU QfA<=500*(l.map Jj).sum/\l.length<=(l.map Jj).sum
 | [],_=>#[fv _,fv _]
 | r::l,h=>by
  obtain⟨a,b⟩:=Wf λq c=>h q QcQ;have:=afv hb hn (h r eB);have e:mU ((r::l).map Qp2)=(r.line bn ns).length+1+mU QfA:=by unfold mU;simp;lia
  have:1<=Jj r:=by
   cases r with
   | wy n w=>exact oA ..
   | _=>exact eA _
  rw[e,e4,qo,gv];lia
end
def Wg{d:L3.D}(h:Qg5):jH nb d:=by
 obtain⟨n,e,hn⟩|h|⟨n,t,e,hn,a⟩:=h
 .exact .inl #[n,e,Ft hn]
 .exact .inr QdE
 .exact .inr (.inr #[n,t,e,Ft hn,a])
theorem Jk(h:Dh c):kh c c.es.length=c.rows.map Qfq:=O1 (λm hm e=>by
 obtain z|z:=h.one m hm
 .exact z.2
 .exact absurd e z.1) (λw hw z=>by
 rcases(h.wn w hw).1.t with y|y
 .exact y.2
 .lia) h.n
def Lm(h:Dh c)(t:mU QfG<=400000):t7 c:=by
 have f:c.bn.length=c.bs.length:=eu ..;refine#[h.nl,h.kl,h.sl,h.il,h.ol,h.e1,h.pre.1,λx g=>Ft (h.n x g),λp hp=>#[Ft (h.bk p hp).1,(h.bk p hp).2],λx g=>?_,λm hm e=>?_,λl j d hd=>f▸Wg (h.is l j d hd),λl j d hd=>f▸Wg (h.os l j d hd),λw hw=>?_,fg h.wl Wp,by rw[Jk h];exact t]
 .obtain⟨i,hi,rfl⟩:=List.getElem_of_mem g;have:=h.kinds i (by rw[<- h.kl];exact hi);rw[e5,gh hi]at this;exact(show ∀y∈(["leaf","one","all"]:AT),y.length<=4 by decide +kernel) _ this
 .obtain z|z:=h.one m hm
  .exact h.nl▸z.2
  .exact absurd e z.1
 .obtain⟨a,b⟩:=h.wn w hw;exact#[λd hd=>by have:=a.q d hd;rwa [f,h.nl]at this,λd hd=>f▸Wg (a.d d hd),Ft a.s,h.nl▸a.t,b]
theorem FT:∀{l:AT} {i:Int} {pw:Str} {mb:Int},wF pw mb l=true->(vY i l).map dY.line=l
 | [],_,_,_,_=>rfl
 | x::l,i,pw,mb,h=>by
  have h:((Fx x).isSome&&QqL)=true:=h;rw[fD,fD]at h;obtain⟨h1,_,a⟩:=h;show(_:Str)::(vY Q3 l).map dY.line=_;rw[FT a];exact congrArg (·::l) (Mm (Di h1).2.2).1
def Wh{x:Str}(hp:l0 x)(h:pd x=true):Dh (qS x)/\(qS x).rows.map (RW.line (qS x).bn (qS x).ns)=e7 x:=by
 unfold pd at h;rw[fD,fD]at h;obtain⟨⟨v,_,_,e⟩,_⟩:=I0 hp h.1 h.2.1;exact#[v,e.trans (FT h.1)]
theorem Wi{x:Str}(h1:cnt x<=48)(h2:x.length<=190000):l0 x:=by
 refine#[by rw[VZ];lia,λf hf=>?_];have mem:∀{l:AT} {i:Int},f∈vY i l->∃y∈l,f.c=lK y:=λ{l}=>by
  induction l with
  | nil=>intro i hf;cases hf
  | cons y l d=>
   intro i hf;obtain rfl|hf:=ew.1 hf
   .exact#[y,eB,rfl]
   .obtain⟨z,a,b⟩:=d hf;exact#[z,eD _ a,b]
 obtain⟨y,j,e⟩:=mem hf;have l1:=NI j;have l2:=Vo y;rw[e];unfold lK QJ;cases g:uY (C9 y) with
 | none=>exact trivial
 | some c=>
  show c.Sm;obtain⟨a,_⟩:=xM g;cases c with
  | wy v=>
   have a:v.ps.flatten=C9 y:=a;have l3:(lk "if" "and" (v.as.map jk.ws)++lk "do" "then" (v.ds.map jj.ws)).length<=v.ps.length:=by
    unfold mH.ps;rw[gv];exact hU (ze _ _).length_le
   rw[eP,uV,uV,eu,eu]at l3;have l4:v.ps.length<=v.ps.flatten.length:=by
    have:∀{l:CS},(∀p∈l,p≠[])->l.length<=l.flatten.length:=λ{l}=>by
     induction l with
     | nil=>intro _;exact eA _
     | cons p l d=>
      intro h;have:=d λq k=>h q (eD _ k);have:=iU.2 (h p eB);rw[q3,eP,gv];lia
    exact this λp hp z=>by
     obtain⟨⟨f,r,e,_⟩,_⟩:=Jb (xM g).2 p hp;rw[z]at e;cases e
   rw[a]at l4;show v.as.length+v.ds.length<=400000;lia
  | _=>exact trivial
structure DrP(c:CH):Prop where
 v:Dh c
 nd:c.ns.Nodup
 nb:c.bn.Nodup
 tr:FH c.ks c.es c.ss=true
 wt:(c.rows.map Jj).sum<=40
 ne:c.rows≠[]
variable{s:BA}
theorem U2(h:Qg7):(iS s).length<=36:=by
 have:kS s<=74:=by unfold kS;split<;>lia
 unfold iS nq;rw[eu,gz];lia
theorem Du(q:Qg7):DrP (kR s):=by
 have c:=afr s;obtain⟨e0,e1,e2⟩:=mL s;have hn:=uf s;have t:=ua s;obtain⟨pre,deep⟩:=FQ (iS s) [-1] aaD Qna V9;have ow:ro (nM s).length (Az s):=LB (nm:=(bY s).length) hn.n Wc (iS s) OS Qna (Xe _);have hb:((kR s).bn).length=(nM s).length:=eu ..;have h:(kR s).ns.length=(bY s).length:=ML s;have j:tQ (kR s).bn:=(MP s).n;have x:Xy (Az s)<=37:=by
  have:=MR (nM s).length (bY s).length (pQ s) (iS s) OS;have:=U2 q;have:Xy OS=1:=rfl;unfold Az T9;lia
 have k:∀w∈(kR s).ws,0<=w.src/\w.src<(kR s).es.length:=λw hw=>by
  have:=(c.ow.ww w hw).sr;have B:((kR s).is.length:Int)=(kR s).es.length:=by rw[c.il]
  dsimp only at this;lia
 have wt:((kR s).rows.map Jj).sum<=40:=by
  have:=aaG c.il (c.ow.n2.trans c.il) ow.ss k;have u:=c.b3;rw[this];show _+Xy (Az s)<=_;lia
 have kd:∀m:Nat,m<(bY s).length->(kR s).ks.getD m Str.empty∈(["leaf","one","all"]:AT)/\decide ((kR s).ks.getD m Str.empty="leaf")=!decide ((m:Int)∈bY s):=λm hm=>by
  show(fG (bY s) (xT s) (bY s).length).getD m Str.empty∈_/\decide ((fG (bY s) (xT s) (bY s).length).getD m Str.empty="leaf")=!decide ((m:Int)∈bY s);rw[(pT _ _ hm).1];unfold kindB;by_cases z:uO (bY s) m=[]
  .rw[dU z,fw (LA.1 z)];decide +kernel
  .have o:(m:Int)∈bY s:=zi λy=>z (LA.2 y);rw[cq z,e6 o];split<;>decide +kernel
 have st:∀m:Nat,m<(bY s).length->TL (kR s).ks (bY s) (kR s).ss m=true:=λm hm=>by
  show TL Qr2 (bY s) Qr3 m=true;unfold TL;rw[(pT _ _ hm).1,(pT _ _ hm).2];unfold kindB nY;by_cases z:uO (bY s) m=[]
  .rw[dU z,dU z];rfl
  .rw[cq z,cq z];by_cases y:(xT s).getD m 0 % 2=1
   .rw[dU y,dU y];rfl
   .rw[cq y,cq y];have v:0<(uO (bY s) m).length:=iU.2 z;have b1:=hF ((xT s).getD m 0 / 2) (b:=((uO (bY s) m).length:Nat)) Wc;have b2:=hI ((xT s).getD m 0 / 2) (b:=((uO (bY s) m).length:Nat)) Wc;have:=Lr (getD_mem (l:=uO (bY s) m) (n:=((xT s).getD m 0 / 2 % ((uO (bY s) m).length:Nat)).toNat) Wc);rw[dU rfl,FG #[this.1,this.2.1],e6 this.2.2];rfl
 have v0:Dh (kR s):=by
  refine#[#[pre,λm hm=>(kd m hm).1],c.nl,c.kl,c.sl,c.il,c.ow.n2.trans c.il,fg e1 Wp,(MN s).n,λp hp=>#[j _ (eJ.2 #[p,hp,rfl]),(c.bk p hp).2],fg c.b3 Wp,λm hm=>?_,λl i d hd=>hb▸ow.ii l i d hd,λl i d hd=>hb▸ow.oo l i d hd,λw hw=>#[?_,k w hw],ow.ss,fg c.ow.wl Wp,?_]
  .by_cases e:(kR s).ks.getD m Str.empty="one"
   .have:=(c.one m hm).1 e;rw[<- c.nl]at this;exact .inl #[e,this]
   .exact .inr #[e,(c.one m hm).2 e]
  .have f:=c.ow.ww w hw;have g:=ow.wd w hw;refine#[fg f.l3 Wp,λd hd=>?_,λd hd=>hb▸g.2 d hd,g.1,?_]
   .rw[hb,h];exact(f.g1 d hd).pr
   .rw[h];exact f.fin.tg
  .have:∀l:DO,l.length<=(l.map Jj).sum:=λl=>by
    induction l with
    | nil=>exact eA _
    | cons r l A=>
     have:1<=Jj r:=by
      cases r with
      | wy n w=>exact oA ..
      | _=>exact eA _
     rw[e4,qo,gv];lia
   exact fg (fg (this _) wt) Wp
 refine#[v0,(MN s).d,(MP s).d,?_,wt,ZO c];unfold FH nC Ij EW;rw[c.kl,c.sl,e6 c.e0,i0,fD,fD,hB,hB,hB];refine#[λm hm=>?_,λm hm=>?_,λm hm=>st m QjB]
 .have:=g4.1 hm;exact e6 (deep m Wc (by show(m:Int)<(kR s).es.length;lia))
 .obtain⟨a,b⟩:=kd m QjB;unfold r4;rw[e6 (show(kR s).ks.getD m Str.empty∈yU from a),b];exact beq_self_eq_true _
def Xz(s:BA):Str:=Str.join "\n" ((kR s).rows.map Qlf)
theorem Jl(c:Qg7):cnt (Xz s)<=39/\(Xz s).length+1<=20000/\mU ((kR s).rows.map Qlf)<=400000:=by
 have h:=Du c;have hb:=Wb h.v;obtain⟨a,b⟩:=Wf hb h.v.n (jT h.v);have w:=h.wt;have d:e7 (Xz s)=_:=vW hb h.v.n (jT h.v) h.ne;have e:=VZ (Xz s);have j:=mJ (l:=(kR s).rows.map Qlf) (λz=>h.ne (lp.1 z));rw[d,eu]at e;unfold Xz at *;lia
theorem aaI(c:Qg7):pd (Xz s)=true:=by
 have h:=Du c;obtain⟨a,b,_⟩:=Jl c;exact Pj h.v h.ne h.nd h.nb h.tr (Wi (fg a Wp) (by unfold Xz at b;lia))
def Pn(a:Qg7):Txt.join "\n" (kh (kR s) (kR s).es.length)=Xz s:=by
 rw[Jk (Du a).v];exact vT _ _
abbrev FU:=top 109
abbrev Wj:=BA
abbrev Wk:AT:=["script","text","turns","k","found","again"]
def qE:Wj->BC:=λa=>[.lst QfM]
def qF:Wj->Prop:=λa=>a.length<=63
def qG:Wj->T:=λa=>(.sh QaG:T)
structure z3(w:World)(K:Frag)(mg:BN)(CL:BM):Prop where
 FW:mg "str" = none
 aY:GX K Qdo
 dI:cP K Qdo "boxes"
 bT:cP K Qdo "names"
 Wm:∃u,mg "SIGN" = some (.int 1 u)
 Wn:∃u,mg "ASKS" = some (.int 2 u)
 MS:∃u,mg "DEEDS" = some (.int 3 u)
 zu:∃u,mg "TARGET" = some (.int 4 u)
 Jm:∃u,mg "MODE" = some (.int 5 u)
 US:mg "zip" = none
 ug:∃u,mg "SOURCE" = some (.int 0 u)
 jU:cP K Qdo "ways"
 lq:cP K Qdo "ins"
 jV:cP K Qdo "outs"
 dZ:GX K Qjn
 cz:cP K Qjn "elders"
 bN:mg "len" = none
 iP:cP K Qjn "kinds"
 gw:cP K Qdo "tree"
 jm:cP K Qjn "starts"
 ia:mg "enumerate" = none
 gJ:mg "list" = none
 lu:mg "range" = none
 UP:mg "min" = none
 aga:mg "NoName" = some (.ref (CL "NoName"))
 uh:mg "tuple" = none
 Ll:∃u,mg "ROW" = some (.int 0 u)
 jK:∃u,mg "WORD" = some (.int 2 u)
 ic:∃u,mg "CONTENT" = some (.int 3 u)
 fY:uj mg K "KINDS" ["leaf","one","all"]
 kL:∃u,mg "BLANKS" = some (.int 1 u)
 zx:∃u,mg "LONGEST_NAME" = some (.int 12 u)
 Dv:uj mg K "WORDS" ["all","and","box","call","do","far","if","in","leaf","near","on","one","open","out","put","say","shut","then","to"]
 Pp:∃u,mg "LETTERS" = some (.str "abcdefghijklmnopqrstuvwxyz" u)
 om:∃u,mg "LETTERS_AND_FIGURES" = some (.str "abcdefghijklmnopqrstuvwxyz0123456789" u)
 agb:mg "BadRow" = some (.ref (CL "BadRow"))
 zy:∃u,mg "MOST_FIGURES" = some (.int 30 u)
 Pq:∃u,mg "FIGURES" = some (.str "0123456789" u)
 Wo:mg "int" = none
 ly:GEk w mg K "FOLLOWERS" [("on",["if","do","to"]),("if",["and","do","to"]),("and",["and","do","to"]),("do",["then","to"]),("then",["then","to"]),("to",[])]
 xV:uj mg K "MARKS" ["<","<=","=","!="]
 xW:GDk w mg K "RANKS" (λk=>([("leaf",0),("one",0),("all",0),("in",1),("out",2),("on",3)]:DA).lookup k)
 Pr:∃u,mg "DEEPEST" = some (.int 12 u)
 T2:mg "set" = none
 Dw:uj mg K "MODES" ["new","near","far"]
 Jo:mg "BadTree" = some (.ref Qxc)
 Jp:nA K Qxc
 Jq:mg "BadName" = some (.ref Qxd)
 Jr:nA K Qxd
 Pu:mg "BadBox" = some (.ref QxP)
 Pw:nA K QxP
 afx:mg "BadDeed" = some (.ref (CL "BadDeed"))
 agc:mg "BadWay" = some (.ref (CL "BadWay"))
 um:mg "isinstance" = none
 Dy:mg "MoodError" = some (.ref QmY)
noncomputable def lv(i:Nat):Nat:=([1,1,2,2,3,4,1,2,1,5,2,2,3,1,1,2,1,2,1,1,2,1,2,3,4,1,1,2,1,2,3,4,5,5,6,7,8,1,2,3,1,2,3,4,5,1,4,5,6,7,8,1,9,1,1,1,3,1,1,2,4,2,1,3,2,3,4,3,4,5,6,10]:Ch).getD i 0
def TT(X:Cx)(CL:BM)(i:Nat):Prop:=([jS X CL kr,jS X CL eN,jS X CL jb,jS X CL fj,jS X CL jc,jS X CL jw,jS X CL t8,jS X CL qB,jS X CL g9,jS X CL t9,Fm X CL "Tree" 1 4 qT qU qV,Fm X CL "Chart" 1 7 pL pM pN,jS X CL ku,jS X CL qD,jS X CL xS,jS X CL jy,jS X CL j0,jS X CL kB,jS X CL kC,jS X CL jz,jS X CL jd,jS X CL pO,jS X CL pP,jS X CL mK,jS X CL kD,jS X CL mO,jS X CL gM,jS X CL pR,jS X CL uc,uu X CL "NoName" "row" 1,nG X CL gU,nG X CL dg,nG X CL dh,nG X CL dR,nG X CL dS,nG X CL d7,nG X CL gV,jS X CL mP,uu X CL "BadRow" "row" 1,nG X CL je,jS X CL gO,jS X CL jA,nG X CL gf,nG X CL jf,nG X CL jg,jS X CL kE,nG X CL jh,nG X CL kF,nG X CL kG,nG X CL fH,nG X CL ji,jS X CL jB,nG X CL kH,jS X CL jC,jS X CL kI,jS X CL mQ,jS X CL cU,jS X CL cY,jS X CL kJ,jS X CL cV,jS X CL fM,jS X CL cZ,jS X CL iO,jS X CL eO,jS X CL fN,jS X CL fP,jS X CL c9,jS X CL gi,jS X CL gk,jS X CL dM,nG X CL kK,nG X CL sf]:List Prop).getD i True
structure EX(N G Cs:AT)(n k:Nat)(X:Cx)(CL:BM):Prop extends EL X N G,z3 X.w X.K X.mg CL where
 cc:∀(i:Nat) {x:Str} (_:Cs[i]? = some x:=by rfl),IsC X x
 c:∀(i:Nat) (_:Nat.blt i n=true:=by rfl) (_:Nat.ble (lv i) k=true:=by rfl),TT X CL i
 st:X.stack=X.env::X.outer
 fm:X.env.frame=some X.env.locals
abbrev jP{A:Type}(S:Sq A)(n k:Nat)(X:Cx)(CL:BM):Prop:=EX S.N (gN S.st) (cN S.st) n k X CL
structure RR(P:Q1)(w:World)(K:Frag)(mg:BN)(base:Heap)(CL:BM)(h:Heap)(n:Nat):Prop where
 xx:K.In h
 gg:h.Ns mainGlobals mg
 ec:z3 w K mg CL
 t:∀i,Nat.blt i n=true->∀Y:Cx,dX (lv i) Y.A->TT QuU CL i
variable{P:Q1}{w:World}{mg:BN}{base h:Heap}{K:Frag}{CL:BM}{n k:Nat}{N ps:AT}{x:Str}{st:Stmt}{f:Addr}{A:Type}{X:Cx}
theorem rs(r:QlS)(t:∀Y:Cx,dX (lv n) Y.A->TT QuU CL n):RR P w K mg base CL h Qap:=#[r.xx,r.gg,r.ec,λi h=>by
 by_cases e:i=n
 .rw[e];exact t
 .exact r.t i (Nat.ble_eq_true_of_le (by have:=eL h;lia))]
def rD(u:EF X)(r:RR X.prog X.w X.K X.mg X.base CL h n)(g:QcT)(O:x7 st N ps:=by exact Ic (P:=[]) Wl)(e:X.env.scope=aE st:=by rfl)(j:X.N=N:=by rfl)(hf:∀x,X.fn x=true:=by exactλ_=>rfl)(f:QbN:=by rfl)(hm:QbM:=by rfl):EX N (gN st) (cN st) n k X CL:=#[cE u (e▸O.c) j hf O.d O.l aew,r.ec,λi _ h=>xr (e▸O.c) (aex _ (gc h)),λi a b=>r.t i a X (g.mono (eL b)),f,hm]
def qC(r:QlS)(S:Sq A)(F:f7 K S.x S.st)(d:∀{X:Cx} {b:Bx},jP S n k X CL->jM X CL b S)
  (O:Qyk:=by exact Ic Wl) (q:Qya:=by(repeat intro _);rfl) (e:∀X,OE X CL S.x Qac (S.N.take S.m).length S.f->TT X CL n:=by exactλ_ z=>z) (e2:lv n=k+1:=by rfl):RR P w K mg base CL h Qap:=
 F.elim λ_ F=>F.elim λ_ F=>rs r λY a=>e _ #[Np P w mg base CL r.xx r.gg k (PH S.f) (Pc S.f) (OT S.f) F O.s (λa u p=>d (rD u r a O rfl rfl Qal) p) q,e2▸a]
def qX(r:QlS)(S:Aa A)(F:f7 K S.x S.st)(d:∀{X:Cx} {b:Bx} {W:XK},EX S.N (gN S.st) (cN S.st) n k QP CL->mw X W CL b S)
  (O:Qyk:=by exact Ic Wl) (q:Qya:=by(repeat intro _);rfl) (e:∀X,JJ X CL S.x Qac (S.N.take S.m).length S.f->TT X CL n:=by exactλ_ z=>z) (e2:lv n=k+1:=by rfl):RR P w K mg base CL h Qap:=
 F.elim λ_ F=>F.elim λ_ F=>have T:=Y0 P w mg base CL r.xx r.gg k QtK Qto Qs5 QsK QsL F O.s (λCX=>λc u p g=>d (rD u r c O rfl rfl Qal) p g) q
 rs r λY c=>e _ #[#[T.1,e2▸c],#[T.2,e2▸c]]
theorem Wr{b:Bx}(E:jP kr 0 0 X CL) :
  jM X CL b kr:=by
 rintro⟨f,g,ts⟩ h;dsimp only [kr]at h ⊢;refine az E.g Qag QaT ?_;refine gB E.g Qau (λj δ=>∃o,δ=[some (.sh (.str f)),some (.sh (.str g)),some (.sh (.lst QnT)),some (.lst (((uU f g (ts.take j)).map .str).map T.sh)),o])
  (ck Qbq) #[_,rfl] (by rintro j δ ⟨_,rfl⟩;exact eL rfl) ?turn ?fin
 case turn=>
  rintro j d δ a ⟨o,rfl⟩;rw[fT]at a;cases e:ts[j]? with
  | none=>rw[e]at a;cases a
  | some t=>
   rw[e]at a;cases (fO a);have i:(ts.take j).length<=400000:=by rw[hM];lia
   show cK X CL b _ _ {nx:=λδ=>∃o,δ=[_,_,_,some (.lst (((uU f g (ts.take QaH)).map .str).map T.sh)),o],rt:=_,bk:=_,ct:=_};rw[mC e,Uj];generalize ts.take j=l at i ⊢;have k:=k8 f g l;have c:((uU f g l).map L3.D.str).isEmpty=decide (l=[]):=by cases l<;>rfl
   refine gA (E.ll 3).1 rfl (m8 (t:=.sh (.str (if l=[] then f else g))) (SM Qes) (λhp=>aI Qb8 (by
    rw[c,kq,wq]at hp;rw[cq hp])) (λhp=>aI QaF (by
    rw[c,oB,decide_eq_true_iff]at hp;rw[dU hp]))) rfl (by rw[eu,eu];lia) ?_
   refine gA (E.ll 3).1 rfl QiU rfl (by rw[eP,eu,eu,hH];lia) (aj ?_);rw[eE,eE,fb];exact#[_,rfl]
 case fin=>
  rintro δ ⟨o,rfl⟩;refine aG QxQ ?_;rw[eu,hZ]
theorem FY{b:Bx}(E:jP eN 1 0 X CL) :
  jM X CL b eN:=by
 rintro⟨c,d⟩ h;dsimp only [eN]at h ⊢;obtain⟨n,a,k,rfl,i,l⟩:=h;have j:=Ue l;have m:=kg l;have hn:=pD n.bn a.toNat;refine az E.g Q2 Qev ?_;refine aN (bH QbL QaI).1 (λhp=>?_) (λhp=>aj ?_)
 .refine aG Ql5 ?_;show T.sh _=T.sh Qhm;rw[qu,dU Qe1]
  try rfl
 have hp:¬ a=-1:=fc hp;have i:0<=a/\a<c.bs.length:=by
  obtain e|e:=i
  .exact absurd e hp
  .exact e
 refine az E.g Qag (aB Qra rfl) ?_;refine aN (bH QD ai).1 (λf=>?_) (λf=>aj ?_)
 .refine aG QbQ ?_;show T.sh _=T.sh Qhm;rw[qu,cq (show ¬ a=-1 from hp),dU (show k=0 from eI f)]
  try rfl
 have f:¬ k=0:=fc f;have e1:("+":Str).length=1:=rfl;have e0:("":Str).length=0:=rfl;by_cases h0:0<k
 .refine aG (fB (ak (fB QU (ak (m8 (t:=.sh (.str "+")) (qP QD ai).1 QvU (λz=>absurd h0 (fc z)))) (by rw[fR,e1];lia))) (ak Ql5) (by rw[fR,str_len,e1];show _+(sI k).length<=_;lia)) ?_;show T.sh _=T.sh Qhm;rw[qu,cq (show ¬ a=-1 from hp),cq (show ¬ k=0 from f)];have ep:xD k="+":=by rw[xD,dU h0]
  have:((k.natAbs:Nat):Int)=k:=by lia
  show _=T.sh (.str (_++xD k++sI ((k.natAbs:Nat):Int)));rw[this,ep]
  try rfl
 .refine aG (fB (ak (fB QU (ak (m8 (t:=.sh (.str "")) (qP QD ai).1 (λz=>absurd (eI z) h0) QvU)) (by rw[fR,e0];lia))) (ak Ql5) (by rw[fR,str_len,e0];show _+(sI k).length<=_;lia)) ?_;show T.sh (.str (c.bn.getD a.toNat Str.empty++Str.empty++sI k))=T.sh Qhm;rw[qu,cq (show ¬ a=-1 from hp),cq (show ¬ k=0 from f),Str.append_empty,Ug (show k<0 by lia),<- mf];have ep:xD k="-":=by rw[xD,cq h0]
  show _=T.sh (.str (_++xD k++_));rw[ep]
  try rfl
theorem Js{b:Bx}(E:jP jb 2 1 X CL) :
  jM X CL b jb:=by
 rintro⟨c,d⟩ h;dsimp only [jb]at h ⊢;obtain⟨a,hd⟩:=h;have e1:(" ":Str).length=1:=rfl;obtain⟨w,k,rfl,hw,k0,k1⟩|⟨w,s,t,rfl,hw,i,f⟩:=hd
 .have j:=pD a.nk k.toNat;have e:w.length<=4:=by obtain rfl|rfl:=hw<;>decide +kernel
  refine az E.g Q2 Qev ?_;refine aN (gF (l:=["open","shut"]) QD QaX).1 (λhp=>?_) (λhp=>absurd hp (by obtain rfl|rfl:=hw<;>decide +kernel));refine aG (fB (ak (fB QD aD (by rw[fR,e1];lia))) (aH QcY QbL (gE Str.empty k0 (by rw[a.nl];exact k1))) (by rw[fR,str_len,e1];lia)) ?_;show T.sh _=T.sh Qt1;rw[Uh]
 .have h1:=qv a.bn i;have h2:=qv a.bn f;have e:w.length<=2:=by
   have:∀x∈(["<","<=","=","!="]:AT),x.length<=2:=by decide +kernel
   exact this w hw
  refine az E.g Q2 Qev ?_;refine aN (gF (l:=["open","shut"]) QD QaX).1 (λhp=>absurd hp (by
   have:∀x∈(["<","<=","=","!="]:AT),¬ decide (x∈(["open","shut"]:AT))=true:=by decide +kernel
   exact this w hw)) (λhp=>aj ?_)
  refine aG (kZ (l:=[eG c.bn s,w,eG c.bn t]) aD (aT (ds:=([eG c.bn s,w,eG c.bn t]:AT).map L3.D.str) (iF (av (c_ (c,s) QjZ Qx QhX (by dsimp only [eN];exact#[a,i]) rfl) (av Qbq (av (c_ (c,t) QjZ Qx QhX (by dsimp only [eN];exact#[a,f]) rfl) bw))) aL)) (tL (by
   show(eG c.bn s).length+(w.length+((eG c.bn t).length+0))+3<=_;lia))) ?_
  show T.sh _=T.sh Qt1;rw[Iq,T3]
theorem FZ{b:Bx}(E:jP fj 3 1 X CL) :
  jM X CL b fj:=by
 rintro⟨c,d⟩ h;dsimp only [fj]at h ⊢;obtain⟨e,hd⟩:=h;have e1:(" ":Str).length=1:=rfl;obtain⟨n,rfl,hn⟩|⟨k,t,rfl,i,a⟩|⟨n,t,rfl,hn,a⟩:=hd
 .refine az E.g Q2 Qev ?_;refine aN (bV QD aD).1 (λhp=>?_) QlT;refine aG (fB aD QbL (by rw[fR];show 5+n.length<=_;lia)) ?_;show T.sh _=T.sh QmJ;rw[Ip]
 .have f:=qv e.bn a;have j:=pD e.bn k.toNat;refine az E.g Q2 Qev ?_;refine aN (bV QD aD).1 QlT (λhp=>aj ?_);refine az E.g Qag (m8 (bV QD aD).1 (λ_=>aB Qra rfl) Qme) ?_;refine aG (kZ (l:=["put",c.bn.getD k.toNat Str.empty,eG c.bn t]) aD (aT (ds:=(["put",c.bn.getD k.toNat Str.empty,eG c.bn t]:AT).map L3.D.str) (iF (av Qbq (av QbQ (av (c_ (c,t) QjZ Qx QhX (by dsimp only [eN];exact#[e,a]) rfl) bw))) aL)) (tL (by
   show 3+((c.bn.getD k.toNat Str.empty).length+((eG c.bn t).length+0))+3<=_;lia))) ?_
  show T.sh _=T.sh QmJ;rw[OV,T3]
 .have f:=qv e.bn a;refine az E.g Q2 Qev ?_;refine aN (bV QD aD).1 QlT (λhp=>aj ?_);refine az E.g Qag (m8 (t:=.sh (.str n)) (bV QD aD).1 Qme (λ_=>aB QbL rfl)) ?_;refine aG (kZ (l:=["say",n,eG c.bn t]) aD (aT (ds:=(["say",n,eG c.bn t]:AT).map L3.D.str) (iF (av Qbq (av QbQ (av (c_ (c,t) QjZ Qx QhX (by dsimp only [eN];exact#[e,a]) rfl) bw))) aL)) (tL (by
   show 3+(n.length+((eG c.bn t).length+0))+3<=_;lia))) ?_
  show T.sh _=T.sh QmJ;rw[OX,T3]
theorem Jt{b:Bx}(E:jP jc 4 2 X CL) :
  jM X CL b jc:=by
 rintro⟨c,w⟩ h;dsimp only [jc]at h ⊢;obtain⟨a,j⟩:=h;have a:t7 c:=a;have j:w∈c.ws:=j;have hw:=a.ww w j;obtain⟨s,r⟩:=aaw a j;have hsz:∀{n:Nat},n<=400000->n<=sizeLine:=λh=>by rw[fR];lia
 have hle:∀l:AT,((l.map L3.D.str).map T.sh).length=l.length:=λl=>by rw[eu,eu]
 refine az E.g Q2 (aI (iF (av bQ (av (aB (au QL (ak (aJ E.Wm Qx)) rfl) rfl) bw)) aL) (t2:=.lst ((([("on":Str),w.sg]:AT).map .str).map T.sh)) rfl) ?_;have q:∀{l:BC} {f:L3.D->Str},T.lst ((l.filter λ_=>true).map λd=>T.sh (.str (f d)))=T.lst (((l.map f).map .str).map T.sh):=λ{l f}=>by
  rw[cG,ey,ey];rfl
 refine EC (δ1:=[some Qdx,some Qgh,some (.lst (((([("on":Str),w.sg]:AT)).map L3.D.str).map T.sh))]) (Xo:=((uU "if" "and" Qcr).map L3.D.str).map T.sh) (tl:=((([("on":Str),w.sg]:AT)).map L3.D.str).map T.sh) (E.ll 2).1 rfl ?aiA rfl (by rw[hle,hle,k8,eu];show 2+_<=_;lia) ?aiB
 case aiA=>
  refine c_ (("if":Str),("and":Str),w.qs.map (mE c.bn c.ns)) (E.c 0) QE (ah aD (ah aD (ah ?ao6 ao))) (by dsimp only [kr];rw[List.length_map];lia) (gT _);refine aT (aI (gu (p:=λ_=>true) (g:=λd=>.sh QtY) Qf2 E.g.calm (uI (rQ Qb8 (ak (aJ E.Wn Qah)) rfl)) Qam (λC s0 v f0 t d hd=>?_) (hsz Wc)) (t2:=.lst (((w.qs.map (mE c.bn c.ns)).map .str).map T.sh)) q);exact#[rfl,λ_=>c_ (c,d) (m9 (E.c 2)) iY QhH (by dsimp only [jb];exact#[a,hw.g1 d hd]) rfl]
 case aiB=>
 rw[<- eE,<- eE];refine EC (δ1:=[some Qdx,some Qgh,some (.lst (((([("on":Str),w.sg]++uU "if" "and" Qcr:AT)).map L3.D.str).map T.sh))]) (Xo:=((uU "do" "then" Qeg).map L3.D.str).map T.sh) (tl:=((([("on":Str),w.sg]++uU "if" "and" Qcr:AT)).map L3.D.str).map T.sh) (E.ll 2).1 rfl ?aiC rfl (by rw[hle,hle,eP,k8,k8,eu,eu];show 2+_+_<=_;lia) ?mR
 case aiC=>
  refine c_ (("do":Str),("then":Str),w.ds.map (dQ c.bn)) (E.c 0) QE (ah aD (ah aD (ah ?ao7 ao))) (by dsimp only [kr];rw[List.length_map];lia) (gT _);refine aT (aI (gu (p:=λ_=>true) (g:=λd=>.sh QvT) Qf2 E.g.calm (uI (rQ Qb8 (ak (aJ E.MS Qao)) rfl)) Qam (λC s0 v f0 t d hd=>?_) (hsz Wc)) (t2:=.lst (((w.ds.map (dQ c.bn)).map .str).map T.sh)) q);exact#[rfl,λ_=>c_ (c,d) Qod iY QhH (by dsimp only [fj];exact#[a,hw.g2 d hd]) rfl]
 case mR=>
 rw[<- eE,<- eE];have i:JoinOk " " ([("on":Str),w.sg]++uU "if" "and" Qcr++uU "do" "then" Qeg++OY c.ns w++LN w)=true/\Txt.join " " ([("on":Str),w.sg]++uU "if" "and" Qcr++uU "do" "then" Qeg++OY c.ns w++LN w)=As c.bn c.ns w:=by
  have e:[("on":Str),w.sg]++uU "if" "and" Qcr++uU "do" "then" Qeg++OY c.ns w++LN w=("on":Str)::Xs c.bn c.ns w:=by
   unfold Xs;rw[fb,fb [("on":Str),w.sg]];rfl
  rw[e];exact#[Dn rfl Wc,qx _ _]
 have hlen:([("on":Str),w.sg]++uU "if" "and" Qcr++uU "do" "then" Qeg).length<=400002:=by
  rw[eP,eP,k8,k8,eu,eu];show 2+_+_<=_;lia
 generalize [("on":Str),w.sg]++uU "if" "and" Qcr++uU "do" "then" Qeg=W at i hlen ⊢;have k:=hw.tg;refine Er (λδ=>δ=[some Qdx,some Qgh,some (.lst (((W++OY c.ns w).map .str).map T.sh))])
  (iC Qry QaI).1 (λhp=>?_) (λhp=>?_) ?_
 .have hp:¬ w.tg=-1:=by
   rw[kq]at hp;exact fc hp
  have o:0<=w.tg/\w.tg<c.es.length:=by
   obtain⟨e,_⟩|⟨e,_⟩:=k
   .exact absurd e hp
   .exact e
  refine EC (E.ll 2).1 rfl (aI (iF (av bQ (av (aB (aH QcY Qry (gE Str.empty o.1 (by rw[a.nl];exact o.2))) rfl) bw)) aL) (t2:=.lst (((["to",c.ns.getD w.tg.toNat Str.empty]:AT).map .str).map T.sh)) rfl) rfl (by rw[hle,hle];show _+2<=_;lia) (aj ?_);rw[<- eE,<- eE,OY,cq hp]
  try rfl
 .have hp:w.tg=-1:=by
   rw[oB]at hp;exact eI hp
  refine aj ?_;rw[OY,dU hp,ft]
  try rfl
 rintro δ rfl;have m:(W++OY c.ns w).length<=400004:=by
  rw[eP];have e1:(OY c.ns w).length<=2:=by unfold OY;split<;>exact eL rfl
  lia
 generalize W++OY c.ns w=u at i m ⊢;refine Er (λδ=>δ=[some Qdx,some Qgh,some (.lst (((u++LN w).map .str).map T.sh))])
  (uH Qrz aD).1 (λhp=>?_) (λhp=>?_) ?_
 .have hp:¬ w.md="new":=by
   rw[kq]at hp;exact fc hp
  refine gA (E.ll 2).1 rfl (aB Qrz rfl) rfl (by rw[hle];lia) (aj ?_);rw[LN,cq hp,eE,eE]
  try rfl
 .have hp:w.md="new":=by
   rw[oB]at hp;exact eI hp
  refine aj ?_;rw[LN,dU hp,ft]
  try rfl
 rintro δ rfl;refine aG (kZ aD Qet i.1) ?_;rw[i.2]
theorem F0{b:Bx}(E:jP jw 5 3 X CL) :
  jM X CL b jw:=by
 intro c h;dsimp only [jw]at h ⊢;have a:t7 c:=h;have hle:∀l:AT,((l.map L3.D.str).map T.sh).length=l.length:=λl=>by rw[eu,eu]
 have e1:=a.e1;have il:=a.il;have ol:=a.ol;have N:∀{l:BC} {f:L3.D->Str},T.lst ((l.filter λ_=>true).map λd=>T.sh (.str (f d)))=fq QbD:=λ{l f}=>by
  rw[cG,fq,ey,ey];rfl
 refine az E.g Qai QaT ?_;refine oS E.g Qk1 (λj δ=>∃r o n k,δ=[some Qdx,some (.lst ((List.range j).map λm=>fq (E6 c m))),r,o,n,k])
  (ad2 E.US (nh E.aY E.lq QaF uP) (nh E.aY E.jV QaF rX) Qx (by rw[eu,eu,il,ol])) #[_,_,_,_,rfl]
  (λj δ ⟨_,_,_,_,e⟩=>by subst e;intro i hi;simp only[ew,fo,hx]at hi;obtain rfl|rfl:=hi<;>exact eL rfl) ?turn ?fin
 case turn=>
  rintro j d δ t ⟨r,o,n,k,rfl⟩;obtain⟨x,y,v,u,rfl⟩:=zip_get t;rw[fT]at v u;cases ex:c.is[j]? with
  | none=>rw[ex]at v;cases v
  | some p=>
   cases H:c.os[j]? with
   | none=>rw[H]at u;cases u
   | some q=>
    rw[ex]at v;rw[H]at u;cases fO v;cases fO u;have U:j<c.es.length:=by have:=(hR.1 ex).1;lia
    have hp:=a.ii p (gc ex);have M:=a.oo q (gc H);have B:E6 c j=p.map (λd=>"in " ++ dQ c.bn d)++q.map λd=>"out " ++ dQ c.bn d:=by
     unfold E6;rw[e5,e5,ex,H];rfl
    have hpl:p.length+q.length<=400000:=by
     have:=Dp a U;unfold qK at this;rw[eP,B,eP,eu,eu]at this;lia
    refine#[_,rfl,?_];refine rV (p:=λ_=>true) (gg:=λd=>.sh (.str ("in " ++ dQ c.bn d))) E.g Qau Qf2 (uI Qbq) Qam (λC s0 S f0 P d hd=>#[rfl,λ_=>fB aD (ak (c_ (c,d) Qod iY QhH (by dsimp only [fj];exact#[a,hp d hd]) rfl)) (by rw[sizeLine_eq];have:=E5 a.bn (hp d hd);show 3+(dQ c.bn d).length<=_;lia)]) (by rw[sizeLine_eq];lia) ?rst (by exact Nat.le_of_ble_eq_true rfl) Qbr
    case rst=>
    rw[N];refine EC (E.ll 4).1 rfl (aI (gu (p:=λ_=>true) (g:=λd=>.sh (.str ("out " ++ dQ c.bn d))) Qf2 E.g.calm (uI QbQ) Qam (λC s0 S f0 P d hd=>#[rfl,λ_=>fB aD (ak (c_ (c,d) Qod iY QhH (by dsimp only [fj];exact#[a,M d hd]) rfl)) (by rw[sizeLine_eq];have:=E5 a.bn (M d hd);show 4+(dQ c.bn d).length<=_;lia)]) (by rw[sizeLine_eq];lia)) (t2:=fq (q.map λd=>"out " ++ dQ c.bn d)) N) rfl (by rw[hle,hle,List.length_map,List.length_map];lia) ?_;rw[<- eE,<- eE,<- B];refine gA (E.ll 1).1 rfl (aI Qny (t2:=fq (E6 c j)) rfl) rfl (by rw[eu,gz];lia) (aj ?_);show ∃r o n k,_=[_,some (T.lst ((List.range QaH).map λm=>fq (E6 c m))),r,o,n,k];rw[lb,eE];exact#[_,_,_,_,rfl]
 case fin=>
 rintro δ ⟨r,o,n,k,rfl⟩;have J:(Cp QuV QuW).length=c.es.length:=by
  rw[Cp,eu,List.length_zip,eu,eu,il,ol,Nat.min_self]
 rw[J];refine gB E.g Qav (λj δ=>∃r o n k,δ=[some Qdx,some (.lst ((List.range c.es.length).map λm=>fq Qmf)),r,o,n,k])
  (ck QlN) ?base (by rintro j δ ⟨_,_,_,_,rfl⟩;exact eL rfl) ?F2 ?fin2
 case base=>
  show ∃r o n k,_=[_,some (T.lst ((List.range c.es.length).map λm=>fq Qyd)),r,o,n,k];rw[show(λm=>fq Qyd)=λm=>fq (E6 c m) from funext λm=>by rw[show ju c QtM m=[] from rfl,ft]];exact#[_,_,_,_,rfl]
 case F2=>
  rintro j d δ t ⟨r,o,n,k,rfl⟩;rw[fT]at t;cases I:c.ws[j]? with
  | none=>rw[I]at t;cases t
  | some w=>
   rw[I]at t;cases fO t;have O:=gc I;have hw:=a.ww w O;obtain⟨s0,s1⟩:=hw.sr;obtain⟨s,L⟩:∃s:Nat,w.src=(s:Int):=#[w.src.toNat,Wc];have A:s<c.es.length:=by lia
   have R:(ju c Qid s).length<=400000:=by
    have:=a.wl;unfold ju;rw[eu];exact fg QsO (by rw[hM];lia)
   have G:=Dp a A;unfold qK at G;rw[eP]at G;have F:((List.range c.es.length).map λm=>fq Qmf)[s]? = some (fq (E6 c s++ju c Qid s)):=by
    rw[fT,hW A];rfl
   refine SK s (E.ll 1).1 (yp (au QaW (ak (aJ E.ug QE)) (d:=.int w.src) rfl) (by rw[L])) rfl F (c_ (c,w) (E.c 4) Qah (ah Qb (ah QaW ao)) (by dsimp only [jc];exact#[a,O]) rfl) rfl F (by rw[hle,List.length_append];lia) (aj ?_);show ∃r o n k,_=[_,some (T.lst ((List.range c.es.length).map λm=>fq (E6 c m++ju c (c.ws.take QaH) m))),r,o,n,k];rw[mC I,aax];have K:(λm=>fq (E6 c m++ju c (c.ws.take j++[w]) m))=λm=>if m=s then T.lst (((E6 c s++ju c Qid s).map L3.D.str).map T.sh++[T.sh QtZ]) else fq Qmf:=funext λm=>by
    rw[Jg,L];by_cases e:m=s
    .subst e;rw[dU rfl,dU rfl,<- fb,fq,eE,eE];rfl
    .rw[cq e,cq (λz=>e Wc),ft]
   rw[K];exact#[_,_,_,_,rfl]
 case fin2=>
 rintro δ ⟨r,o,n,k,rfl⟩;refine aG Qcx ?_;rw[eu,hZ];rfl
theorem aaJ{b:Bx}(E:jP t8 6 0 X CL) :
  jM X CL b t8:=by
 rintro⟨ks,es,ss,m⟩ h;obtain⟨c,h0,h1,hlen⟩:=h;apply az E.g Q2 QaT;apply az E.g Qag (aB (aH Qcs QL (gC h0 h1)) rfl);have hm:=c.at h0 h1;apply Cd E.g (λn δ=>∃(k:Int) (l:BA),δ=[some _,some _,some Qsh,some QpE] /\ -1<=k/\k<n/\k<es.length/\l++uN n es k=b8 es m/\l.length+n<=es.length+1) QeB
  #[ _,[],rfl,hm.1,Wc,Wc,rfl,W2]
 rintro n δ ⟨k,l,rfl,k0,k1,k2,k3,f⟩;refine#[_,_,(iC QU QaI).1,λhp=>?_,λhp=>?_]
 .have a:=by simpa using hp
  have d:=c.at Wc k2;cases n with
  | zero=>lia
  | succ n=>
   apply gA (E.ll 2).1 rfl QbQ rfl WF;apply az E.g Qag (aB (aH Qcs QU (gC Wc k2)) rfl);refine aj #[n,mi _,_,l++[k],?_,d.1,Wc,Wc,?_,WF]
   .simp
   .rw[<- k3,uN,cq a,fb];rfl
 .have a:=by simpa using hp
  subst a;have e:l=b8 es m:=by
   rw[<- k3];cases n with
   | zero=>rw[uN,ft]
   | succ n=>rw[uN,dU rfl,ft]
  subst e;exact aG QiV rfl
def aaK{b:Bx}(E:jP qB 7 1 X CL) :
  jM X CL b qB:=by
 rintro⟨ks,es,ss,m⟩ h;have a:((b8 es m).map L3.D.int).length=(b8 es m).length:=by simp
 exact aG (aP a E.bN (aT (c_ (ks,es,ss,m) (E.c 6) QE Qnz h (vQ _))) Qx) rfl
theorem F3{b:Bx}(E:jP g9 8 0 X CL) :
  jM X CL b g9:=by
 rintro⟨c,m⟩ h;dsimp only [g9]at h ⊢;obtain⟨a,hm⟩:=h;have m0:(0:Int)<=m:=by lia
 have mk:(m:Int)<c.ks.length:=by rw[a.kl];lia
 have d:(m:Int)<c.ns.length:=by rw[a.nl];lia
 have ms:(m:Int)<c.ss.length:=by rw[a.sl];lia
 have em:(m:Int).toNat=m:=i4 m;have i:(c.ks.getD m Str.empty).length<=21:=pD (λx e=>fg (a.kk x e) Wp) m;have hn:=pD a.nk m;refine az E.g Q2 (aI (aB (aH (bL E.dZ E.iP QkI nI) QL (gE Str.empty m0 mk)) rfl) (t2:=.sh (.str Qc5)) (by rw[em])) ?_;refine az E.g Qag (aI (iF (av Qbq (av (aB (aH QcY QL (gE Str.empty m0 d)) rfl) bw)) aL) (t2:=.lst ((([c.ks.getD m Str.empty,c.ns.getD m Str.empty]:AT).map .str).map T.sh)) (by rw[em];rfl)) ?_;refine aN (bV QD aD).1 (λhp=>?_) (λhp=>aj ?_)
 .have hp:c.ks.getD m Str.empty="one":=eI hp;obtain⟨s0,s1⟩:=a.one m hm hp;have f:=pD a.nk (c.ss.getD m 0).toNat;refine gA (E.ll 3).1 rfl (aB (aH QcY (yp (aH (bL E.dZ E.jm QkI oX) QL (gC m0 ms)) (d2:=.int QfS) (by rw[em])) (gE Str.empty s0 (by rw[a.nl];exact s1))) rfl) rfl Qbj (aj ?_);refine aG (kZ (l:=[c.ks.getD m Str.empty,c.ns.getD m Str.empty,c.ns.getD (c.ss.getD m 0).toNat Str.empty]) aD Qes (tL (by
   show(c.ks.getD m Str.empty).length+((c.ns.getD m Str.empty).length+((c.ns.getD (c.ss.getD m 0).toNat Str.empty).length+0))+3<=_;lia))) ?_
  show T.sh _=T.sh Qnx;rw[qx,Uk,dU hp]
 .have hp:¬ c.ks.getD m Str.empty="one":=fc hp;refine aG (kZ (l:=[c.ks.getD m Str.empty,c.ns.getD m Str.empty]) aD Qes (tL (by
   show(c.ks.getD m Str.empty).length+((c.ns.getD m Str.empty).length+0)+2<=_;lia))) ?_
  show T.sh _=T.sh Qnx;rw[qx,Uk,cq hp]
theorem aaL{b:Bx}(E:jP t9 9 4 X CL) :
  jM X CL b t9:=by
 intro c h;dsimp only [t9]at h ⊢;have k:t7 c:=h;have e1:=k.e1;have B:c.bs.length<=400000:=by
  have a:=xR (kh c 0);have d:=Je k (fv _);have e:(kh c 0).length=c.bs.length:=by
   unfold kh;rw[List.range_zero,si,ft,eu]
  lia
 have hle:∀l:AT,((l.map L3.D.str).map T.sh).length=l.length:=λl=>by rw[eu,eu]
 refine Sf (parts:=part2) (p:=λ_=>true) (g:=λd=>.sh Qr4) E.g Qai (YH (xs:=["name","first"]) .nil Wl)
  (Bd (ck (nh E.aY E.dI QaF f9))) Qam (λC s0 K f0 H=>#[kX (by show List.Nodup (["name","first"]:AT);decide +kernel) E.g.calm (Cj rfl Wl) (Cj rfl Wl),λd hd=>?zA]) (by rw[eu,fR];lia) ?mR (by exact eL rfl) Qbr
 case zA=>
  obtain⟨p,hp,rfl⟩:=eJ.1 hd;obtain⟨b1,b2⟩:=k.bk p hp;have b3:=kg b2;have s:("box ":Str).length=4:=rfl;have es:(" ":Str).length=1:=rfl;have hz:∀{x:Str},x.length<=1000->x.length<=sizeLine:=λh=>by rw[fR];lia
  refine#[_,rfl,rfl,rfl,λ_=>aI (Oe (xq aD (xq (ak (YY (eU 0) QdM)) (xq aD (xq (ak (YZ (eU 1) (Ue b2))) (ad3 (hz ?_)) (hz ?_)) (hz ?_)) (hz ?_)) (hz ?_))) ?_]
  all_goals try (rw[Str.empty_append])
  .rw[str_len,str_len,str_len,s,es];show 4+_+1+(sI p.2).length<=_;lia
  .rw[str_len,str_len,str_len,s,es];show 4+_+1+(sI p.2).length<=_;lia
  .rw[str_len,str_len,s,es];lia
  .rw[str_len,s];lia
  .rw[s];decide
  .rfl
 case mR=>
 have eq1:T.lst (((c.bs.map oZ).filter λ_=>true).map λd=>T.sh Qr4)=fq (kh c 0):=by
  rw[cG,ey];unfold fq kh;rw[List.range_zero,si,ft,ey,ey];rfl
 rw[eq1];have u:(List.range c.es.length).length=c.es.length:=gz;refine oS E.g Qk1 (λj δ=>∃r q o,δ=[some Qdx,some (fq (kh c j)),r,q,o])
  (mj (f:=λm=>L3.D.lst ((qK c m).map .str)) (l:=List.range c.es.length) 0 E.ia (fU (c_ c (E.c 5) QE Qbt k (Jh c _)) (V1 c _)) Qx) #[_,_,_,rfl]
  (λj δ ⟨_,_,_,e⟩=>by subst e;intro i hi;simp only[ew,fo,hx]at hi;obtain rfl|rfl:=hi<;>exact eL rfl) ?turn ?fin
 case turn=>
  rintro j d δ z ⟨r,q,o,rfl⟩;obtain⟨i,rfl,hi,L,n,_,_⟩:=uK z;have F:i=j:=by
   rw[List.getElem?_range (by simpa using (List.getElem?_eq_some_iff.1 hi).1)]at hi;exact(fO hi).symm
  subst F;have n:i<c.es.length:=by
   have:=g4.1 L
   rwa [u]at this
  have G:(List.range c.es.length).getD i 0=i:=by
   rw[e5,hW n];rfl
  refine#[_,rfl,?_];rw[G];have y:=fg (xR (kh c i)) (Je k (hS n));have J:=Dp k n;have A:=Xx k n;have I:(b8 c.es i).length<=c.es.length+1:=ql _ _ _;refine az E.g Qau (aI (YX aD (ak (c_ (c.ks,c.es,c.ss,(i:Int)) (E.c 7) Qah (ah QkI Qhg) (by dsimp only [qB];exact#[k.tr,Wc,Wc,Wc]) rfl)) (aeO Wc)) (t2:=.sh (.str (Au c i))) rfl) ?_;refine gA (E.ll 1).1 rfl (fB Qak (ak (c_ (c,i) (E.c 8) Qao Qxe (by dsimp only [g9];exact#[k,n]) rfl)) (by rw[sizeLine_eq];show(Au c i).length+(Uk c i).length<=_;lia)) rfl (by rw[hle];lia) ?_;refine EC (E.ll 1).1 rfl (aI (gu (p:=λ_=>true) (g:=λd=>.sh (.str (Au c i++" " ++ d.toS))) (bu (.cons (E.ll 4).1 Qd2 .nil) Wl) E.g.calm (ck QbQ) Qam (λC s0 K f0 H d hd=>?zB) (by rw[eu,fR];lia)) (t2:=fq ((qK c i).map λt=>Au c i++" " ++ t)) ?eq2) rfl (by rw[eP,hle,hle,eu,hH];lia) ?pU
  case zB=>
   obtain⟨t,w,rfl⟩:=eJ.1 hd;have v:=MK k n w;have es:(" ":Str).length=1:=rfl;exact#[rfl,λ_=>aI (fB (ak (fB (oV 1) aD (by rw[fR,es];lia))) (eU 0) (by rw[fR,str_len,es];lia)) (by rfl)]
  case eq2=>
   rw[cG,fq,ey,ey,ey];rfl
  case pU=>
  refine aj ?_;show ∃r q o,_=[_,some (T.lst (((kh c Q3).map L3.D.str).map T.sh)),r,q,o];rw[<- Ji c i];exact#[_,_,_,rfl]
 case fin=>
  rintro δ ⟨r,q,o,rfl⟩;have e:((List.range (List.range c.es.length).length).map λ(i:Nat)=>L3.D.tup [.int i,(λm=>L3.D.lst ((qK c m).map .str)) ((List.range c.es.length).getD i 0)]).length=c.es.length:=by
   rw[eu,gz,gz]
  rw[e];exact aG (kZ (l:=kh c c.es.length) aD QnA (Dn rfl (fg k.tl Wp))) rfl
def F4{b:Bx}(E:EX pK (gN jx) (cN jx) 10 0 X CL)(ks:AT)(es ss:BA)(y:Addr)(h:True) :
  cK X CL b (bW jx) (R5 pK y "Tree" [.lst QcA,.lst Qbz,.lst QcB]) {nx:=λδ=>δ[0]? = some (some (.pin y Qll)),rt:=λ_ _=>False}:=by
 have hi:D.bC QvV=true:=cR Qal _;refine nB E.dZ E.iP (E.ll 0).1 (di E.gJ QL hi Qx b7).m rfl Qbj ?_;exact nB E.dZ E.cz (E.ll 0).1 (di E.gJ QD (ez _) Qx b7).m rfl Qbj (nB E.dZ E.jm (E.ll 0).1 (di E.gJ QU (ez _) Qx b7).m rfl Qbj (aj rfl))
def uo:d9 pK ["self","kinds","elders","starts"] (aE jx):=xo
def Dz{b:Bx}(E:EX nL (gN iN) (cN iN) 10 0 X CL)(bs nm:BC)(tv:V)(is os ws:BC)(y:Addr)(h:D.bC bs=true/\D.bC nm=true/\D.bC is=true/\D.bC os=true/\D.bC ws=true) :
  cK X CL b (bW iN) (R5 nL y "Chart" [.lst bs,.lst nm,.val tv,.lst is,.lst os,.lst ws]) {nx:=λδ=>δ[0]? = some (some (.pin y (.ins "Chart" (lH bs nm Qw9 is os ws)))),rt:=λ_ _=>False}:=by
 obtain⟨h1,h2,d,c,a⟩:=h;refine nB E.aY E.dI (E.ll 0).1 (di E.gJ QL h1 Qx b7).m rfl Qbj ?_;refine nB E.aY E.bT (E.ll 0).1 (di E.gJ QD h2 Qx b7).m rfl Qbj ?_;refine nB E.aY E.gw (E.ll 0).1 (v_ (E.ll 3).1).m rfl Qbj ?_;refine nB E.aY E.lq (E.ll 0).1 (di E.gJ Qak d Qx b7).m rfl Qbj ?_;exact nB E.aY E.jV (E.ll 0).1 (di E.gJ QaW c Qx b7).m rfl Qbj (nB E.aY E.jU (E.ll 0).1 (di E.gJ Qju a Qx b7).m rfl Qbj (aj rfl))
def qW:d9 nL ["self","boxes","names","tree","ins","outs","ways"] (aE iN):=xo
def Ju{b:Bx}(E:jP ku 12 2 X CL) :
  jM X CL b ku:=by
 rintro⟨bs,ns,ks,es,ss,is,os,ws⟩ h;obtain⟨d,ii,io,a⟩:=h;exact az E.g Qai (aI (mk_ (ks,es,ss) (E.c 10) Qx (ah Qrh (ah Qri (ah Qri ao))) trivial (oY ks es ss)) rfl) (aG (Hn (λv=>(bs,ns.map .str,v,is,os,ws)) (E.c 11) Qah
  (sW (aT (di E.gJ Qed d QE b7)) (sW Qrh
   (EE Qcx
    (ah (aT (di E.gJ Qed ii QE b7)) (ah (aT (di E.gJ Qed io QE b7)) (ah (aT (di E.gJ Qed a QE b7)) ao))))))
  (λv=>rfl) (λv=>#[d,cu _,ii,io,a]) Qvs (tD d (cu _)) (tE ii io a)) rfl)
def Px{b:Bx}(E:jP qD 13 0 X CL) :
  jM X CL b qD:=by
 rintro⟨ns,j⟩ h;refine aN (El QL (ak (K1 E.bN Qb Qx))).1 (λhp=>?_) (λhp=>?_)
 .have e:=by simpa using of_decide_eq_true hp
  apply aG (aB (aH Qb QL (gC h e)) rfl);show T.sh _=T.sh _;rw[eY,dU e]
 .have e:¬ j<ns.length:=by simpa using of_decide_eq_false hp
  refine aj (aG uG ?_);show T.sh _=T.sh _;rw[eY,cq e]
theorem aaM{b:Bx}(E:jP xS 14 0 X CL) :
  jM X CL b xS:=by
 rintro⟨es,m⟩ h;obtain⟨c,h0,h1,hlen⟩:=h;apply az E.g Q2 QaT;apply az E.g Qag (aB (aH Qb QL (gC h0 h1)) rfl);have hm:=c.at h0 h1;apply Cd E.g (λn δ=>∃(k:Int) (l:BA),δ=[some _,some _,some Qsh,some QpE] /\ -1<=k/\k<n/\k<es.length/\l++uN n es k=b8 es m/\l.length+n<=es.length+1) QeB
  #[ _,[],rfl,hm.1,Wc,Wc,rfl,W2]
 rintro n δ ⟨k,l,rfl,k0,k1,k2,k3,f⟩;refine#[_,_,(iC QU QaI).1,λhp=>?_,λhp=>?_]
 .have a:=by simpa using hp
  have d:=c.at Wc k2;cases n with
  | zero=>lia
  | succ n=>
   apply gA (E.ll 2).1 rfl QbQ rfl WF;apply az E.g Qag (aB (aH Qb QU (gC Wc k2)) rfl);refine aj #[n,mi _,_,l++[k],?_,d.1,Wc,Wc,?_,WF]
   .simp
   .rw[<- k3,uN,cq a,fb];rfl
 .have a:=by simpa using hp
  subst a;have e:l=b8 es m:=by
   rw[<- k3];cases n with
   | zero=>rw[uN,ft]
   | succ n=>rw[uN,dU rfl,ft]
  subst e;exact aG QiV rfl
theorem F5{b:Bx}(E:jP jy 15 1 X CL) :
  jM X CL b jy:=by
 intro l h;dsimp [jy]at h ⊢;apply az E.g Qai (cQ (bF Qd7 cj) aL);refine gB E.g Q2 (λj δ=>∃m i f,δ=[some _,some (.lst ((((l.take j).foldl mD [-1]).map .int).map T.sh)),m,i,f])
  (ck QaF) #[_,_,_,rfl] (by rintro j δ ⟨_,_,_,rfl⟩;exact eL rfl) ?turn ?fin
 case turn=>
  rintro j d δ u ⟨m,i,f,rfl⟩;obtain⟨p,hp,rfl⟩:=Lx u;obtain⟨o,r⟩:=CM _ [-1] tH (mi 0);have hm:=qm QoP;have x:(l.take j).length<=l.length:=by rw[hM];lia
  rw[hH]at r;show cK X CL b _ _ _;rw[mC hp,i5];generalize (l.take j).foldl mD [-1]=es at o r ⊢;show cK X CL b _ _ {nx:=λδ=>∃m i f,δ=[_,some (.lst (((mD es p).map .int).map T.sh)),m,i,f],rt:=_,bk:=_,ct:=_};refine aN (El (ak (bK Qxf ai Wp)) ai).1 (λa=>?_) (λa=>?_)
  .have a:=eI a;obtain⟨k,q⟩:∃k:Nat,es.length=k+1:=#[es.length-1,Wc];obtain⟨t,s,y⟩:=pe o q.symm;apply az E.g Qag (aI (j5 (ak (aP (eu ..) E.bN QnA Qx)) ai) (t2:=.sh QeK) (by rw[q];lia));have v:(b8 es k).length<=es.length+1:=ql _ _ _;apply az E.g Qau (gQ (aT (ds:=[.int _]) (cQ (bF QbQ cj) aL))
    (aT (c_ (es,(k:Int)) (E.c 14) QE (ah QnA Qhb) (#[o,Wc,Wc,Wc]) (i7 _))) rfl (ez _) (hS (bR (by rw[eu,hH];lia))))
   have w:([L3.D.int k]++(b8 es k).map _)=([(k:Int)]++b8 es k).map _:=rfl;rw[w];refine Er (λδ=>δ=[some Qx6,some (.lst ((es.map .int).map T.sh)),some (.sh (Xq p)),some QpE,some (.lst (((cy es k).map .int).map T.sh))])
    (qP (ak (aP (eu ..) E.bN Qcv Qx)) ai).1 (λhp=>?_) (λhp=>?_) ?_
   .have e:=eI hp;refine az E.g Qau (dz Qcv (ez _) QbV cH) (aj ?_);rw[Eu];unfold cy;rw[dU e];rfl
   .have e:=fc hp;apply aj;unfold cy;rw[cq e];rfl
   rintro δ rfl;have n:((es.map L3.D.int).map T.sh)++[T.sh (.int ((cy es k).getD (p.1 / 8 % ((cy es k).length)).toNat 0))]=((mD es p).map L3.D.int).map T.sh:=by
    unfold mD;rw[dU a,q,eE,eE];rfl
   generalize cy es k=rs at t s n ⊢;have b1:=hF Qgf (b:=rs.length) Wc;have b2:=hI Qgf (b:=rs.length) Wc;refine gA (E.ll 1).1 rfl (aB (aH Qcv (ak (bK (ak (dG Qxf ai #[Wp,Wp])) (ak (aP (eu ..) E.bN Qcv Qx)) Wc)) (gC b1 b2)) rfl) rfl (by rw[eu,eu];lia) (aj (aj ?_));rw[n];exact#[_,_,_,rfl]
  .have a:=fc a;rw[mD,cq a];exact aj (aj #[_,_,_,rfl])
 case fin=>
  rintro δ ⟨m,i,f,rfl⟩;apply aG Qcx;rw[eu,hZ];rfl
theorem Py{b:Bx}(E:jP j0 16 0 X CL) :
  jM X CL b j0:=by
 rintro⟨m,us⟩ h;dsimp only [j0]at h ⊢;obtain⟨h0,h1,h2⟩:=h;have a:wA.length=36:=by decide +kernel
 refine az E.g Q2 bQ ?_;refine az E.g Qag (Sn (l:=rr) aD aD Wl (by rw[fR];decide +kernel) Wl aL) ?_;refine gB E.g Qau (λj δ=>(∃o k f,δ=[some _,some _,some _,some _,o,k,f])/\∀i,i<j->Xr m us i=false)
  (lX E.lu (ak (cW (ak (aP (eu ..) E.bN QL QE)) ai)) Wc Qx) #[#[_,_,_,rfl],λi hi=>absurd hi (Nat.not_lt_zero _)] (λj δ ⟨⟨_,_,_,e⟩,_⟩=>by subst e;exact eL rfl) ?turn ?fin
 case turn=>
  rintro j d δ u ⟨⟨o,k,f,rfl⟩,c⟩;obtain⟨rfl,v⟩:=oO u;rw[Int.zero_add];have b1:=hF QdN (show(26:Int)≠0 by decide);refine az E.g Qav (aI (yh QD (ak (bK QuX ai Wp)) (by rw[fR];decide +kernel) (by rw[Tw];exact ym 0 b1 (by rw[a];lia))) rfl) ?_;refine az E.g QbT (dG QuX ai #[Wp,Wp]) ?_;refine Cd E.g (λn δ=>∃(r:Int) (x:Str),δ=[some _,some _,some _,some _,some _,some QbB,some Qeu]/\0<=r/\r<36 ^ n/\x.length+n<=21/\OO n r x=tF QdN) 20
   #[_,_,rfl,Wc,Wc,eA _,rfl] ?_
  rintro n δ ⟨r,x,rfl,t,s,w,p⟩;refine#[_,_,(qP Qju ai).1,λhp=>?_,λhp=>?_]
  .have hp:0<r:=eI hp;cases n with
   | zero=>
    lia
   | succ n=>
    have c1:=hF r (show(36:Int)≠0 by decide);refine az E.g Qav (fB QaW (ak (aI (yh QD (ak (bK Qju ai Wp)) (by rw[fR];decide +kernel) (by rw[Tw];exact ym 0 c1 (by rw[a];lia))) rfl)) (by rw[fR];show x.length+1<=_;lia)) ?_;refine az E.g QbT (dG Qju ai #[Wp,Wp]) ?_;refine aj #[n,mi _,r / 36,x++yQ (r % 36),rfl,Int.ediv_nonneg t Wp,Int.ediv_lt_of_lt_mul Wp (by exact s),?_,?_]
    .rw[str_len];show x.length+1+n<=21;lia
    .rw[<- p,OO,dU hp]
  .have hp:¬ 0<r:=fc hp;rw[Zx n x hp]at p;subst p;refine aN (iz (fC (sU QaW QL rfl rfl).1 (λhb=>(iD (sU QaW Qes rfl rfl).1)))) (λq=>?_) (λq=>aj (aj #[#[_,_,_,rfl],λi hi=>?_]))
   .refine aG QnB ?_;rw[TV v c q]
   .obtain h|rfl:=Nat.lt_succ_iff_lt_or_eq.1 hi
    .exact c i h
    .exact q
 case fin=>
  rintro δ ⟨⟨o,k,f,rfl⟩,c⟩;refine aG bQ ?_;have e:(cX 0 ((us.length:Int)+20).toNat).length=us.length+20:=by
   rw[cX,eu,gz];lia
  rw[e]at c;rw[TX c]
theorem Jv{b:Bx}(E:jP kB 17 1 X CL) :
  jM X CL b kB:=by
 rintro⟨s,n⟩ h;dsimp only [kB]at h ⊢;have e0:=hF (eY s 1) (show(5:Int)≠0 by decide);have e1:=hI (eY s 1) (show(0:Int)<5 by decide);have i:=hF (eY s 0) (show(26*36 ^ (10:Int).toNat:Int)≠0 by decide +kernel);have b1:=hI (eY s 0) (show(0:Int)<26*36 ^ (10:Int).toNat by decide +kernel);have b2:(26*36 ^ (10:Int).toNat:Int)<=100000000000000000:=by decide +kernel
 have st:=EY s;refine az E.g Q2 (bK (ak (c_ ((s,0)) QcO Qx Qig (show(0:Int)<=0 by lia) rfl)) (ak (m7 ai (ak (B9 ai ai #[Wp,Wp,Wp])) (.inl #[Wp,Wp]))) Wl) ?_;refine az E.g Qag (aI (aB (aH (ds:=([1,26,936,33696,1213056]:BA).map .int) (aT (iF (YQ) aL)) (ak (bK (ak (c_ ((s,1)) QcO Qx Qig (show(0:Int)<=1 by lia) rfl)) ai Wp)) (gC (bs:=[1,26,936,33696,1213056]) e0 e1)) rfl) (t2:=.sh (.int (Bo s))) rfl) ?_;unfold B5;generalize eY s 0 % (26*36 ^ (10:Int).toNat)=c at i b1 ⊢;generalize Bo s=sp at st ⊢;refine az E.g Qau QaT ?_;refine gB E.g Qav (λj δ=>∃o,δ=[some (.sh (.lst Qoc)),some (.sh QcL),some (.sh (.int c)),some (.sh (.int sp)),some (.lst (((qI c sp j).map .str).map T.sh)),o])
  (lX E.lu QL Wc QE) #[_,rfl] (by rintro j δ ⟨_,rfl⟩;exact eL rfl) ?turn ?fin
 case turn=>
  rintro j d δ f ⟨o,rfl⟩;obtain⟨rfl,l⟩:=oO f;rw[Int.zero_add];have a:=tG c sp j;have k:0<=(j:Int)*sp/\(j:Int)*sp<=1000*1213056:=#[Int.mul_nonneg Wc st.1,Int.mul_le_mul Wc st.2 st.1 Wp];have en:((qI c sp j).map L3.D.str).map T.sh++[T.sh Qr5]=((qI c sp QaH).map L3.D.str).map T.sh:=by
   rw[qI,eE,eE];rfl
  refine gA (E.ll 4).1 rfl (aI (c_ ((c+j*sp,qI c sp j)) (E.c 16) Qah (ah (ak (cW QD (ak (m7 QaW QU (.inl #[Wc,Wc]))))) (ah Qcv ao)) (by dsimp only [j0];exact(#[Wc,Wc,Wc])) rfl) (t2:=.sh Qr5) rfl) rfl (by rw[List.length_map,List.length_map];lia) (aj ?_);rw[en];exact#[_,rfl]
 case fin=>
  rintro δ ⟨o,rfl⟩;have e:(cX 0 (n:Int).toNat).length=n:=by
   rw[cX,eu,gz];lia
  rw[e];exact aG Qny rfl
theorem Jw{b:Bx}(E:jP kC 18 0 X CL) :
  jM X CL b kC:=by
 rintro⟨es,cs⟩ h;obtain⟨q,r⟩:=h;refine az E.g Q2 QaT ?_;refine az E.g Qag QaT ?_;refine gB E.g Qau (λj δ=>∃k f c,δ=[some _,some _,some (.lst (((fG es cs j).map .str).map T.sh)),some Qq6,k,f,c])
  (lX E.lu (ak (aP (eu ..) E.bN Qb QE)) Wc Qx) #[_,_,_,rfl] (by rintro j δ ⟨_,_,_,rfl⟩;exact eL rfl) ?turn ?fin
 case turn=>
  rintro j d δ l ⟨k,f,c,rfl⟩;obtain⟨rfl,n⟩:=oO l;have n:j<es.length:=by lia
  rw[Int.zero_add];have kl:=yW es cs j;have sl:=yX es cs j;refine rV (p:=λd=>decide QlQ) (gg:=T.sh) E.g Qav (bu (.cons (E.ll 0).1 Qd2 (.cons (E.ll 4).1 QiQ .nil)) Wl)
   (lX E.lu (ak (aP (eu ..) E.bN Qb QE)) Wc Qx) Qam (λC s0 t f0 s d hd=>?Au) (hS (bR (by simp[cX];lia))) ?rest Qbj Qbr
  case Au=>
   obtain⟨i,hi,rfl⟩:=eJ.1 hd;have m:=by simpa using hi
   exact#[(bH (aH (oV 1) (eU 0) (gC (show(0:Int)<=0+i by lia) (show 0+(i:Int)<es.length by lia))) (oV 2)).1,λ_=>v_ (An 0)]
  case rest=>
  have eq:((cX 0 (es.length:Int).toNat).filter λd=>decide QlQ).map (T.sh)=((uO es j).map .int).map T.sh:=by
   unfold cX uO;rw[tf,ey,ey,ey];have e1:((λd=>decide QlQ)∘λi:Nat=>L3.D.int (0+i))=λi:Nat=>decide (es.getD i 0=j):=by
    funext i;show decide (es.getD (0+(i:Int)).toNat 0=j)=_;rw[Int.zero_add,i4]
   rw[e1];congr 1;funext i;show T.sh QbU=T.sh _;rw[Int.zero_add]
  rw[eq];refine az E.g QbT Qd7 ?_;refine Er (λδ=>δ=[some (.sh (.lst Qbz)),some (.sh (.lst (cs.map .int))),some (.lst (((fG es cs QaH).map .str).map T.sh)),some Qq6,some (.sh (.int j)),some (.lst (((uO es j).map .int).map T.sh)),some (.sh (.int (nY es cs j)))])
   (R3 E.u Qdd (aT QaT) (yR _) (yR [])).1 (λhp=>?_) (λhp=>?_) ?_
  .have hz:=eI ((Sh _ []).symm.trans hp);refine gA (E.ll 2).1 rfl bQ rfl (by rw[eu,eu];lia) (aj ?_);rw[pA es cs j (by rw[kindB,dU hz])];rw[show nY es cs j=-1 by rw[nY,dU hz]];rfl
  .have hz:¬ uO es j=[]:=λz=>by
    rw[z]at hp;exact absurd hp Wp
   have o:=iU.2 hz;refine Er (λδ=>δ=[some _,some _,some _,some _,some _,some _,some _])
    (bH (ak (bK Qwv ai Wp)) ai).1 (λa=>?_) (λa=>?_) (λδ e=>aj e)
   .have a:=eI a;rw[i4]at a;refine gA (E.ll 2).1 rfl bQ rfl (by rw[eu,eu];lia) (aj ?_);rw[pA es cs j (by rw[kindB,cq hz,dU a])];rw[show nY es cs j=-1 by rw[nY,cq hz,dU a]];rfl
   .have a:=fc a;rw[i4]at a;have b1:=hF QsP (b:=((uO es j).length:Nat)) Wc;have b2:=hI QsP (b:=((uO es j).length:Nat)) Wc;refine gA (E.ll 2).1 rfl bQ rfl (by rw[eu,eu];lia) ?_;refine az E.g QbT (aB (aH Qdd (ak (bK (ak (dG Qwv ai #[Wp,Wp])) (ak (aP (eu ..) E.bN Qdd QE)) Wc)) (gC b1 b2)) rfl) (aj ?_);rw[pA es cs j (by rw[kindB,cq hz,cq a])];rw[show nY es cs j=(uO es j).getD (cs.getD (j:Int).toNat 0 / 2 % ((uO es j).length:Nat)).toNat 0 by rw[nY,cq hz,cq a,i4]];rfl
  rintro δ rfl;refine gA (E.ll 3).1 rfl QsQ rfl (by rw[eu,eu];lia) (aj ?_);rw[EZ es cs j rfl];exact#[_,_,_,rfl]
 case fin=>
  rintro δ ⟨k,f,c,rfl⟩;have e:(cX 0 (es.length:Int).toNat).length=es.length:=by
   rw[cX,eu,gz];lia
  rw[e];exact aG (cQ (bF QiV (bF QxQ cj)) aL) rfl
def F6{b:Bx}(E:jP jz 19 0 X CL) :
  jM X CL b jz:=by
 intro c h;dsimp only [jz]at h ⊢;refine az E.g Qai (bK (ak (dG Qb ai #[Wp,Wp])) (ak (B9 ai ai #[Wp,Wp,Wp])) Wp) ?_;refine aN (bH (ak (bK Qb ai Wp)) ai).1 (λhp=>?_) (λhp=>aj ?_)
 .refine aG (j5 ai QL) ?_;show T.sh _=T.sh QnV;unfold CP;rw[dU Qe1]
 .refine aG Qb8 ?_;show T.sh _=T.sh QnV;unfold CP;rw[cq (fc hp)]
theorem Pz{b:Bx}(E:jP jd 20 1 X CL) :
  jM X CL b jd:=by
 rintro⟨a,c,n,ns⟩ h;obtain⟨h1,h2,i⟩:=h;have e1:=hF c (show(ns.length:Int)≠0 by lia);have e2:=hI c (show 0<(ns.length:Int) by lia);apply az E.g Qag (dG Qbh ai #[Wp,Wp]);apply az E.g Qau (aB (aH QD (ak (bK Qbh (ak (aP (eu _) E.bN QD Qx)) Wc)) Qoo) rfl);apply az E.g Qav (aV (av (j5 (ak (bK QU QmZ Wc)) ai) (av (c_ (c / 3) QjM QE (ah (ak (dG Qbh ai #[Wp,Wp])) ao) QoQ rfl) bw)) aL);refine aN (bH (ak (bK (ak (dG Qbh ai #[Wp,Wp])) ai Wp)) ai).1 (λhp=>?_) (λhp=>aj ?_)
 .have d:=eI hp;apply aG (aV (av bQ (av QiU bw)) aL);show T.sh _=T.sh _;rw[j9,dU d]
 have d:=fc hp;refine aN (iz (fC (bH (ak (bK (ak (dG Qbh ai #[Wp,Wp])) ai Wp)) ai).1 (λ_=>iD (qP QL ai).1))) (λe=>?_) (λe=>aj ?_)
 .have f:a / 8 % 3=1/\0<n:=by
   simp at e;lia
  refine aG (aV (av bQ (av (bK (ak (dG QU ai #[Wp,Wp])) QL Wc) (av QnB bw))) aL) ?_;show T.sh _=T.sh _;rw[j9,cq d,dU f];rfl
 .have f:¬ (a / 8 % 3=1/\0<n):=by
   simp at e;lia
  apply aG (aV (av bQ Qkk) aL);show T.sh _=T.sh _;rw[j9,cq d,cq f];rfl
theorem Ws{b:Bx}(E:jP pO 21 0 X CL) :
  jM X CL b pO:=by
 rintro⟨a,c,src,n,ns⟩ h;obtain⟨h1,h2,d⟩:=h;have e1:=hF QjI (show(ns.length:Int)≠0 by lia);have e2:=hI QjI (show 0<(ns.length:Int) by lia);apply az E.g Qau (j5 (ak (bK Qbh Qm0 Wc)) ai);apply az E.g Qav bQ;refine aN (iC Qak QaI).1 (λhp=>?_) (λhp=>aj ?_)
 .refine az E.g Qav (aB (aH (aT (iF (av bQ Qir) aL)) (ak (bK (ak (dG Qbh ai #[Wp,Wp])) ai Wp)) (gE (f:=L3.D.str) (l:=["new","near","far"]) Str.empty (hF _ Wp) (hI _ Wp))) rfl) (aj ?_);have hm:T4 a c n=(["new","near","far"]:AT).getD (a / 8 % 3).toNat Str.empty:=by
   unfold T4;rw[if_neg (by simpa [Zz] using hp)]
  apply aG (aV (av Qb8 (av (aB (aH QU (ak (bK (ak (dG Qbh ai #[Wp,Wp])) Qr6 Wc)) Qoo) rfl) Qsw)) aL);show T.sh _=T.sh _;rw[BO,hm];rfl
 .have hm:T4 a c n="new":=by
   unfold T4;rw[if_pos (by simpa [Zz] using hp)]
  apply aG (aV (av Qb8 (av (aB (aH QU (ak (bK (ak (dG Qbh ai #[Wp,Wp])) Qr6 Wc)) Qoo) rfl) Qsw)) aL);show T.sh _=T.sh _;rw[BO,hm];rfl
theorem Wt{b:Bx}(E:jP pP 22 1 X CL) :
  jM X CL b pP:=by
 rintro⟨a,c,n,m⟩ h;obtain⟨h1,h2,i⟩:=h;have e:=hF (a / 8) (show 6≠0 by decide);apply az E.g Qag (dG Qbh ai #[Wp,Wp]);refine aN (qP QmK ai).1 (λhp=>?_) (λhp=>aj ?_)
 .have d:=eI hp;apply aG (aV (av (aB (aH (aT (iF Qir aL)) (ak (j5 QmK ai)) (gE (f:=L3.D.str) (l:=["open","shut"]) _ Wc (by show a / 8 % 6-4<2;lia))) rfl) (av (bK Qbh QD Wc) bw)) aL);show T.sh _=T.sh _;rw[Il,dU d]
 .have d:=fc hp;refine az E.g Qau (aV (av (j5 (ak (bK (ak (dG QU ai #[Wp,Wp])) QmZ Wc)) ai) (av (c_ (c) QjM Qx (ah Qbh ao) QoQ rfl) bw)) aL) ?_;refine az E.g Qav (aV (av (j5 (ak (bK (ak (dG QU ai #[Wp,Wp])) QmZ Wc)) ai) (av (c_ QhS QjM Qx (ah (ak (bK (ak (m7 Qbh ai (.inr #[Wp,Wp]))) ai Wp)) ao) QoQ rfl) bw)) aL) ?_;apply aG (aV (av (aB (aH (aT (iF (av bQ (av bQ Qir)) aL)) QmK (gE (f:=L3.D.str) (l:=["<","<=","=","!="]) _ e (by show a / 8 % 6<4;lia))) rfl) Qkk) aL);show T.sh _=T.sh _;rw[Il,cq d];rfl
theorem PB{b:Bx}(E:jP mK 23 2 X CL) :
  jM X CL b mK:=by
 rintro⟨l,nb,nm,ns⟩ h;obtain⟨K,hb,⟨v,hm⟩,⟨q,C⟩,hn⟩:=h;refine az E.g Qau QuG ?_;refine az E.g Qav QuG ?_;refine az E.g QbT QaT ?_;refine gB E.g (E.ll 7) (λj δ=>∃t s f a,δ=[some Qx6,some (.sh (.int nb)),some (.sh (.int nm)),some (.sh (.lst Qex)),some (DZ ((l.take j).foldl Qde OS).is),some (DZ ((l.take j).foldl Qde OS).os),some (Uc ((l.take j).foldl Qde OS).ws),t,s,f,a])
  (ck QaF) #[_,_,_,_,rfl] (by rintro j δ ⟨_,_,_,_,rfl⟩;exact eL rfl) ?turn ?fin
 case turn=>
  rintro j d δ J ⟨t,s,f,a,rfl⟩;obtain⟨p,hp,rfl⟩:=Lx J;have ok:=Im (nb:=nb) (nm:=nm) hn v QoP 0 OS (T8 _ _);rw[Nat.zero_add]at ok;have I:(l.take j).length<=100:=by rw[hM];lia
  show cK X CL b _ _ {nx:=λδ=>∃t s f a,δ=[_,_,_,_,some _,some _,some _,t,s,f,a],rt:=_,bk:=_,ct:=_};rw[mC hp,i5];generalize (l.take j).foldl Qde OS=o at ok ⊢;show cK X CL b _ _ {nx:=λδ=>∃t s f a,δ=[_,_,_,_,some (DZ (i9 nb nm ns o p).is),some (DZ (i9 nb nm ns o p).os),some (Uc (i9 nb nm ns o p).ws),t,s,f,a],rt:=_,bk:=_,ct:=_};obtain⟨is,os,ws⟩:=o;obtain⟨n0,n1,n2,ii,oo,wl,ww⟩:=ok;dsimp only at n0 n1 n2 ii oo wl ww;refine az E.g (E.ll 8) (bK (au Qel ai rfl) ai Wp) ?_;refine az E.g (E.ll 9) (j5 (ak (aP (eu ..) E.bN Qcv Qx)) ai) ?_;have A:((is.map L3.D.tup).map T.sh).length=is.length:=by rw[eu,eu]
  have y:((os.map L3.D.tup).map T.sh).length=os.length:=by rw[eu,eu]
  have G:((ws.map WY.d).map T.sh).length=ws.length:=by rw[eu,eu]
  refine aN (El QfV ai).1 (λk=>?_) (λk=>?_)
  .have k:p.1 % 8<3:=eI k;refine gA (E.ll 4).1 rfl QfR rfl (by rw[A];lia) ?_;refine gA (E.ll 5).1 rfl QfR rfl (by rw[y];lia) (aj (aj ?_));rw[i9,dU k,<- E4,<- E4];exact#[_,_,_,_,rfl]
  have k:¬ p.1 % 8<3:=fc k;refine aN (bH QfV ai).1 (λn=>?_) (λn=>?_)
  .have n:p.1 % 8=3:=eI n;have m:=(ii _ (iJ [] n0));have F:=m.l1;refine Cy (jt (aB (aH Qcv QeA (Ua [] n0)) (y9 m)) (aV (av (c_ ((p.1,p.2,nb,ns)) (E.c 20) QE QmL (by dsimp only [jd];exact(#[hb,q,C])) (by exact(jY p.1 p.2 nb hn).im)) bw) aL) (by intro z;cases z) (Nat.le_of_lt (bR (by rw[List.length_singleton];lia)))) (k7 (E.ll 4).1 rfl) QeA rfl rfl (by rw[A];exact Ub n0) (aj (aj (aj ?_)));rw[i9,cq k,dU n,<- LD];exact#[_,_,_,_,rfl]
  have n:¬ p.1 % 8=3:=fc n;refine aN (bH QfV ai).1 (λr=>?_) (λr=>?_)
  .have r:p.1 % 8=4:=eI r;have m0:0<os.length:=by lia
   have m:=(oo _ (iJ [] m0));have F:=m.l1;rw[<- n2];refine Cy (jt (aB (aH Qdd QeA (Ua [] m0)) (y9 m)) (aV (av (c_ ((p.1,p.2,nb,ns)) (E.c 20) QE QmL (by dsimp only [jd];exact(#[hb,q,C])) (by exact(jY p.1 p.2 nb hn).im)) bw) aL) (by intro z;cases z) (Nat.le_of_lt (bR (by rw[List.length_singleton];lia)))) (k7 (E.ll 5).1 rfl) QeA rfl rfl (by rw[y];exact Ub m0) (aj (aj (aj (aj ?_))));rw[i9,cq k,cq n,dU r,<- LD];exact#[_,_,_,_,rfl]
  have r:¬ p.1 % 8=4:=fc r;have H:∀{z:Bool},R0 QuH Qf7=z->z=false->0<ws.length:=λe z=>by
   subst z;rw[CV]at e;have:=fc e;exact iU.2 λw=>this (by rw[w];rfl)
  refine aN (p:=decide (p.1 % 8=5) || (R0 QuH Qf7 || !decide _)) (iz (jr (bH QfV ai).1 (λ_=>jr (R3 E.u QxR (aT QaT) (aeN ww) (yR [])).1 (λhz=>lC (iC (au (aH QxR QaI (pC l6 (H rfl hz))) ai rfl) QeA).1)))) (λi=>?_) (λi=>?_)
  .have i:p.1 % 8=5\/ws=[]\/(eZ ws).src≠(is.length:Int)-1:=by
    rw[CV,my,my,kq]at i;obtain h|h|h:=i
    .exact .inl (eI h)
    .exact .inr (.inl (lp.1 (eI h)))
    .exact .inr (.inr (fc h))
   refine gA (E.ll 6).1 rfl (aI (c_ ((p.1,p.2,(is.length:Int)-1,nm,ns)) (E.c 21) Qah (ah Qel (ah QeA Qef)) (by dsimp only [pO];exact(#[hm,q,C])) rfl) rfl) rfl (by rw[G];lia) (aj (aj (aj (aj (aj ?_)))));rw[i9,cq k,cq n,cq r,dU i,<- Ud];exact#[_,_,_,_,rfl]
  have i:¬ (p.1 % 8=5\/ws=[]\/(eZ ws).src≠(is.length:Int)-1):=by
   rw[CV,vu,vu,oB]at i;obtain⟨a1,a2,a3⟩:=i;rintro(h|h|h)
   .exact fc a1 h
   .exact fc a2 (by rw[h];rfl)
   .exact h (eI a3)
  have B:0<ws.length:=iU.2 λz=>i Qnq;have m:=ww _ (iJ l6 B);have e1:=m.l1;have e2:=m.l2;refine aN (bH QfV ai).1 (λx=>?_) (λx=>?_)
  .have x:p.1 % 8=6:=eI x;refine az E.g (E.ll 10) QqS ?_;refine Cy (aI (jt (jt (nj QfH (by exact RG) cH QbV) (aV (av (jt QvW (aV (av (c_ ((p.1,p.2,nb,nm)) (E.c 22) Qao (ah Qel Qd1) (by dsimp only [pP];exact(#[hb,v,hm])) (by exact(E3 p.1 p.2 nb v).im)) bw) aL) (by intro z;cases z) (Nat.le_of_lt (bR (by rw[List.length_singleton];lia)))) bw) aL) (by intro z;cases z) aL) (nj QfH (by exact JP) QbV cH) (by intro z;cases z) aL) rfl) QvX QaI rfl rfl (by rw[G];exact tM B) (aj (aj (aj (aj (aj (aj ?_))))));rw[i9,cq k,cq n,cq r,cq i,dU x,<- LJ];exact#[_,_,_,_,rfl]
  .have x:¬ p.1 % 8=6:=fc x;refine az E.g (E.ll 10) QqS ?_;refine Cy (aI (jt (jt (nj QfH (by exact RF) cH QbV) (aV (av (jt QvW (aV (av (c_ ((p.1,p.2,nb,ns)) (E.c 20) QE QmL (by dsimp only [jd];exact(#[hb,q,C])) (by exact(jY p.1 p.2 nb hn).im)) bw) aL) (by intro z;cases z) (Nat.le_of_lt (bR (by rw[List.length_singleton];lia)))) bw) aL) (by intro z;cases z) aL) (nj QfH (by exact RE) QbV cH) (by intro z;cases z) aL) rfl) QvX QaI rfl rfl (by rw[G];exact tM B) (aj (aj (aj (aj (aj (aj ?_))))));rw[i9,cq k,cq n,cq r,cq i,cq x,<- LJ];exact#[_,_,_,_,rfl]
 case fin=>
  rintro δ ⟨t,s,f,a,rfl⟩;rw[eu,hZ];exact aG (cQ (bF Qny (bF QxS (bF QfT cj))) aL) rfl
theorem Jx{b:Bx}(E:jP kD 24 3 X CL) :
  jM X CL b kD:=by
 intro s h;dsimp only [kD]at h ⊢;have hm:=V2 s;have hi:=zm s;obtain⟨e0,e1,e2⟩:=mL s;have n1:=ua s;refine az E.g Qai (aI (dG (ak (c_ ((s,1)) QcO Qx Qig (show(0:Int)<=1 by lia) rfl)) ai #[Wp,Wp]) (t2:=.sh (.int (Xw s))) rfl) ?_;refine rV (p:=λ_=>true) (gg:=λd=>.sh Qxg) E.g Q2 Qf2
  (Od E.lu (ah ai (ah (yp (ak (Yz E.g E.UP Qah (ah (ak (aP (eu ..) E.bN Qb Qao)) (ah ai ao)))) (d2:=.int (kS s)) rfl) (ah ai ao))) Wc QE) Qam (λC s0 e f0 a d hd=>?zA) (hS (bR (by rw[qQ,eu,gz];unfold nq;lia))) ?mR (by exact eL rfl) Qbr
 case zA=>
  obtain⟨i,hi,rfl⟩:=eJ.1 hd;have hi:=g4.1 hi;unfold nq at hi;exact#[rfl,λ_=>aV (av (aB (aH (oV 1) (eU 0) (gC (show(0:Int)<=2+(i:Int)*2 by lia) (show 2+(i:Int)*2<s.length by lia))) rfl)
   (av (c_ (s,2+(i:Int)*2+1) (m9 QcO) iY (ah (oV 1) (ah (ak (cW (eU 0) ai)) ao)) (show(0:Int)<=2+(i:Int)*2+1 by lia) rfl) bw)) aL]
 case mR=>
 have eq1:((qQ 2 (nq 2 (kS s))).filter λ_=>true).map (λd=>T.sh Qxg)=((iS s).map Xq).map T.sh:=by
  rw[cG,qQ,ey,iS,ey,ey];rfl
 rw[eq1];refine az E.g Qag (qd (ds:=(bY s).map .int) (c_ (iS s) (E.c 15) QaO (ah Qet ao) (show(iS s).length<=100 by lia) (i7 _))) ?_;refine az E.g Qau (qd (ds:=(pQ s).map .str) (c_ (s,(bY s).length+4) (E.c 17) Qba (ah Qb (ah (yp (ak (cW (ak (aP (eu ..) E.bN QU Qao)) ai)) (d2:=.int (((bY s).length+4:Nat):Int)) rfl) ao)) (show(bY s).length+4<=100 by lia) (gT _))) ?_;refine rV (p:=λ_=>true) (gg:=λd=>.sh Qt2) E.g Qav (bu (.cons (E.ll 4).1 QiQ QpG) Wl)
  (lX E.lu QfJ Wc QE) Qam (λC s0 e f0 a d hd=>?zB) (hS (bR (by rw[cX,eu,gz];lia))) ?pU (by exact eL rfl) Qbr
 case zB=>
  obtain⟨i,hi,rfl⟩:=eJ.1 hd;have hi:=g4.1 hi;exact#[rfl,λ_=>aV (av (aB (aH (oV 1) (eU 0) (gE Str.empty (show(0:Int)<=0+(i:Int) by lia) (show 0+(i:Int)<(pQ s).length by lia))) rfl)
   (av (c_ (eY s (3+2*(0+(i:Int)))) (m9 QjM) iY (ah (ak (c_ (s,3+2*(0+(i:Int))) (m9 QcO) iY (ah (oV 2) (ah (ak (cW ai (ak (m7 ai (eU 0) (.inl #[Wp,Wp]))))) ao)) (show(0:Int)<=3+2*(0+(i:Int)) by lia) rfl)) ao) trivial rfl) bw)) aL]
 case pU=>
 have eq2:((cX 0 (Xw s % 4).toNat).filter λ_=>true).map (λd=>T.sh Qt2)=((nM s).map oZ).map T.sh:=by
  rw[cG,cX,ey,nM,ey,ey];rfl
 rw[eq2];refine az E.g QbT (fU (d:=.lst [.lst ((fG (bY s) (xT s) (bY s).length).map .str),.lst ((fQ (bY s) (xT s) (bY s).length).map .int)]) (c_ (bY s,xT s) (E.c 18) QcP (ah QU (ah (yp (aT (gQ (ds:=[.int (Xw s / 4)]) (rT:=(yV (iS s)).map .int) (aT (ds:=[.int (Xw s / 4)]) (cQ (bF (dG QL ai #[Wp,Wp]) cj) aL))
   (aT (aI (gu (p:=λd=>decide (d.xi.jF % 8<3)) (g:=λd=>.sh (.int d.at2.jF)) Qbu E.g.calm (ck (G2 (E.ll 2).1 rfl)) Qam (λC s0 e f0 a d hd=>?Wu) (hS (bR (by rw[eu];lia)))) ?eq3)) rfl (ez _) (hS (bR (by rw[eu,hH,rZ];have:=qm (iS s);lia))))) (d2:=.lst ((xT s).map .int)) rfl) ao)) ?alJ ?cl3) ?fr3) ?Wv
 case Wu=>
  obtain⟨p,_,rfl⟩:=eJ.1 hd;exact#[(El (ak (bK QvY ai Wp)) ai).1,λ_=>(aB QvY rfl)]
 case eq3=>
  rw[tf,ey,yV,ey,ey];rfl
 case alJ=>
  dsimp only [kC];exact#[Wc,e2]
 case cl3=>
  show T.clean (.lst [_,_])=true;rw[gY,T.cA,T.cA,T.cA,gT,i7];rfl
 case fr3=>
  show T.dJ (.lst [_,_])=_;rw[T.dJ,T.dF,T.dF,T.dF,cI,cI]
 case Wv=>
 have ow:=V4 s;refine az E.g (E.ll 7) (fU (d:=.lst [.lst ((Az s).is.map .tup),.lst ((Az s).os.map .tup),.lst ((Az s).ws.map WY.d)]) (c_ (iS s,(nM s).length,(bY s).length,pQ s) (E.c 23) QeX (ah QD (ah (ak (aP (eu ..) E.bN Qdd Qao)) (ah (ak (aP (eu ..) E.bN QU Qao)) Qn5))) ?alK ?cl4) ?fr4) ?Ww
 case alK=>
  dsimp only [mK];have:=FN s;exact#[Wc,Wc,#[e0,Wc],#[Wc,Wc],V3 s]
 case cl4=>
  show T.clean Qrb=true;rw[gY,T.cA,T.cA,T.cA,T.cA,DZ,DZ,Uc,bM (LC ow.ii),bM (LC ow.oo),bM (ZE ow.ww)];rfl
 case fr4=>
  show T.dJ Qrb=_;rw[T.dJ,T.dF,T.dF,T.dF,T.dF,DZ,DZ,Uc,cI,cI,cI]
 case Ww=>
 refine aG (qd (Sz (Yu (av (G2 (E.ll 5).1 rfl) (av (qd (aI (dz Qak (cu _) cH (bS (ak (aP (eu ..) E.bN QU Qao)))) (t2:=.lst (((nc s).map .str).map T.sh)) (by rw[Eu,V6];rfl))) (av Qyb (av QbQ (av Qyb bw)))))) (v_ (E.ll 7).1) aL)) ?_;rfl
theorem PD{b:Bx}(E:jP mO 25 0 X CL) :
  jM X CL b mO:=by
 intro c h;dsimp only [mO]at h ⊢;have hp:rA.length=95:=by decide +kernel
 have hz:rA.length<=sizeLine:=by rw[hp,fR];decide
 have d:rA.cps.toList.length=95:=by rw[aR,hp]
 refine az E.g Qai bQ ?_;refine az E.g Qai (aI (fB QL aD (by rw[fR];decide +kernel)) (t2:=.sh (.str rA)) rfl) ?_;have m0:=hF c (b:=95) Wc;have a:=hI c (b:=95) Wc;exact aG (yh QL (yp (ak (bK Qb (ak (qb E.bN QL (hz) Qx)) Wc)) (d2:=.int (c % 95)) (by rw[hp];rfl)) hz (ym 0 m0 Wc)) rfl
theorem AA{b:Bx}(E:jP gM 26 0 X CL) :
  jM X CL b gM:=by
 rintro⟨l,w,c⟩ h;dsimp only [gM]at h ⊢;obtain⟨i,e⟩:=h;have e:l.length<=4000001:=e;have h0:=iU.2 i;have f:=hF c (b:=(l.length:Int)) Wc;have a1:=hI c (b:=(l.length:Int)) Wc;have hm:(l.map L3.D.str).length=l.length:=eu ..;have cl:∀a k,(cutD QiD a k).length<=l.length:=λa k=>by
  rw[fX,eu];exact(MG l a k).length_le
 have ci:∀a k,D.bC (cutD QiD a k)=true:=λa k=>by
  rw[fX];exact cu _
 have hz:∀{n:Nat},n<=16000020->n<=sizeLine:=λh=>by rw[fR];lia
 refine az E.g Qag (bK QD (ak (aP (eu ..) E.bN Qb Qx)) Wc) ?_;refine az E.g Qau (aI (bK (ak (bK (ak (m7 QD ai (.inr #[Wp,Wp]))) ai Wp)) (ak (cW (ak (aP (eu ..) E.bN Qb Qx)) ai)) Wc) (t2:=.sh (.int (BI l.length c))) rfl) ?_;have eq:∀{m:BC},m=(Jd l w c).map L3.D.str->T.lst (m.map T.sh)=.lst (((Jd l w c).map .str).map T.sh):=λh=>by rw[h]
 refine aN (bH QL ai).1 (λhp=>?_) (λhp=>aj ?_)
 .refine aG (gQ QrA Qr7 Qa9 Qa9 (hz (by have:=cl none Qd4;have:=cl Qd3 none;lia))) (eq ?_);rw[Jd,dU Qe1,eE,fX,fX]
 have hp:¬ w=3:=fc hp;have s:=cl none Qd4;have r:=cl Qhw none;have q:=cl Qd3 Qhw;have p:=cl Qd4 Qd3;have o:=cl none Qh4;have j:=cl Qh4 none;refine aN (bH QL ai).1 (λd=>?_) (λd=>aj ?_)
 .refine aG (gQ (aT (gQ (aT (dz Qb (cu _) cH QoR)) (aT (ds:=[.str (l.getD (c % (l.length:Int)).toNat Str.empty)]) (iF (av (aB (aH Qb QU (gE Str.empty f a1)) rfl) bw) aL)) Qa9 rfl (hz (by rw[hH];lia)))) (aT (dz Qb (cu _) QoR cH)) (t6 Qa9 rfl) Qa9 (hz (by rw[eP,hH];lia))) (eq ?_);rw[Jd,cq hp,dU (eI d),eE,eE,fX,fX];rfl
 have d:¬ w=4:=fc d;refine az E.g Qav (gQ (aT (dz Qb (cu _) Qft Qft)) (aT (dz Qb (cu _) (bS QU) Qft)) Qa9 Qa9 QdM) ?_;refine aG (gQ (aT (gQ QrA Qdd Qa9 QvZ (hz (by rw[eP];lia)))) Qr7 (t6 Qa9 QvZ) Qa9 (hz (by rw[eP,eP];lia))) (eq ?_);rw[Jd,cq hp,cq d,eE,eE,eE,fX,fX,fX,fX]
theorem Wx{b:Bx}(E:jP pR 27 1 X CL) :
  jM X CL b pR:=by
 rintro⟨x,w,c⟩ h;dsimp only [pR]at h ⊢;have h:x.length<=4000000:=h;have hz:x.length<=sizeLine:=by rw[fR];lia
 obtain⟨m,b1⟩:=Al x.length c;refine az E.g Qag (aI (bK (ak (bK (ak (m7 QD ai (.inr #[Wp,Wp]))) ai Wp)) (ak (cW Qk8 ai)) Wc) (t2:=.sh (.int (BI x.length c))) rfl) ?_;refine az E.g Qau (aI (c_ QeH (E.c 25) QE (ah (ak (dG (ak (bK (ak (cW (ak (m7 QL ai (.inr #[Wp,Wp]))) QD)) ai Wp)) ai #[Wp,Wp])) ao) trivial rfl) (t2:=.sh (.str (m3 QeH))) rfl) ?_;have eq:∀{y:Str},y=Xv x w c->T.sh (.str y)=.sh Qyr:=λh=>by rw[h]
 have sl:∀a k,(Txt.slice x a k).length<=4000000:=λa k=>fg (Txt.slice_le x a k) h;have s1:∀k,(m3 k).length=1:=λ_=>rfl;have sz:∀{n:Nat},n<=16000000->n<=sizeLine:=λh=>by rw[fR];lia
 have s2:=sl none Qec;have s3:=sl Qec none;have s4:=sl QlP none;refine aN (bH QfJ ai).1 (λhp=>?_) (λhp=>aj ?_)
 .refine aG (fB (ak (fB QkX Qak (sz (by rw[s1];lia)))) (ak (iX Qb (hz) (bS QU) cH)) (sz (by rw[str_len,s1];lia))) (eq ?_);rw[Xv,dU Qe1]
 have hp:¬ w % 6=0:=fc hp;refine aN (bH QfJ ai).1 (λd=>?_) (λd=>aj ?_)
 .refine aG (fB QkX Qr8 (sz Wc)) (eq ?_);rw[Xv,cq hp,dU (eI d)]
 have d:¬ w % 6=1:=fc d;refine aN (bH QfJ ai).1 (λe=>?_) (λe=>aj ?_)
 .refine aG (fB (ak (fB QkX Qak (sz (by rw[s1];lia)))) Qr8 (sz (by rw[str_len,s1];lia))) (eq ?_);rw[Xv,cq hp,cq d,dU (eI e)]
 have e:¬ w % 6=2:=fc e;have i:=Vp x;have f:=mJ (l:=e7 x) QeY;rw[show Str.join "\n" (e7 x)=x from kj _ _]at f;have j:=(LG (l:=e7 x) QeY QeW c).2.1;refine aG (kZ (l:=Jd (e7 x) QeW c) aD (aT (c_ (e7 x,w % 6,c) (E.c 26) Qah (ah (aT (uM Qb aD Wl hz (show Txt.split x "\n" = e7 x from rfl) (sz Wc))) (ah QfJ Qhg)) #[iM _ _,Wc] (gT _))) (Dn rfl Wc)) (eq ?_);rw[Xv,cq hp,cq d,cq e]
theorem Wy{b:Bx}(E:jP uc 28 0 X CL) :
  jM X CL b uc:=by
 intro l h;have q:l.length<=1000:=h;apply az E.g Qai La;refine oS E.g Qk1 (λj δ=>∃c a,δ=[some _,some (.jq (Ax QoP)),c,a])
  (mj Str.empty E.ia QaF Qx) #[_,_,rfl]
  (λj δ ⟨_,_,e⟩=>by subst e;intro i hi;simp at hi;obtain rfl|rfl:=hi<;>exact eL rfl) ?turn ?fin
 case turn=>
  rintro j d δ m ⟨c,a,rfl⟩;obtain⟨i,rfl,hi,p,_,_,_⟩:=uK m;have o:=by
   have:=g4.1 p;exact this
  have n:=by
   rw[hW (by have:=(hR.1 hi).1;rwa [gz]at this)]at hi;exact(fO hi).symm
  subst n;have hz:l.take Q3=l.take i++[l.getD i Str.empty]:=by
   rw[js,e5,gh o];rfl
  have hlen:(l.take i).length=i:=by rw[hM];lia
  refine#[_,rfl,?_];refine Ld (Y9 (.inr _) (E.ll 1).1 rfl QU Qbq ?_ (by have:=ZS (l.take i);lia)) (aj #[_,_,rfl]);rw[hz,U0,C4];by_cases hm:l.getD i Str.empty∈l.take i
  .rw[dU hm,dU (by rfl),dU hm]
  .rw[cq hm,cq W2,cq hm,vU,cq,hlen];intro z;obtain⟨k,f,hz⟩:=List.any_eq_true.1 z;have:=C4 (l.take i) QuY;rw[cq hm]at this;exact List.find?_eq_none.1 (Option.map_eq_none_iff.1 this) k f hz
 case fin=>
  rintro δ ⟨c,a,rfl⟩;have e:l.take ((List.range l.length).map λ(i:Nat)=>L3.D.tup [.int i,L3.D.str QuY]).length=l:=by
   rw[eu,gz,hZ]
  rw[e];exact aG Qcx rfl
variable{W:XK}
def F7{b:Bx}(E:EX gU.N (gN gU.st) (cN gU.st) 30 2 QP CL) :
  mw X W CL b gU:=by
 rintro⟨l,x,r⟩ h a;dsimp only [gU,HR]at h a ⊢;refine aN (bV Qb aD).1 (λq=>?_) (λq=>aj ?_)
 .have q:x="":=eI q;refine aG Qd7 #[?_,?_]
  .rw[pk,e6 q];rfl
  .rw[pz,dU q]
 have q:¬ x="":=fc q;have hv:=C4 l x;have d:pk l x=decide QbS:=by rw[pk,fw q];rfl
 rw[d]at a ⊢;refine aN (YM QeS (by exact E.u) Qb QL rfl) (λz=>?_) (λz=>aj ?_)
 .have hm:¬ x∈l:=λm=>by
   rw[hv,dU m]at z;cases z
  exact dD E.g.calm (E.c 29) Qx Qhg (a (fw hm))
 have hm:x∈l:=by
  by_cases m:x∈l
  .exact m
  .rw[hv,cq m]at z;cases z
 rw[dU hm]at hv;refine aG (aB (YL QeS (by exact E.u) QL Qb hv) rfl) #[e6 hm,?_];rw[pz,cq q]
def u9{b:Bx}(E:EX dg.N (gN dg.st) (cN dg.st) 31 3 QP CL) :
  mw X W CL b dg:=by
 rintro⟨l,n,k,r⟩ h d;dsimp only [dg,HR]at h d ⊢;cases a:pk l n with
 | true=>exact aG (aV (ds:=[.int (pz l n),.int k]) (av (c_ (l,n,r) (E.c 30).give Qx QqV #[trivial,a] rfl) (av (aB (au (ds:=[.str n,.int k]) Qb ai eV) rfl) bw)) aL) #[rfl,rfl]
 | false=>exact oW (nF (cB (l,n,r) Qgp Qx QqV #[trivial,a] (d a))) W2
def vd{b:Bx}(E:EX dh.N (gN dh.st) (cN dh.st) 32 4 QP CL) :
  mw X W CL b dh:=by
 rintro⟨l,q,r⟩ h d;dsimp [dh]at h d ⊢;cases q with
 | call n=>
  refine aN (bV Qcq aD).1 Qlz (λ_=>aj ?_);refine aN (bV Qcq aD).1 Qlz (λ_=>aj ?_);exact aG QaF #[rfl,rfl]
 | put a n k=>
  refine aN (bV Qcq aD).1 (λ_=>?_) Qts;have e:jj.ok l (.put a n k)=(pk l a&&pk l n):=rfl;rw[e]at d ⊢;cases h1:pk l a with
  | false=>exact oW (bF bQ (nF (cB (l,a,r) Qgp Qx (ah Qd6 Qd1) #[trivial,h1] (d (by rw[h1];rfl))))) W2
  | true=>
   cases h2:pk l n with
   | true=>exact aG (aV (av bQ (av Qp8 QpS)) aL) #[rfl,rfl]
   | false=>exact oW (bF bQ (bF Qp8 (nF (cB (l,n,k,r) QjN QE Qp5 #[trivial,h2] (d (by rw[h1,h2];rfl)))))) W2
 | say x n k=>
  refine aN (bV Qcq aD).1 Qlz (λ_=>aj ?_);refine aN (bV Qcq aD).1 (λ_=>?_) Qts;cases h2:pk l n with
  | true=>exact aG (aV (av bQ (av QxT QpS)) aL) #[h2,rfl]
  | false=>exact oW (bF bQ (bF QxT (nF (cB (l,n,k,r) QjN QE Qp5 #[trivial,h2] (d h2))))) W2
def wG{b:Bx}(E:EX dR.N (gN dR.st) (cN dR.st) 33 4 QP CL) :
  mw X W CL b dR:=by
 rintro⟨bs,ms,q,r⟩ h a;dsimp [dR]at h a ⊢;cases q with
 | kO w x=>
  have hw:w∈(["open","shut"]:AT):=h;refine aN (gF Qcq QaX).1 (λ_=>?_) Qsq;cases d:pk ms x with
  | true=>exact aG (aV (av Qdl (av (c_ (ms,x,r) (E.c 30).give Qx Qv0 #[trivial,d] rfl) bw)) aL) #[d,rfl]
  | false=>exact oW (bF Qdl (nF (cB (ms,x,r) Qgp Qx Qv0 #[trivial,d] (a d)))) W2
 | num w n k n2 k2=>
  have hw:=h;refine aN (gF Qcq QaX).1 (λz=>absurd (eI z) hw) (λ_=>aj ?_);have e:jk.ok bs ms (.num w n k n2 k2)=Qws:=rfl;rw[e]at a ⊢;cases h1:pk bs n with
  | false=>exact oW (bF Qdl (nF (cB (bs,n,k,r) QjN QE (ah Qd6 Qfx) #[trivial,h1] (a (by rw[h1];rfl))))) W2
  | true=>
   cases h2:pk bs n2 with
   | false=>exact oW (bF Qdl (bF Qqj (nF (cB (bs,n2,k2,r) QjN QE Qv1 #[trivial,h2] (a (by rw[h1,h2];rfl)))))) W2
   | true=>exact aG (aV (av Qdl (av Qqj (av (c_ (bs,n2,k2,r) (E.c 31).give QE Qv1 #[trivial,h2] rfl) bw))) aL) #[rfl,rfl]
def wH{b:Bx}(E:EX dS.N (gN dS.st) (cN dS.st) 34 5 QP CL) :
  mw X W CL b dS:=by
 rintro⟨bs,ms,w,r⟩ h e;dsimp only [dS,HR]at h e ⊢;have hw:w.Ok:=h;have l:mH.ok bs ms w=(w.as.all (jk.ok bs ms)&&QrM):=rfl;rw[l]at e ⊢;refine sZ (p:=λ_=>true) (ok:=λd=>(inv jk.d d).ok bs ms) (g:=λd=>.sh ((inv jk.d d).n bs ms)) E.g Qau E.st E.fm (bu (.cons (E.ll 1).1 Qd2 (.cons (E.ll 2).1 QiQ Qrc)) Wl) (ck (rQ QaF ai eV)) Qam (λC s0 o f0 m i d hd _ lt=>?zA) (by rw[eu,fR];exact fg hw.al Wp) (λa1=>?mR) (by exact eL rfl) Qbr
 case zA=>
  obtain⟨q,f,rfl⟩:=eJ.1 Qgt;refine#[rfl,λ_=>?_];show vO _ _ _ _ _ (λt=>(inv jk.d q.d).ok bs ms=true/\t=T.sh ((inv jk.d q.d).n bs ms)) _;rw[C6 xJ];exact wo (bs,ms,q,r) (QH.cx (E.c 33)) iY (ah Qhf (ah Qhs (ah (ak (v_ (Vn.wx (Ao 2)))) (ah (ak (v_ (Vn.wx (Ao 3)))) ao)))) (hw.a q f) (λz=>lt _ _ (e (by rw[II f z];simp))) (λ_=>C5 bs ms q)
 case mR=>
 have a1:=Mf xJ a1;rw[Mg xJ QrN,a1] at *;refine sZ (p:=λ_=>true) (ok:=λd=>(inv jj.d d).ok bs) (g:=λd=>.sh ((inv jj.d d).n bs)) E.g Qav E.st E.fm (bu (.cons (E.ll 1).1 Qd2 Qrc) Wl) (ck (rQ QaF ai gS)) Qam (λC s0 o f0 m i d hd _ lt=>?zB) (by rw[eu,fR];exact fg hw.dl Wp) (λa2=>?pU) (by exact eL rfl) Qbr
 case zB=>
  obtain⟨q,f,rfl⟩:=eJ.1 Qgt;refine#[rfl,λ_=>?_];show vO _ _ _ _ _ (λt=>(inv jj.d q.d).ok bs=true/\t=T.sh ((inv jj.d q.d).n bs)) _;rw[C6 tV];exact wo (bs,q,r) (QH.cx (E.c 32)) iY Qqr trivial (λz=>lt _ _ (e (by rw[II f z];simp))) (λ_=>tU bs q)
 case pU=>
 have a2:=Mf tV a2;rw[Mg tV Qsr,a2] at *;have i1:D.bC QmR=true:=cR (C5 bs ms) _;have i2:D.bC Ql7=true:=cR (tU bs) _;have e1:w.as.map QrN=(w.as.map Qip).map T.sh:=by rw[ey];rfl
 have e2:w.ds.map Qsr=(w.ds.map QmA).map T.sh:=by rw[ey];rfl
 rw[e1,e2];show cK QP CL b _ [some Qgh,some (.sh (.jq QjX)),some (.sh (.jq QjY)),some Qeu,some (.lst ((w.as.map Qip).map T.sh)),some (.lst ((w.ds.map QmA).map T.sh))] _;cases k:pk ms w.tg with
 | true=>exact aG (aV (ds:=[.str w.sg,.tup QmR,.tup Ql7,.int (pz ms w.tg),.str w.md]) (av Qdl (av QtN (av QtO (av (c_ (ms,w.tg,r) (E.c 30).give QE Qs7 #[trivial,k] rfl) (av (aB (au Qb ai Qww) rfl) bw))))) aL) #[rfl,rfl]
 | false=>exact oW (bF Qdl (bF QtN (bF QtO (nF (cB (ms,w.tg,r) Qgp QE Qs7 #[trivial,k] (e (by rw[k];simp))))))) W2
def vf{b:Bx}(E:EX d7.N (gN d7.st) (cN d7.st) 35 6 QP CL) :
  mw X W CL b d7:=by
 rintro⟨bs,ms,q⟩ h e;obtain⟨r,bl,c⟩:=q;have e:=e;refine az E.g Qag (aB (au Qb (ak (aJ E.Ll Qx)) dP) rfl) ?_;refine az E.g Qau (aB (au Qb (ak (aJ E.jK QE)) gS) rfl) ?_;refine az E.g Qav (rQ QaF Qmg yI) ?_;cases c with
 | bx n k=>
  refine aN (mh Qak Qie rfl).1 (λz=>absurd (show("box":Str)∈bB from eI z) Wl) (λ_=>?_);refine aN (gF Qak QaX).1 (λz=>absurd (show("box":Str)∈(["in","out"]:AT) from eI z) Wl) (λ_=>?_);refine aN (bV Qak aD).1 (λz=>absurd (show("box":Str)="on" from eI z) Wl) (λ_=>aj (aj (aj ?_)));exact aG Qg8 #[rfl,rfl]
 | md w x st=>
  refine aN (mh Qak Qie rfl).1 (λ_=>?_) (λz=>absurd (show w∈bB from h) (fc z));cases a:pk ms st with
  | true=>
   refine az E.g Qav (aV (av Qtt (av (c_ (ms,st,r) (E.c 30).give QaO Qsx #[trivial,a] rfl) bw)) aL) (aj ?_);exact aG Qg8 #[a,rfl]
  | false=>exact yL E.g Qav (HF (bF Qtt (nF (cB (ms,st,r) Qgp QaO Qsx #[trivial,a] (e a)))) aL) (Tq #[T.bad,W2,lF])
 | dd w d=>
  have hw:w∈(["in","out"]:AT):=h;have f:w∉bB:=by
   simp only[ew,fo,hx]at hw;obtain rfl|rfl:=hw<;>decide +kernel
  refine aN (mh Qak Qie rfl).1 (λz=>absurd (eI z) f) (λ_=>?_);refine aN (gF Qak QaX).1 (λ_=>?_) Qsq;cases a:d.ok bs with
  | true=>
   refine az E.g Qav (c_ (bs,d,r) (E.c 32).give Qba Qv2 #[trivial,a] (tU bs d)) (aj (aj ?_));exact aG Qg8 #[a,rfl]
  | false=>exact yL E.g Qav (cB (δ2:=[]) (bs,d,r) (E.c 32) Qba Qv2 #[trivial,a] (e a)) lF
 | wy w=>
  have hw:w.Ok:=h;refine aN (mh Qak Qie rfl).1 (λz=>absurd (show("on":Str)∈bB from eI z) Wl) (λ_=>?_);refine aN (gF Qak QaX).1 (λz=>absurd (show("on":Str)∈(["in","out"]:AT) from eI z) Wl) (λ_=>?_);refine aN (bV Qak aD).1 (λ_=>?_) (λz=>absurd (show("on":Str)="on" from rfl) (fc z));cases a:w.ok bs ms with
  | true=>
   refine az E.g Qav (c_ (bs,ms,w,r) (E.c 34).give QcP QsR #[hw,a] (Mb bs ms w)) (aj (aj (aj ?_)));exact aG Qg8 #[a,rfl]
  | false=>exact yL E.g Qav (cB (δ2:=[]) (bs,ms,w,r) (E.c 34) QcP QsR #[hw,a] (e a)) lF
def F8{b:Bx}(E:EX gV.N (gN gV.st) (cN gV.st) 36 7 QP CL) :
  mw X W CL b gV:=by
 intro fs h f;dsimp [gV]at h f ⊢;have bZ:=h.ok;have hlen:(fs.map dY.d).length<=sizeLine:=by
  rw[eu];exact fg h.l Wp
 refine az E.g Qai (fU (c_ _ (E.c 28) Qx (ah (aT (aI (gu (p:=λd=>decide ((aS d 2).toS="box")) (g:=λd=>.sh QpD) Qbu E.g.calm Qcd Qam (λC s0 j f0 e d hd=>?zA) hlen) ?eq1)) ao) h.bl (Bu _)) rfl) ?mR
 case zA=>
  obtain⟨q,a,rfl⟩:=eJ.1 hd;refine#[(bV Qrs aD).1,λz=>?_];have z:q.c.ZP=true:=(ZV QeZ)▸z;obtain⟨r,bl,c⟩:=q;cases c with
  | bx n k=>exact aB QqT rfl
  | md w x st=>cases z
  | dd w d=>cases z
  | wy w=>cases z
 case eq1=>
  rw[U5 (g':=λq=>T.sh _) (λq a=>ZV QeZ) λq a z=>?_]
  .unfold Fp;rw[ey,ey];rfl
  .obtain⟨r,bl,c⟩:=q;cases c with
   | bx n k=>rfl
   | md w x st=>cases z
   | dd w d=>cases z
   | wy w=>cases z
 case mR=>
 refine az E.g Q2 (fU (c_ _ (E.c 28) Qx (ah (aT (aI (gu (p:=λd=>decide ((aS d 2).toS∈bB)) (g:=λd=>.sh QpD) Qbu E.g.calm Qcd Qam (λC s0 j f0 e d hd=>?zB) hlen) ?eq2)) ao) h.ml (Bu _)) rfl) ?pU
 case zB=>
  obtain⟨q,a,rfl⟩:=eJ.1 hd;refine#[(mh Qrs (ak (dB (E.fY) iY)) rfl).1,λz=>?_];have z:q.c.O4=true:=(ZW QeZ)▸z;obtain⟨r,bl,c⟩:=q;cases c with
  | md w x st=>exact aB QqT rfl
  | bx n k=>cases z
  | dd w d=>cases z
  | wy w=>cases z
 case eq2=>
  rw[U5 (g':=λq=>T.sh _) (λq a=>ZW QeZ) λq a z=>?_]
  .unfold D3;rw[ey,ey];rfl
  .obtain⟨r,bl,c⟩:=q;cases c with
   | md w x st=>rfl
   | bx n k=>cases z
   | dd w d=>cases z
   | wy w=>cases z
 case pU=>
 refine Tt (yM (p:=λ_=>true) (ok:=λd=>U3 fs Qpu) (g:=λd=>.sh ((IJ fs d).n (Fp fs) (D3 fs))) E.st E.fm (bu (.cons (E.ll 1).1 Qd2 (.cons (E.ll 2).1 QiQ .nil)) Wl) E.g.calm Qcd Qam (λC s0 j f0 e i d hd lt ll=>?Wu) hlen) (λt z=>?eq3)
 case Wu=>
  obtain⟨q,a,rfl⟩:=eJ.1 Qgt;refine#[rfl,λ_=>?_];show vO _ _ _ _ _ (λt=>U3 fs _=true/\t=T.sh _) _;rw[xK bZ a];exact wo (Fp fs,D3 fs,q) (QH.cx (E.c 35)) iY Qqr QeZ (λz=>show eW e W _ (some _) from O5 bZ hd QeZ lt z▸(ll _ _ (f (II a z)))) (λ_=>ZZ _ _ q)
 case eq3=>
  obtain⟨z,rfl⟩:=z;exact#[Ri bZ z,by rw[ZY bZ]]
theorem PF{b:Bx}(E:jP mP 37 0 X CL) :
  jM X CL b mP:=by
 intro x h;dsimp only [mP]at h ⊢;have hz:x.length<=sizeLine:=h;refine aN (iz (jr (bV Qb aD).1 (λhb=>(jr (qP Qk8 (ak (aJ E.zx QE))).1 (λn=>(lC (K7 Qb (ak (dB E.Dv Qah)) (rfl) rfl).1)))))) (λhp=>?_) (λhp=>aj ?_)
 .refine aG gy ?_;have hp:(decide (x="") || (decide ((12:Int)<(x.length:Nat)) || decide QoF))=true:=hp;show T.sh _=T.sh Qdh;refine congrArg Qa2 ?_;simp only[my,hq]at hp;unfold aU;obtain z|z|z:=hp
  .subst z;decide +kernel
  .rw[fw (p:=x.length<=12) Wc,pv,ip]
  .rw[e6 z,Bool.not_true,pv,ip,ip]
 have hp:(decide (x="") || (decide ((12:Int)<(x.length:Nat)) || decide QoF))=false:=hp;simp only[vu,wq]at hp;obtain⟨h1,h2,r⟩:=hp;have s:1<=x.length:=by
  obtain z|z:=Nat.eq_zero_or_pos x.length
  .exact absurd (CJ z) h1
  .exact z
 have l:x.cps.toList.length=x.length:=by simp[Str.length]
 have f:aU x=Qp3:=by
  unfold aU;rw[e6 s,e6 (show x.length<=12 by lia),fw r];rfl
 refine aN (oU (ak (yh Qb ai hz (ym 0 Wc Wc))) (ak (yw E.Pp Qao)) rfl).1 (λhp=>?_) (λhp=>aj ?_)
 .refine aG gy ?_;rw[yS]at hp;have hp:(!isLt Qqd)=true:=hp;rw[kq]at hp;show T.sh _=T.sh Qdh;rw[f,hp];rfl
 rw[yS]at hp;have hp:(!isLt Qqd)=false:=hp;rw[oB]at hp;refine gB E.g Qai (λj δ=>(∃o,δ=[some QbB,o])/\(x.cps.toList.take j).all Qqb=true)
  (Sj QaF) #[#[_,rfl],rfl] (λj δ ⟨⟨_,e⟩,_⟩=>by subst e;exact eL rfl) ?turn ?fin
 case turn=>
  rintro j d δ m ⟨⟨o,rfl⟩,i⟩;obtain⟨c,rfl,k⟩:=yT m;refine aN (oU QL (ak (yw E.om QaO)) rfl).1 (λa=>?_) (λa=>aj (aj #[#[_,rfl],?_]))
  .refine aG gy ?_;rw[Ls]at a;have a:(isLt c || iR c)=false:=by simpa using a
   show T.sh _=T.sh Qdh;have q:x.cps.toList.all Qqb=false:=by
    rw[xb];exact#[c,gc k,by rw[a];decide]
   rw[f,q,ip]
  .rw[Ls]at a;have a:(!(isLt c || iR c))=false:=a;rw[oB]at a;rw[js,k,List.all_append,i];show(true&&([c].all λc=>isLt c || iR c))=true;rw[n3,a];rfl
 case fin=>
  rintro δ ⟨⟨o,rfl⟩,i⟩;refine aG gy ?_;rw[show(gK x).length=x.cps.toList.length by simp[gK],hZ]at i;show T.sh _=T.sh Qdh;rw[f,hp,i];rfl
def Jy{b:Bx}(E:EX je.N (gN je.st) (cN je.st) 39 2 QP CL) :
  mw X W CL b je:=by
 rintro⟨x,r⟩ h a;dsimp only [je,HR]at h a ⊢;refine aN (dO (fh (c_ x (E.c 37) Qx Qbt h rfl))) (λz=>?_) (λz=>aj (aG QaF #[nf z,rfl]));exact dD E.g.calm Qa6 QE Qaq (a (nt z))
theorem AF{b:Bx}(E:jP gO 40 0 X CL) :
  jM X CL b gO:=by
 intro x h;dsimp only [gO]at h ⊢;have hz:x.length<=sizeLine:=h;have m:=aR x;refine aN (iz (jr (bV Qb aD).1 (λhn=>jr (qP Qk8 (ak (aJ E.zy QE))).1 (λ_=>lC (bV (ak (yh Qb ai hz (ym 0 Wc ?ix))) aD).1)))) (λhp=>?_) (λhp=>aj ?_)
 case ix=>
  obtain z|z:=Nat.eq_zero_or_pos x.length
  .exact absurd (CJ z) (fc hn)
  .lia
 .refine aG gy ?_;have hp:(decide (x="") || (decide ((30:Int)<(x.length:Nat)) || decide ((#[(List.toArray [x.cps.toList.getD 0 0])]:Str)="0")))=true:=hp;show T.sh _=T.sh Qje;refine congrArg Qa2 ?_;simp only[my,hq]at hp;unfold iK;obtain z|z|z:=hp
  .subst z;decide +kernel
  .rw[fw (p:=x.length<=30) Wc,pv,ip]
  .have e:x.cps.toList.getD 0 0=48:=by
    rw[show("0":Str)=#[(List.toArray [48])] by decide +kernel]at z;have:=congrArg (λs:Str=>s.cps.toList) z;exact(i8 this).1
   rw[e6 e,Bool.not_true,pv,ip,ip]
 have hp:(decide (x="") || (decide ((30:Int)<(x.length:Nat)) || decide ((#[(List.toArray [x.cps.toList.getD 0 0])]:Str)="0")))=false:=hp;simp only[vu,wq]at hp;obtain⟨h1,h2,k⟩:=hp;have r:1<=x.length:=by
  obtain z|z:=Nat.eq_zero_or_pos x.length
  .exact absurd (CJ z) h1
  .exact z
 have k:¬ x.cps.toList.getD 0 0=48:=λz=>k (by rw[z];decide +kernel);have f:iK x=x.cps.toList.all iR:=by
  unfold iK;rw[e6 r,e6 (show x.length<=30 by lia),fw k];rfl
 refine gB E.g Qai (λj δ=>(∃o,δ=[some QbB,o])/\(x.cps.toList.take j).all iR=true)
  (Sj QaF) #[#[_,rfl],rfl] (λj δ ⟨⟨_,e⟩,_⟩=>by subst e;exact eL rfl) ?turn ?fin
 case turn=>
  rintro j d δ n ⟨⟨o,rfl⟩,i⟩;obtain⟨c,rfl,l⟩:=yT n;refine aN (oU QL (ak (yw E.Pq Qah)) rfl).1 (λa=>?_) (λa=>aj (aj #[#[_,rfl],?_]))
  .refine aG gy ?_;rw[LR]at a;have a:iR c=false:=by simpa using a
   show T.sh _=T.sh Qje;have q:x.cps.toList.all iR=false:=by
    rw[xb];exact#[c,gc l,by rw[a];decide]
   rw[f,q]
  .rw[LR]at a;have a:(!iR c)=false:=a;rw[oB]at a;rw[js,l,List.all_append,i];show(true&&[c].all iR)=true;rw[n3,a];rfl
 case fin=>
  rintro δ ⟨⟨o,rfl⟩,i⟩;refine aG gy ?_;rw[show(gK x).length=x.cps.toList.length by simp[gK],hZ]at i;show T.sh _=T.sh Qje;rw[f,i]
theorem F9{b:Bx}(E:jP jA 41 1 X CL) :
  jM X CL b jA:=by
 intro x h;dsimp only [jA]at h ⊢;have h:x.length<=sizeLine:=h;have d:(ki x).length<=sizeLine:=by
  unfold ki;split
  .rw[<- aR];show(x.cps.toList.drop 1).length<=sizeLine;rw[mu,aR];lia
  .exact h
 refine az E.g Qai (m8 (t:=.sh (.str (ki x))) (fh (Ow Qb aD)) (λz=>aI (iX Qb h QbV cH) ?e1) (λz=>aI QaF ?e2)) ?rest
 case e1=>
  rw[ud]at z;have hz:=eI z;cases a:x.cps.toList with
  | nil=>rw[a]at hz;cases hz
  | cons c l=>rw[Pg a,ki,dU hz]
 case e2=>
  rw[ud]at z;rw[ki,cq (fc z)]
 case rest=>
 exact aG (LS (bV Qb aD).2 (λ_=>jD (aI (c_ (ki x) (E.c 40) Qx Qaq d rfl) (t2:=.sh (.bl (iK (ki x)))) rfl))) rfl
def DB{b:Bx}(E:EX gf.N (gN gf.st) (cN gf.st) 42 2 QP CL) :
  mw X W CL b gf:=by
 rintro⟨x,r⟩ h a;dsimp only [gf,HR]at h a ⊢;refine aN (dO (fh (c_ x (E.c 41) Qx Qbt h rfl))) (λz=>?_) (λz=>aj ?_)
 .exact dD E.g.calm Qa6 QE Qaq (a (nt z))
 have z:=nf z;obtain⟨i1,i2⟩:=Mp z;exact aG (Cz E.Wo Qb i1 i2 Qah) #[z,rfl]
theorem Jz{b:Bx}(E:EX jf.N (gN jf.st) (cN jf.st) 43 3 QP CL) :
  mw X W CL b jf:=by
 rintro⟨x,r⟩ h d;dsimp only [jf,HR]at h d ⊢;have f:x.length<=sizeLine:=h;cases hn:jO x with
 | true=>
  have e:Bw x=some (("":Str),intOf x):=dU hn;obtain⟨i1,i2⟩:=Mp hn;refine aN (fh (aI QrH (t2:=.sh QaG) Qvt)) (λ_=>?_) Qmh;exact aG (aV (ds:=[.str "",.int Qdw]) (bF bQ (bF (Cz E.Wo Qb i1 i2 QE) cj)) aL) #[by rw[e];rfl,by unfold Vb;rw[e];rfl]
 | false=>
 refine aN (fh (aI QrH (t2:=.sh QeD) Qvt)) Qmh (λ_=>aj ?_);refine az E.g Q2 (m8 (t:=.sh (.str (Ac x))) (Si aD Qb rfl).1 (λq=>aI bQ (congrArg QkS (dU q).symm)) (λq=>aI bQ (congrArg QkS (cq (by rw[q];decide)).symm))) ?_;obtain⟨a,m,c,ep,i,lc⟩:=IW x (Ac x);have e:Bw x=if aU a=true then(if m="" then some (a,0) else if iK c=true then some (a,if Ac x="+" then intOf c else -intOf c) else none) else none:=by
  unfold Bw;rw[cq (by rw[hn];decide),ep];rfl
 refine az E.g Qag (Te (l:=[a,m,c]) Qb QD (ae0 x) f ep) ?_;unfold Vb;rw[e]at d ⊢;refine HZ E.g Qau (wo (a,r) QbE Qah (ah (au QU ai dP) Qaq) (show a.length<=sizeLine by lia) (λz=>d (by rw[cq (by rw[show aU a=false from z];decide)];rfl)) Qal) ?_;rintro _ ⟨na,rfl⟩;have na:aU a=true:=na;rw[dU na]at d ⊢;refine aN (bV (au QU ai eV) aD).1 (λq=>?_) (λq=>aj ?_)
 .rw[dU (eI q)];exact aG (aV (ds:=[.str a,.int 0]) (bF QiU (bF uG cj)) aL) #[rfl,rfl]
 rw[cq (fc q)]at d ⊢;refine aN (dO (fh (c_ c (E.c 40) Qao (ah QxU ao) (show c.length<=sizeLine by lia) rfl))) (λz=>?_) (λz=>aj ?_)
 .exact dD E.g.calm Qa6 QaO Qaq (d (by rw[cq (by rw[nt z];decide)];rfl))
 have z:=nf z;obtain⟨i1,i2⟩:=aae z;rw[dU z];refine az E.g Qav (Cz E.Wo QxU i1 i2 QE) ?_;exact aG (aV (ds:=[.str a,.int (if Ac x="+" then intOf c else -intOf c)]) (bF QiU (bF (m8 (t:=.sh (.int (if Ac x="+" then intOf c else -intOf c))) (bV QD aD).1 (λq=>aI QnB (congrArg QlA (dU (eI q)).symm)) (λq=>aI (cJ QaW) (congrArg QlA (cq (fc q)).symm))) cj)) aL) #[rfl,rfl]
theorem JA{b:Bx}(E:EX jg.N (gN jg.st) (cN jg.st) 44 4 QP CL) :
  mw X W CL b jg:=by
 rintro⟨ws,r⟩ h d;dsimp only [jg,HR]at h d ⊢;have h:∀w∈ws,w.length<=sizeLine:=h;by_cases h2:ws.length=2
 .obtain⟨w,n,rfl⟩:=BE h2;refine aN (iz (fC (bH QkO ai).1 λ_=>iD (bV Qeh aD).1)) (λz=>?_) (λz=>aj ?_)
  .have z:w="call":=eI z;subst z;refine iZ (iH (ds:=[.str "call",.str n]) (fV bQ (gG (wo (n,r) QbE QE Qcp (show n.length<=sizeLine from h n W2) (λz=>d (by rw[ae1 (λy=>Bool.noConfusion (y.symm.trans z))];rfl)) Qal) j7))) (λy=>?_);rw[Fy y.1];exact#[rfl,by unfold Vc;rw[Fy y.1];rfl]
  have z:¬ w="call":=fc z;refine aN QpP (λz=>by rw[ip]at z;cases z) (λ_=>aj ?_);exact dD E.g.calm Qa6 Qao Qaq (d (by rw[show sC [w,n]=none from cq λy=>z y.1];rfl))
 refine aN (iz (fC (q:=false) (bH (ak (aP (n:=ws.length) (eu ..) E.bN Qb Qx)) ai).1 λz=>absurd (eI z) Wc)) (λz=>by rw[ip]at z;cases z) (λ_=>aj ?_);by_cases e:ws.length=3
 .obtain⟨w,n,t,rfl⟩:=NM e;refine aN (iz (fC (bH QkP ai).1 λ_=>iD (gF Qeh QaX).1)) (λz=>?_) (λz=>aj ?_)
  .have z:w∈(["put","say"]:AT):=eI z;refine iZ (iH (ds:=[.str w,.str n,Vb t]) (fV QnC (gG (wo (n,r) QbE QE Qcp (show n.length<=sizeLine from h n W2) (λy=>d (by rw[Vd QjO];rfl)) Qal) (gG (wo (t,r) (E.c 43) Qah QhI (show t.length<=sizeLine from h t W2) (λy=>d (by rw[Vd QjP];rfl)) Qal) j7)))) (λy=>?_);obtain⟨a,b⟩:=aag z y.1 y.2.1;exact#[a,congrArg T.sh b.symm]
  have z:¬ w∈(["put","say"]:AT):=fc z;exact dD E.g.calm Qa6 Qao Qaq (d (by rw[Ve z];rfl))
 refine aN (iz (fC (q:=false) (bH (ak (aP (n:=ws.length) (eu ..) E.bN Qb Qx)) ai).1 λz=>absurd (eI z) Wc)) (λz=>by rw[ip]at z;cases z) (λ_=>aj ?_);exact dD E.g.calm Qa6 Qao Qaq (d (by rw[aah h2 e];rfl))
theorem JB{b:Bx}(E:jP kE 45 0 X CL) :
  jM X CL b kE:=by
 intro ws h;dsimp only [kE]at h ⊢;obtain⟨⟨r,u⟩,y⟩:=h;refine az E.g Qai QaT ?_;refine gB E.g Q2 (λj δ=>∃o,δ=[some (.sh (.lst Qez)),some (.lst (((ws.take j).foldl pS []).map lT)),o]) Qcd #[_,rfl] (by rintro j δ ⟨_,rfl⟩;exact eL rfl) ?turn ?fin
 case turn=>
  rintro j d δ v ⟨o,rfl⟩;obtain⟨x,rfl,s,_,A,_,_⟩:=uK v;have w:(ws.take QaH).foldl pS []=pS ((ws.take j).foldl pS []) x:=by
   rw[mC s,i5];rfl
  have hn:=C2 (ws.take j) [];rw[hM]at hn;have hlen:((ws.take j).foldl pS []).length<=1000000:=by
   have:=hn.2;simp at this;lia
  have n:x∉fk->0<((ws.take j).foldl pS []).length:=λa=>by
   subst u;cases j with
   | zero=>
    cases s;exact absurd (show("on":Str)∈fk by decide +kernel) a
   | succ j=>
    rw[List.take_succ_cons,kb,show pS [] "on" = [[("on":Str)]] from dU (show("on":Str)∈fk by decide +kernel)];exact ij Nat.zero_lt_one (C2 (r.take j) [[("on":Str)]]).1
  rw[w];have hpl:∀p∈(ws.take j).foldl pS [],p.length<=1000000:=λp e=>by
   have:=UC (ws.take j) [] 0 (λq e=>by(cases e)) p e;rw[hM]at this;lia
  generalize (ws.take j).foldl pS []=st at hlen n hpl ⊢;refine aN (aer (l:=Iz) E.ly Qx QD) (λz=>?_) (λz=>?_)
  .rw[UA]at z;refine Cw Qv3 rfl rfl (aI (cQ (tl:=[.sh Qax]) (bF Qbq cj) aL) (t2:=lT [x]) rfl) rfl rfl (by rw[eu];lia) (aj (aj ?_));have:pS st x=st++[[x]]:=dU (eI z);rw[this,eE];exact#[_,rfl]
  .rw[UA]at z;have a:=fc z;have h0:=n a;have i:GY (st.map lT).length (-1)=some QaN:=by
    rw[eu];exact tM h0
   have t:(st.map lT)[st.length-1]? = some (lT Qiq):=by
    rw[fT,e5,gh (show st.length-1<st.length by lia)];rfl
   have f:T.yG [.ix QaN] (lT Qh5) Qvu=.lst ((st.map lT).set QaN (lT Qh5)):=by
    show(match (st.map lT)[st.length-1]? with|some k=>_|none=>_)=_;rw[t];rfl
   have m:T.lst (((st.getD QaN []).map L3.D.str).map T.sh++[T.sh Qax])=lT Qh5:=by
    unfold lT;rw[eE,eE];rfl
   have c:T.sX [.ix QaN] Qvu=some (lT Qiq):=by
    show((st.map lT)[st.length-1]?).bind Qtu=_;rw[t];rfl
   refine Cw (p:=[.ix QaN]) (Td Qv3 rfl rfl QaI i) rfl c Qbq rfl c (by rw[eu,eu];exact hpl _ QoX) (aj (aj ?_));have:pS st x=st.set QaN Qh5:=cq a;rw[this,nZ,<- f,<- m];exact#[_,rfl]
 case fin=>
  rintro δ ⟨o,rfl⟩;rw[eu,hZ];exact aG Qcx rfl
theorem JC{b:Bx}(E:EX jh.N (gN jh.st) (cN jh.st) 46 3 QP CL) :
  mw X W CL b jh:=by
 rintro⟨p,r⟩ h d;dsimp only [jh,HR]at h d ⊢;obtain⟨h0,h⟩:=h;obtain⟨a,l,rfl⟩:=xl h0;refine aN (uH Qeh aD).1 (λz=>?_) (λz=>aj ?_)
 .have e:wC (a::l)=some (("":Str),("new":Str)):=dU λy=>by rw[show a="to" from y]at z;exact absurd z Wl
  exact aG (aV (ds:=[.str "",.str "new"]) Qir aL) #[by rw[e];rfl,by unfold vj;rw[e];rfl]
 have z:a="to":=zi λy=>by rw[fw y]at z;cases z
 subst z;by_cases h2:l.length=1
 .obtain⟨n,rfl⟩:=list1 h2;refine aN (bH QkO ai).1 (λ_=>?_) Qmh;refine iZ (iH (ds:=[.str n,.str "new"]) (gG (wo (n,r) QbE QE Qcp (show n.length<=sizeLine from h n W2) (λy=>d (by rw[ae2 y];rfl)) Qal) (fV bQ j7))) (λy=>?_);exact#[by rw[Dc y.1];rfl,by unfold vj;rw[Dc y.1];rfl]
 refine aN (bH (ak (aP (n:=l.length+1) (eu ..) E.bN Qb Qx)) ai).1 (λz=>absurd (eI z) Wc) (λ_=>aj ?_);by_cases f:l.length=2
 .obtain⟨n,m,rfl⟩:=BE f;refine aN (iz (fC (bH QkP ai).1 λ_=>iD (gF Qqe QaX).1)) (λz=>?_) (λz=>aj ?_)
  .have z:m∈(["near","far"]:AT):=eI z;refine iZ (iH (ds:=[.str n,.str m]) (gG (wo (n,r) QbE QE Qcp (show n.length<=sizeLine from h n W2) (λy=>d (by rw[Vg (λu=>Bool.noConfusion Qxh)];rfl)) Qal) (fV (aB Qqe rfl) j7))) (λy=>?_);exact#[by rw[De z y.1];rfl,by unfold vj;rw[De z y.1];rfl]
  have z:¬ m∈(["near","far"]:AT):=fc z;exact dD E.g.calm Qa6 Qah Qaq (d (by rw[Vg (λu=>z u.1)];rfl))
 refine aN (iz (fC (q:=false) (bH (ak (aP (n:=l.length+1) (eu ..) E.bN Qb Qx)) ai).1 λz=>absurd (eI z) Wc)) (λz=>by rw[ip]at z;cases z) (λ_=>aj ?_);exact dD E.g.calm Qa6 Qah Qaq (d (by rw[gl_none h2 f];rfl))
theorem PJ{b:Bx}(E:EX kF.N (gN kF.st) (cN kF.st) 47 4 QP CL) :
  mw X W CL b kF:=by
 rintro⟨ws,r⟩ h d;dsimp only [kF,HR]at h d ⊢;have h:∀w∈ws,w.length<=sizeLine:=h;by_cases h2:ws.length=2
 .obtain⟨w,n,rfl⟩:=BE h2;refine aN (iz (fC (bH QkO ai).1 λ_=>iD (gF Qeh QaX).1)) (λz=>?_) (λz=>aj ?_)
  .have z:w∈(["open","shut"]:AT):=eI z;refine iZ (iH (ds:=[.str w,.str n]) (fV QnC (gG (wo (n,r) QbE QE Qcp (show n.length<=sizeLine from h n W2) (λy=>d (by rw[show uX [w,n]=none from cq λu=>Bool.noConfusion Qxh];rfl)) Qal) j7))) (λy=>?_);have e:uX [w,n]=some (.kO w n):=dU #[z,y.1];exact#[by rw[e];rfl,by unfold lL;rw[e];rfl]
  have z:¬ w∈(["open","shut"]:AT):=fc z;refine aN QpP (λz=>by rw[ip]at z;cases z) (λ_=>aj ?_);exact dD E.g.calm Qa6 QaO Qaq (d (by rw[show uX [w,n]=none from cq λy=>z y.1];rfl))
 refine aN (iz (fC (q:=false) (bH (ak (aP (n:=ws.length) (eu ..) E.bN Qb Qx)) ai).1 λz=>absurd (eI z) Wc)) (λz=>by rw[ip]at z;cases z) (λ_=>aj ?_);by_cases f:ws.length=3
 .obtain⟨s,w,t,rfl⟩:=NM f;refine aN (iz (fC (bH QkP ai).1 λ_=>iD (mh QpK (ak (dB E.xV Qah)) rfl).1)) (λz=>?_) (λz=>aj ?_)
  .have z:w∈pH:=eI z;refine iZ (iH (ds:=[.str w,Vb s,Vb t]) (fV (aB QpK rfl) (gG (wo (s,r) (E.c 43) Qao (ah Qeh Qaq) (show s.length<=sizeLine from h s W2) (λy=>d (by rw[Vf QjO];rfl)) Qal) (gG (wo (t,r) (E.c 43) Qao QhI (show t.length<=sizeLine from h t W2) (λy=>d (by rw[Vf QjP];rfl)) Qal) j7)))) (λy=>?_);obtain⟨a,b⟩:=aai z y.1 y.2.1;exact#[a,congrArg T.sh b.symm]
  have z:¬ w∈pH:=fc z;exact dD E.g.calm Qa6 QaO Qaq (d (by rw[show uX [s,w,t]=none from cq z];rfl))
 refine aN (iz (fC (q:=false) (bH (ak (aP (n:=ws.length) (eu ..) E.bN Qb Qx)) ai).1 λz=>absurd (eI z) Wc)) (λz=>by rw[ip]at z;cases z) (λ_=>aj ?_);exact dD E.g.calm Qa6 QaO Qaq (d (by rw[aaj h2 f];rfl))
theorem PK{b:Bx}(E:EX kG.N (gN kG.st) (cN kG.st) 48 5 QP CL) :
  mw X W CL b kG:=by
 rintro⟨ws,r⟩ h k;dsimp only [kG,HR]at h k ⊢;obtain⟨⟨l,rfl⟩,O,hw⟩:=h;have F:=Z0 hw;refine az E.g Q2 (fU (d:=.lst ((pF Qdt).map lD)) (c_ (("on":Str)::l) (E.c 45) Qx Qbt #[#[l,rfl],O] (O7 _)) (aak _)) ?_;show cK QP CL b _ [some Qhl,some Qeu,some (.sh (.lst ((pF Qdt).map lD))),none,none,none,none,none] _;generalize pF Qdt=ps at F k ⊢;rw[gv]at O;have R:=F.l;refine az E.g Qag bQ ?_;refine gB E.g Qau (λj δ=>∃(y:Str) (A J H v:Qfj),δ=[some Qhl,some Qeu,some QlB,some (.sh (.str y)),A,J,H,v]/\((j=0/\y="")\/(y∈fk/\oj Qjt ((ps.drop 1).map kM)=oj y ((ps.drop j).map kM)))) Qdu #[_,_,_,_,_,rfl,.inl #[rfl,rfl]] (λj δ ⟨_,_,_,_,_,e,_⟩=>by subst e;exact eL rfl) ?turn ?fin
 case turn=>
  rintro j d δ P ⟨y,A,J,H,v,rfl,u⟩;rw[fT]at P;obtain⟨p,hp,rfl⟩:=j1.1 P;have D:=gc hp;obtain⟨x,m,rfl⟩:=F.ne p D;have M:x∈fk:=F.fk _ D;obtain⟨rfl,rfl⟩|⟨u,he⟩:=u
  .refine aN (iz (fC (q:=false) (uH QU aD).1 λz=>absurd z Wl)) Qme (λ_=>aj ?_);refine az E.g Qag QxV (aj #[x,_,_,_,_,rfl,.inr #[M,?_]]);have:ps.getD 0 []=x::m:=by rw[e5,hp];rfl
   rw[this];rfl
  .obtain⟨k1,k2,_⟩:=aal u;rw[Mq hp,e4]at he;have he:oj Qjt ((ps.drop 1).map kM)=(decide Qjl&&oj x ((ps.drop QaH).map kM)):=he;refine aN (iz (fC (uH QU aD).1 λ_=>iD (sU Qp6 (ak (aes (l:=Iz) E.ly QE QU k1)) rfl rfl).1)) (λz=>?_) (λz=>aj ?_)
   .rw[fD]at z;have z:(!decide Qjl)=true:=z.2;exact dD E.g.calm Qa6 Qah Qaq (k (by unfold QI;rw[he,nt z,pv,pv]))
   .have z:(!decide (y="") && !decide Qjl)=false:=z;rw[fw k2]at z;rw[nf (show(!decide Qjl)=false from z),i0]at he;exact az E.g Qag QxV (aj #[x,_,_,_,_,rfl,.inr #[M,he]])
 case fin=>
 rintro δ ⟨L,A,J,H,v,rfl,u⟩;have s:=F.p0;have U:oj Qjt ((ps.drop 1).map kM)=true:=by
  rw[eu]at u;obtain⟨z,_⟩|⟨_,z⟩:=u
  .lia
  .rw[z,List.drop_length];rfl
 have S:QI ps=(decide ((ps.getD 0 []).length=2)&&((ps.filter isA).all Qk6&&((ps.filter Ep).all Qk7&&((wC QbW).isSome&&aU ((ps.getD 0 []).getD 1 ""))))):=by unfold QI;rw[U,i0]
 rw[S]at k ⊢;have h0:sA (ps.map lD) 0=some (lD QhM):=gq (j:=0) (by rw[fT,e5,gh s];rfl);refine aN (iC (ak (aP (n:=(ps.getD 0 []).length) (eu ..) E.bN (aH QD ai h0) Qao)) ai).1 (λz=>?_) (λz=>aj ?_)
 .have z:¬ (ps.getD 0 []).length=2:=λy=>by
   rw[y]at z;exact absurd z Wp
  exact dD E.g.calm Qa6 Qah Qaq (k (by rw[fw z];rfl))
 have z:(ps.getD 0 []).length=2:=zi λy=>by
  have z:(!decide ((((ps.getD 0 []).length:Nat):Int)=2))=false:=z;rw[fw Wc]at z;cases z
 obtain⟨a,sg,e0⟩:=BE z;have B:(ps.getD 0 []).getD 1 "" = sg:=by rw[e0];rfl
 rw[e6 z,i0,B]at k ⊢;have K:sg.length<=sizeLine:=F.w _ (e0▸ae6 s) sg W2;have hlen:(ps.map lD).length<=sizeLine:=by rw[eu,fR];lia
 refine sZ (p:=λd=>isA (FD d)) (ok:=λd=>(uX (FD d).tail).isSome) (g:=λd=>.sh Qw3) E.g Qav E.st E.fm Qr9 Qdu Qam (λC s0 Y f0 V i d hd _ lt=>?zA) hlen (λa1=>?mR) (by exact eL rfl) Qbr
 case zA=>
  obtain⟨p,hp,rfl⟩:=eJ.1 Qgt;obtain⟨x,m,rfl⟩:=F.ne p hp;refine#[(gF Qrj QaX).1,λz=>?_];show vO _ _ _ _ _ (λt=>(uX (FD Qjz).tail).isSome=true/\t=T.sh (lL (FD Qjz).tail)) _;rw[se];exact wo (m,r) (QH.cx (E.c 47)) iY (ah (d:=.lst (m.map .str)) (aT (aI QqB (by rw[e4,Ea]))) (ah Qhs ao)) QrB (λy=>lt _ _ (k (by rw[Vj (o:=λp=>(uX p.tail).isSome) hp z y];rfl))) (λ_=>ae7 m)
 case mR=>
 rw[ae4];have a1:(ps.filter isA).all Qk6=true:=Vi a1;rw[a1,i0]at k ⊢;show cK QP CL b _ [some Qhl,some Qeu,some QlB,some QxW,A,some Qrk,H,v] _;refine sZ (p:=λd=>Ep (FD d)) (ok:=λd=>(sC (FD d).tail).isSome) (g:=λd=>.sh Qw4) E.g QbT E.st E.fm Qr9 Qdu Qam (λC s0 Y f0 V i d hd _ lt=>?zB) hlen (λa2=>?pU) (by exact eL rfl) Qbr
 case zB=>
  obtain⟨p,hp,rfl⟩:=eJ.1 Qgt;obtain⟨x,m,rfl⟩:=F.ne p hp;refine#[(gF Qrj QaX).1,λz=>?_];show vO _ _ _ _ _ (λt=>(sC (FD Qjz).tail).isSome=true/\t=T.sh (Vc (FD Qjz).tail)) _;rw[se];exact wo (m,r) (QH.cx (E.c 44)) iY (ah (d:=.lst (m.map .str)) (aT (aI QqB (by rw[e4,Ea]))) (ah Qhs ao)) QrB (λy=>lt _ _ (k (by rw[Vj (o:=λp=>(sC p.tail).isSome) hp z y];rfl))) (λ_=>Vk m)
 case pU=>
 rw[ae5];have a2:(ps.filter Ep).all Qk7=true:=Vi a2;rw[a2,i0]at k ⊢;show cK QP CL b _ [some Qhl,some Qeu,some QlB,some QxW,A,some Qrk,some (.lst (((By ps).ds.map jj.d).map T.sh)),v] _;have G:=iJ (l:=ps) [] s;refine HZ E.g (E.ll 7) (wo (jv ps,r) (E.c 46) QaO (ah (aH QD QaI (pC (f:=lD) [] s)) Qaq) #[(λz=>by obtain⟨x,m,e⟩:=F.ne _ G;rw[show jv ps=x::m from e]at z;cases z),F.w _ G] (λy=>k (by rw[show(wC QbW).isSome=false from y];rfl)) Qal) ?_;rintro _ ⟨I,rfl⟩;have I:(wC QbW).isSome=true:=I;rw[I,i0]at k ⊢;refine iZ (CD (gG (wo (sg,r) QbE Qba (ah (aH (ds:=[.str a,.str sg]) (aH QD ai (h0.trans (by rw[e0];rfl))) ai eV) Qaq) K k Qal) (fV QxS (fV QfT (fV (aB (au (ds:=[.str ((wC QbW).getD ("","")).1,.str ((wC QbW).getD ("","")).2]) Qel ai dP) rfl) (fV (aB (au (ds:=[.str ((wC QbW).getD ("","")).1,.str ((wC QbW).getD ("","")).2]) Qel ai eV) rfl) j7)))))) (λy=>#[y.1,?_]);show _=T.tup [.sh (.str (By ps).sg),_,_,_,_];rw[show(By ps).sg=sg from B];rfl
theorem AG{b:Bx}(E:EX fH.N (gN fH.st) (cN fH.st) 49 6 QP CL) :
  mw X W CL b fH:=by
 rintro⟨ws,r⟩ h f;dsimp only [fH,HR]at h f ⊢;obtain⟨h0,m,h⟩:=h;obtain⟨w,l,rfl⟩:=xl h0;refine az E.g Q2 QnC ?_;refine aN (p:=decide (w="box")&&decide (((l.length+1:Nat):Int)=3)) (iz (fC (bV QD aD).1 λ_=>iD (bH (ak (aP (n:=l.length+1) (eu ..) E.bN Qb Qx)) ai).1)) (λz=>?_) (λz=>aj ?_)
 .obtain⟨rfl,z⟩:=bt z;obtain⟨a,c,rfl⟩:=BE (show l.length=2 by lia);refine iZ (iH (ds:=[.str a,.int (intOf c)]) (gG (wo (a,r) QbE QE Qcp (show a.length<=sizeLine from h _ W2) (λy=>f (by rw[Mr QjO];rfl)) Qal) (gG (wo (c,r) (E.c 42) Qah QhI (show c.length<=sizeLine from h _ W2) (λy=>f (by rw[Mr QjP];rfl)) Qal) j7))) (λy=>?_);have e:=Vl y.1 y.2.1;exact#[by rw[e];rfl,by unfold QJ;rw[e];rfl]
 have n1:¬ Qvp:=λy=>bf z #[y.1,by have:=y.2;lia];refine aN (p:=decide (w="one")&&decide (((l.length+1:Nat):Int)=3)) (iz (fC (bV QD aD).1 λ_=>iD (bH (ak (aP (n:=l.length+1) (eu ..) E.bN Qb Qx)) ai).1)) (λz=>?_) (λz=>aj ?_)
 .obtain⟨rfl,z⟩:=bt z;obtain⟨a,c,rfl⟩:=BE (show l.length=2 by lia);refine iZ (iH (ds:=[.str a,.str c]) (gG (wo (a,r) QbE QE Qcp (show a.length<=sizeLine from h _ W2) (λy=>f (by rw[Ms QjO];rfl)) Qal) (gG (wo (c,r) QbE QE QhI (show c.length<=sizeLine from h _ W2) (λy=>f (by rw[Ms QjP];rfl)) Qal) j7))) (λy=>?_);have e:=Vm y.1 y.2.1;exact#[by rw[e];rfl,by unfold QJ;rw[e];rfl]
 have n2:¬ Qvq:=λy=>bf z #[y.1,by have:=y.2;lia];refine aN (p:=decide Qsv&&decide (((l.length+1:Nat):Int)=2)) (iz (fC (gF QD QaX).1 λ_=>iD (bH (ak (aP (n:=l.length+1) (eu ..) E.bN Qb Qx)) ai).1)) (λz=>?_) (λz=>aj ?_)
 .obtain⟨hw,z⟩:=bt z;obtain⟨a,rfl⟩:=list1 (show l.length=1 by lia);have e:=Mu (a:=a) hw;refine iZ (iH (ds:=[.str a,.str ""]) (gG (wo (a,r) QbE QE Qcp (show a.length<=sizeLine from h _ W2) (λy=>f (by rw[e,cq QqJ];rfl)) Qal) (fV bQ j7))) (λy=>?_);have i:aU a=true:=y.1;rw[dU i]at e;exact#[by rw[e];rfl,by unfold QJ;rw[e];rfl]
 have k:¬ Qq5:=λy=>bf z #[y.1,by have:=y.2;lia];refine aN (gF QD QaX).1 (λz=>?_) (λz=>aj ?_)
 .have z:w∈(["in","out"]:AT):=eI z;have e:=NL (l:=l) z;refine iZ (wo (l,r) (E.c 44) Qao (ah (d:=.lst QbR) (aT (aI (dz (ds:=(w::l).map .str) Qb (cu _) QbV cH) (by rw[e4,Ea]))) Qaq) (λw hw=>h w Qi9) (λy=>f (by rw[e,sv];exact y)) (λ_=>Vk l)) (λy=>#[by rw[e,sv];exact y,?_]);have y:(sC l).isSome=true:=y;obtain⟨d,hd⟩:=ky.1 y;show T.sh (Vc l)=(QJ Qgx).t;unfold QJ Vc;rw[e,hd];rfl
 have j:¬ w∈(["in","out"]:AT):=fc z;refine aN (bV QD aD).1 (λz=>?_) (λz=>aj ?_)
 .have z:w="on":=eI z;subst z;have e:=NJ (l:=l);refine iZ (wo ((("on":Str)::l),r) (E.c 48) QaO Qnz #[#[l,rfl],m,h] (λy=>f (by rw[e,cq QqJ];rfl)) (λ_=>BF _)) (λy=>?_);have y:QI (pF (("on":Str)::l))=true:=y;rw[dU y]at e;exact#[by rw[e];rfl,by unfold QJ;rw[e];rfl]
 exact dD E.g.calm Qa6 Qba Qaq (f (by rw[ae8 n1 n2 k j (fc z)];rfl))
theorem JD{b:Bx}(E:EX ji.N (gN ji.st) (cN ji.st) 50 7 QP CL) :
  mw X W CL b ji:=by
 rintro⟨x,r⟩ h d;dsimp only [ji,HR]at h d ⊢;have h:x.length<=900000:=h;have hz:∀{n:Nat},n<=1000000->n<=sizeLine:=λh=>by rw[fR];lia
 have f:=(tW x).2;have a:=Vo x;refine az E.g Q2 (Ox Qb aD QdM (show Txt.lstripChars x " " = ko x from rfl)) ?_;refine az E.g Qag (uM QD aD Wl QdM (show Txt.split (ko x) " " = C9 x from rfl) QdM) ?_;have he:((x.length:Nat):Int)-((ko x).length:Nat)=(qz x:Nat):=by unfold qz;lia
 obtain⟨w,l,hw⟩:=xl (show C9 x≠[] from iM _ _);have h0:sA ((C9 x).map L3.D.str) 0=some (.str w):=by
  rw[hw];exact gq (j:=0) rfl
 refine iZ (CD (fV Qb8 (fV (aI (j5 (ak (qb E.bN Qb QdM Qx)) (ak (qb E.bN QD QdM Qx))) (t2:=.sh Qxi) (congrArg QlA he)) (fV (aB (aH Qes ai h0) rfl) (gG (wo (C9 x,r) (E.c 49) QE (ah Qes Qaq) #[iM _ _,Wc,λw hw=>hz (fg (ZA hw) Wc)] d (λ_=>BG _)) j7))))) (λy=>#[y.1,?_]);obtain⟨c,a⟩:=ky.1 (show(uY (C9 x)).isSome=true from y.1);have e:(lK x).w=w:=by
  unfold lK QJ;rw[a];rw[hw]at a;exact PM a
 show _=T.tup [.sh (.int r),.sh Qxi,.sh (.str (lK x).w),_];rw[e];rfl
def Gb{b:Bx}(E:jP jB 51 0 X CL) :
  jM X CL b jB:=by
 rintro⟨f,pw,mb⟩ h;dsimp only [jB]at h ⊢;obtain⟨hw,hp⟩:=h;rw[tX];refine az E.g Qag (aB (au (ds:=[.int f.r,.int f.bl,.str f.c.w,f.c.d]) Qb (ak (aJ E.jK Qx)) gS) rfl) ?_;refine az E.g Qau (aB (au (ds:=[.int f.r,.int f.bl,.str f.c.w,f.c.d]) Qb (ak (aJ E.kL QE)) eV) rfl) ?_;generalize f.c.w=w at hw ⊢;refine aN (bV QU aD).1 (λz=>?_) (λz=>aj ?_)
 .have z:w="box":=eI z;exact aG (jE (bH Qak ai).2 (λ_=>jD (bH QD QaI).2)) (congrArg Qa2 (dU z).symm)
 have z:¬ w="box":=fc z;unfold jJ;rw[cq z];refine aN (bH QD QaI).1 (λy=>?_) (λy=>aj ?_)
 .exact aG (jE (bH Qak ai).2 (λ_=>jD (mh QU QuZ rfl).2)) (congrArg Qa2 (dU (eI y)).symm)
 have y:¬ mb=-1:=fc y;rw[cq y];refine aN (mh QU QuZ rfl).1 (λu=>?_) (λu=>aj ?_)
 .exact aG (SR KN KN ai Qak Qm0 (by with_unfolding_all rfl)).2 (congrArg Qa2 (dU (eI u)).symm)
 have u:¬ w∈bB:=fc u;rw[cq u];obtain⟨a,k⟩:=hp.resolve_left y;obtain⟨c,e⟩:∃c,fW.lookup w=some c:=by
  simp only[tY,ew,fo,hx]at hw;obtain rfl|rfl|rfl|rfl|rfl|rfl|rfl:=hw
  .exact absurd rfl z
  .exact#[0,Wl]
  .exact#[0,Wl]
  .exact#[0,Wl]
  .exact#[1,Wl]
  .exact#[2,Wl]
  .exact#[3,Wl]
 refine aG (jE (bH Qak Qm0).2 (λ_=>jD (ag4 (i:=a) (j:=c) (ak (Nt E.xW Qao QL k)) (ak (Nt E.xW Qao QU e))).2)) ?_;rw[show Ay pw=a by unfold Ay;rw[k];rfl,show Ay w=c by unfold Ay;rw[e];rfl]
theorem PL{b:Bx}(E:EX kH.N (gN kH.st) (cN kH.st) 52 8 QP CL) :
  mw X W CL b kH:=by
 intro x h J;dsimp only [kH,HR]at h J ⊢;have h:x.length<=900000:=h;have U:=Vp x;have hle:∀y∈e7 x,y.length<=900000:=λy P=>fg (NI P) h;refine az E.g Qai QaT ?_;refine az E.g Q2 bQ ?_;refine az E.g Qag Qd7 ?_;refine oS E.g (kX E.g.nd E.g.calm Qau Qav) (λj δ=>∃(pw:Str) (mb:Int) (r q o:Qfj),δ=[some QbB,some (.lst ((vY 1 ((e7 x).take j)).map dY.t)),some Qnr,some Qns,r,q,o]/\(wF "" (-1) (e7 x)=wF pw mb ((e7 x).drop j)/\QK 1 "" (-1) (e7 x)=QK ((j:Nat)+1:Int) pw mb ((e7 x).drop j))/\(mb=-1\/∃a,fW.lookup pw=some a))
  (mj (f:=λy:Str=>L3.D.str y) (l:=e7 x) "" E.ia (fU (uM Qb aD Wl (by rw[fR];lia) (show Txt.split x "\n" = e7 x from rfl) (by rw[fR];lia)) (cI _)) Qx) #[_,_,_,_,_,rfl,#[rfl,rfl],.inl rfl]
  (λj δ ⟨_,_,_,_,_,e,_⟩=>by subst e;intro i hi;simp only[ew,fo,hx]at hi;obtain rfl|rfl:=hi<;>exact eL rfl) ?turn ?fin
 case turn=>
  rintro j d δ R ⟨pw,mb,r,q,o,rfl,⟨k,p⟩,I⟩;obtain⟨i,rfl,hi,S,_,_,_⟩:=uK R;have M:i<(e7 x).length:=g4.1 S;obtain rfl:i=j:=by
   rw[hW (by have:=(hR.1 hi).1;rwa [gz]at this)]at hi;exact(fO hi).symm
  refine#[_,rfl,?_];have H:(e7 x)[i]? = some ((e7 x).getD i ""):=by
   rw[e5,gh M];rfl
  have s:=hle _ (gc H);rw[Mq H]at k p;have F:(e7 x).take Q3=(e7 x).take i++[(e7 x).getD i ""]:=by rw[js,H];rfl
  have A:=FE ((e7 x).getD i "") ((e7 x).take i) 1;rw[hM,sx (hS M),show(1:Int)+((i:Nat):Int)=(i:Nat)+1 from Int.add_comm _ _]at A;have K:((vY 1 ((e7 x).take i)).map dY.t).length<=1000000:=by
   rw[eu,Df,hM];lia
  show cK QP CL b _ [some QbB,some (.lst ((vY 1 ((e7 x).take i)).map dY.t)),some Qnr,some Qns,some (.sh Qa5),some (.sh (.str ((e7 x).getD i ""))),o] {nx:=λδ=>∃(pw:Str) (mb:Int) (r q o:Qfj),δ=[some QbB,some (.lst ((vY 1 ((e7 x).take Q3)).map dY.t)),some Qnr,some Qns,r,q,o]/\(wF "" (-1) (e7 x)=wF pw mb ((e7 x).drop Q3)/\QK 1 "" (-1) (e7 x)=QK ((i+1:Nat)+1:Int) pw mb ((e7 x).drop Q3))/\(mb=-1\/∃a,fW.lookup pw=some a),rt:=_,bk:=_,ct:=_};rw[F,A,eE];generalize (e7 x).getD i "" = y at s k p ⊢;generalize (vY 1 ((e7 x).take i)).map dY.t=fs at K ⊢;have k:wF "" (-1) (e7 x)=((Fx y).isSome&&(jJ pw mb (qz y) (lK y).w&&wF (lK y).w Qpx ((e7 x).drop Q3))):=k;have p:QK 1 "" (-1) (e7 x)=if (Fx y).isSome=true/\jJ pw mb (qz y) (lK y).w=true then QK ((i:Nat)+1+1:Int) (lK y).w Qpx ((e7 x).drop Q3) else((i:Nat)+1:Int):=p
  refine HZ E.g QbT (wo (y,((i:Nat)+1:Int)) (E.c 50) QE (ah QaW (ah (ak (cW Qak ai)) ao)) s (λu=>?ex1) (λ_=>BH _)) ?next
  case ex1=>
   have u:(Fx y).isSome=false:=u;have:=J (by rw[k,u];rfl)
   rwa [p,cq (λz=>Bool.noConfusion (z.1.symm.trans u))]at this
  case next=>
  rintro _ ⟨u,rfl⟩;have u:(Fx y).isSome=true:=u;obtain⟨L,_,_⟩:=Di u;rw[u,i0]at k;refine aN (dO (fh (c_ (#[((i:Nat)+1:Int),qz y,lK y],pw,mb) (E.c 51) Qah (ah (vB (E.ll 6).1) Qef) #[L,I] rfl))) (λz=>?_) (λz=>aj ?_)
  .have z:jJ pw mb (qz y) (lK y).w=false:=nt z;have:=J (by rw[k,z];rfl);rw[p,cq (λv=>Bool.noConfusion (v.2.symm.trans z))]at this;exact dD E.g.calm Qa6 Qao (ah (au (ds:=[.int ((i:Nat)+1:Int),.int (qz y),.str (lK y).w,(lK y).d]) Qlt (ak (aJ E.Ll QaO)) dP) ao) this
  have z:jJ pw mb (qz y) (lK y).w=true:=nf z;rw[z,i0]at k;rw[dU #[u,z]]at p;refine az E.g Q2 (aB (au (ds:=[.int ((i:Nat)+1:Int),.int (qz y),.str (lK y).w,(lK y).d]) Qlt (ak (aJ E.jK Qba)) gS) rfl) ?_;have G:O8 mb y=-1\/∃a,fW.lookup (lK y).w=some a:=by
   refine(Vq L z).imp_left λe=>?_;unfold O8;rw[cq e.2];exact e.1
  have fin:∀{q o O:Qfj},∃(m:Str) (n:Int) (r C B:Qfj),[some (T.sh Qax),some (T.lst (fs++[dY.t #[((i:Nat)+1:Int),qz y,lK y]])),some (.sh (.str (lK y).w)),some (.sh (.int Qpx)),q,o,O]=[some QbB,some (.lst (fs++[(#[((i:Nat)+1:Int),qz y,lK y]:dY)].map dY.t)),some (.sh (.str m)),some (.sh QcL),r,C,B]/\(wF "" (-1) (e7 x)=wF m n ((e7 x).drop Q3)/\QK 1 "" (-1) (e7 x)=QK ((i+1:Nat)+1:Int) m n ((e7 x).drop Q3))/\(n=-1\/∃a,fW.lookup m=some a):=#[_,_,_,_,_,rfl,#[k,p],G];refine aN (mh QD (ak (dB E.fY QcP)) rfl).1 (λv=>?_) (λv=>aj ?_)
  .have e:O8 mb y=qz y:=dU (eI v);rw[e]at fin;refine az E.g Qag (aB (au (ds:=[.int ((i:Nat)+1:Int),.int (qz y),.str (lK y).w,(lK y).d]) Qlt (ak (aJ E.kL QeX)) eV) rfl) (aj ?_);exact gA (E.ll 1).1 rfl QfT rfl K (aj fin)
  .have e:O8 mb y=mb:=cq (fc v);rw[e]at fin;exact gA (E.ll 1).1 rfl QfT rfl K (aj fin)
 case fin=>
  rintro δ ⟨pw,mb,r,q,o,rfl,⟨k,_⟩,_⟩;rw[eu,gz,List.drop_length]at k;rw[eu,gz,hZ];exact aG Qcx #[k,rfl]
theorem Gd{b:Bx}(E:jP jC 53 0 X CL) :
  jM X CL b jC:=by
 intro es h;obtain⟨h,C⟩:=h;apply az E.g Qai QaT;apply az E.g Q2 QaT;have k:Aw es=(List.range _).map _:=rfl;refine oS E.g QrO (λj δ=>∃o n,δ=[some _,some (.lst (((es.take j).map .int).map T.sh)),some (.lst (((kA es j).map .int).map T.sh)),o,n])
  (mj (l:=Aw es) 0 E.ia QaF Qx) #[_,_,rfl]
  (λj δ ⟨_,_,e⟩=>by subst e;intro i hi;simp at hi;obtain rfl|rfl:=hi<;>exact eL rfl) ?turn ?fin
 case turn=>
  rintro j d δ w ⟨o,n,rfl⟩;obtain⟨i,rfl,hi,B,_,_,_⟩:=uK w;have A:=by
   have:=g4.1 B;exact this
  have x:=by
   rw[hW (by have:=(hR.1 hi).1;rwa [gz]at this)]at hi;exact(fO hi).symm
  subst x;have f:i<es.length:=by rwa [k,eu,gz]at A
  have y:(Aw es).getD i 0=((b8 es i).length):=by
   rw[k,e5,fT,hW f];rfl
  obtain⟨s,c⟩:=zo h f;refine#[_,rfl,?_];rw[y];have r:cutD ((kA es i).map L3.D.int) none (some ((b8 es i).length))=((b8 es i).reverse).map .int:=by
   rw[V7,<- List.map_take,s]
  have v:((b8 es i).reverse).length<=es.length+1:=by
   rw[w8];exact ql _ _ _
  apply az E.g Q2 (aI (dz Qet (ez _) cH QoR) (by rw[r]));have hsz:((((b8 es i).reverse).map L3.D.int).map T.sh).length<=1000000:=by
   rw[eu,eu];lia
  have u:(((es.take i).map L3.D.int).map T.sh).length<=1000000:=by
   rw[eu,eu,hM];lia
  have p:((es.take i).map L3.D.int).map T.sh++[T.sh Qu0]=((es.take Q3).map L3.D.int).map T.sh:=by
   rw[js,e5,gh f,eE,eE];rfl
  have m:(((b8 es i).reverse).map L3.D.int).map T.sh++[T.sh Qa5]=((kA es Q3).map L3.D.int).map T.sh:=by
   rw[<- Dq,eE,eE];rfl
  generalize (b8 es _).reverse=ln at c hsz m ⊢;generalize ((b8 es i).length)=dp;refine gA (δ1:=[some (.sh (.lst ((Aw es).map .int))),some _,some (.lst ((ln.map .int).map T.sh)),some (.sh Qa5),some (.sh (.int dp))]) (E.ll 1).1 rfl (m8 (t:=.sh Qu0) (SM Qet) (λq=>?el1) (λq=>?el2)) rfl u ?rest
  case el1=>
   have h0:0<ln.length:=by
    cases ln with
    | nil=>cases q
    | cons a l=>exact Nat.succ_pos _
   have e1:ln.getD (ln.length-1) 0=es.getD i 0:=by
    rw[List.getLast?_eq_getElem?,gh Wc]at c;rw[e5,gh Wc];split at c
    .cases c
    .exact fO c
   exact aI (aB (aH Qet QaI (pC 0 h0)) rfl) (congrArg QmS e1)
  case el2=>
   have e0:ln=[]:=by
    cases ln with
    | nil=>rfl
    | cons a l=>cases q
   subst e0;have e1:es.getD i 0=-1:=by
    by_cases z:es.getD i 0=-1
    .exact z
    .rw[cq z]at c;cases c
   exact aI Qd7 (by rw[e1])
  case rest=>
  refine gA (E.ll 2).1 rfl QbQ rfl hsz (aj ?_);rw[p,m];exact#[_,_,rfl]
 case fin=>
  rintro δ ⟨o,n,rfl⟩;have e:es.take ((List.range (Aw es).length).map λ(i:Nat)=>L3.D.tup [.int i,L3.D.int ((Aw es).getD i 0)]).length=es:=by
   rw[eu,gz,k,eu,gz,hZ]
  rw[e];exact aG Qcx rfl
theorem JF{b:Bx}(E:jP kI 54 0 X CL) :
  jM X CL b kI:=by
 rintro⟨c,b⟩ h;dsimp only [kI]at h ⊢;have h:Dh c:=h;have bZ:=jT h;have S:=Fo h.1;have U:=h.rl;have H:∀k∈bB,k≠QqC:=by
  cases b<;>decide +kernel
 generalize O:QqC=w at H ⊢;have I:w="in" \/ w="out":=by
  cases b with
  | true=>exact .inl O.symm
  | false=>exact .inr O.symm
 have f:w≠"box" /\ w≠"on":=by
  obtain e|e:=I<;>rw[e]<;>decide +kernel
 have A:c.rows.foldl (gD w) []=c.dl b:=O▸Vx h b;refine az E.g Q2 QaT ?_;refine gB E.g Qag (λj δ=>∃o,δ=[some Qix,some (.sh (.str w)),some (.lst (((c.rows.take j).foldl (gD w) []).map tT)),o]) Qcd #[_,rfl] (by rintro j δ ⟨_,rfl⟩;exact eL rfl) ?turn ?fin
 case turn=>
  rintro j d δ F ⟨o,rfl⟩;have R:j<c.rows.length:=by
   have:=(hR.1 F).1
   rwa [CH.wB,eu,gz]at this
  have i:c.rows[j]? = some (c.rows.getD j (.bx "" 0)):=by
   rw[e5,gh R];rfl
  have V:d=(c.rows.getD j (.bx "" 0)).nf ((j:Nat)+1:Int):=by
   unfold CH.wB at F;rw[fT,hW R]at F;exact(fO F).symm
  subst V;have a:=bZ _ (gc i);have hp:=UG S j _ i;have hn:(c.rows.take QaH).foldl (gD w) []=gD w ((c.rows.take j).foldl (gD w) []) (c.rows.getD j (.bx "" 0)):=by
   rw[js,i,i5];rfl
  have W:=IB (w:=w) QiR [];rw[hM]at W;have hlen:((c.rows.take j).foldl (gD w) []).length<=1000000:=by
   have:([]:Da).length=0:=rfl;lia
  have m:∀p∈(c.rows.take j).foldl (gD w) [],p.length<=1000000:=λp hp=>by
   have:=UX (w:=w) QiR [] 0 (λq i=>by(cases i)) p hp;rw[hM]at this;lia
  have G:=UW (w:=w) QiR (-1) [] (λz=>absurd rfl z);dsimp only;rw[hn];generalize c.rows.getD j (.bx "" 0)=q at a hp ⊢;generalize (c.rows.take j).foldl (gD w) []=st at hlen m G ⊢;generalize (c.rows.take j).foldl rF (-1)=mb at hp G;have t:=uW a;have Y:q.cn.iV=true:=xF a;refine aN (mh Qha Qmi rfl).1 (λz=>?_) (λz=>?_)
  .cases q with
   | bx n k=>exact nomatch QfN
   | io n v d=>exact nomatch QfN
   | wy n v=>exact nomatch QfN
   | md n k x s y=>
    refine Cw Qv4 rfl rfl (cQ (tl:=[]) cj (fv _)) rfl rfl (by rw[eu];exact hlen) (aj (aj ?_));show ∃o,_=[_,_,some (T.lst ((st++[[]]).map tT)),o];rw[eE];exact#[_,rfl]
  .refine aN (bV Qha QL).1 (λy=>?_) (λy=>aj (aj (aj ?_)))
   .have y:q.word=w:=eI y;cases q with
    | bx n k=>exact absurd (show("box":Str)=w from y) λe=>f.1 e.symm
    | md n k x s u=>exact nomatch QfN
    | wy n v=>exact absurd (show("on":Str)=w from y) λe=>f.2 e.symm
    | io n v d=>
     have y:v=w:=y;have h0:0<st.length:=G hp.2.1;have K:GY (st.map tT).length (-1)=some QaN:=by
      rw[eu];exact tM h0
     have P:(st.map tT)[st.length-1]? = some (tT Qiq):=by
      rw[fT,e5,gh (show st.length-1<st.length by lia)];rfl
     have J:T.yG [.ix QaN] (tT QfB) Qvv=.lst ((st.map tT).set QaN (tT QfB)):=by
      show(match (st.map tT)[st.length-1]? with|some k=>_|none=>_)=_;rw[P];rfl
     have N:T.lst ((st.getD QaN []).map T.sh++[T.sh d])=tT QfB:=by
      unfold tT;rw[eE];rfl
     have r:T.sX [.ix QaN] Qvv=some (tT Qiq):=by
      show((st.map tT)[st.length-1]?).bind Qtu=_;rw[P];rfl
     refine Cw (p:=[.ix QaN]) (Td Qv4 rfl rfl QaI K) rfl r (aB (au (ds:=[.int ((j:Nat)+1:Int),.int (n+1:Nat),.str v,d]) QU Qmg yI) Y) rfl r (by rw[eu];exact m _ QoX) (aj (aj (aj ?_)));have:gD w st (.io n v d)=st.set QaN QfB:=dU y;rw[this,nZ,<- J,<- N];exact#[_,rfl]
   .have y:¬ q.word=w:=fc y;have:gD w st q=st:=by
     cases q with
     | bx n k=>rfl
     | md n k x s u=>exact nomatch QfN
     | wy n v=>rfl
     | io n v d=>exact cq y
    rw[this];exact#[_,rfl]
 case fin=>
  rintro δ ⟨o,rfl⟩;have e:(c.rows.take c.wB.length).foldl (gD w) []=c.dl b:=by
   rw[CH.wB,eu,gz,hZ,A]
  rw[e];have M:∀l∈c.dl b,D.bC l=true:=λl B=>fE λd hd=>by
   cases b with
   | true=>exact IC (h.is l B d hd)
   | false=>exact IC (h.os l B d hd)
  have L:(c.dl b).length<=sizeLine:=by
   have:=IB (w:=w) c.rows [];rw[A]at this;have e0:([]:Da).length=0:=rfl;rw[fR];lia
  refine aG (aI (gu (p:=λ_=>true) (g:=λd=>.sh (.tup (Rj d))) Qbu E.g.calm (ck (fU (d:=.lst ((c.dl b).map .lst)) QiV (ZR _))) Qam (λC s0 H0 f0 Z d hd=>?Au) (by rw[eu];exact L)) (t2:=.lst (((c.dl b).map L3.D.tup).map T.sh)) ?eq) rfl
  case Au=>
   obtain⟨l,B,rfl⟩:=eJ.1 hd;exact#[rfl,λ_=>lZ (by exact E.uh) (eU 0) (M l B) iY]
  case eq=>
   rw[cG,ey,ey];rfl
theorem PN{b:Bx}(E:jP mQ 55 0 X CL) :
  jM X CL b mQ:=by
 intro c h;dsimp only [mQ]at h ⊢;have h:Dh c:=h;have bZ:=jT h;have r:=h.rl;refine az E.g Qai QaT ?_;refine az E.g Q2 Qd7 ?_;refine gB E.g Qag (λj δ=>∃o,δ=[some Qix,some (.lst (((c.rows.take j).foldl gW ([],-1)).1.map T.sh)),some (.sh (.int ((c.rows.take j).foldl gW ([],-1)).2)),o]) Qcd #[_,rfl] (by rintro j δ ⟨_,rfl⟩;exact eL rfl) ?turn ?fin
 case turn=>
  rintro j d δ i ⟨o,rfl⟩;have p:j<c.rows.length:=by
   have:=(hR.1 i).1
   rwa [CH.wB,eu,gz]at this
  have m:c.rows[j]? = some (c.rows.getD j (.bx "" 0)):=by
   rw[e5,gh p];rfl
  have t:d=(c.rows.getD j (.bx "" 0)).nf ((j:Nat)+1:Int):=by
   unfold CH.wB at i;rw[fT,hW p]at i;exact(fO i).symm
  subst t;have a:=bZ _ (gc m);have hn:(c.rows.take QaH).foldl gW ([],-1)=gW ((c.rows.take j).foldl gW ([],-1)) (c.rows.getD j (.bx "" 0)):=by
   rw[js,m,i5];rfl
  have l:=IE QiR ([],-1);rw[hM]at l;have hlen:((c.rows.take j).foldl gW ([],-1)).1.length<=1000000:=by
   have l:((c.rows.take j).foldl gW ([],-1)).1.length<=0+min j c.rows.length:=l;lia
  dsimp only;rw[hn];generalize c.rows.getD j (.bx "" 0)=q at a ⊢;generalize (c.rows.take j).foldl gW ([],-1)=st at hlen ⊢;obtain⟨ws,mo⟩:=st;have f:=uW a;have A:q.cn.iV=true:=xF a;refine aN (mh Qha Qmi rfl).1 (λz=>?_) (λz=>?_)
  .cases q with
   | bx n k=>exact nomatch QfO
   | io n v d=>exact nomatch QfO
   | wy n v=>exact nomatch QfO
   | md n k x s y=>exact ael E.g Q2 rfl ai (aj (aj #[_,rfl]))
  .refine aN (bV Qha aD).1 (λy=>?_) (λy=>aj (aj (aj ?_)))
   .have y:q.word="on":=eI y;cases q with
    | bx n k=>exact absurd y (show ¬ ("box":Str)="on" by decide +kernel)
    | md n k x s u=>exact nomatch QfO
    | io n v d=>
     have y:v="on":=y;have:=a.2.1;rw[y]at this;exact absurd this Wl
    | wy n v=>
     refine gA (E.ll 1).1 rfl (SY (ds:=[.int mo]) (rT:=[.str v.sg,.tup v.qs,.tup v.ds,.int v.tg,.str v.md]) (aV (av Qbq bw) aL) (aB (au (ds:=[.int ((j:Nat)+1:Int),.int (n+1:Nat),.str "on",(RW.wy n v).cn]) QU Qmg yI) A) Qch aL) rfl (by rw[eu];exact hlen) (aj (aj (aj ?_)));show ∃o,_=[_,some (T.lst ((ws++[L3.D.tup [.int mo,.str v.sg,.tup v.qs,.tup v.ds,.int v.tg,.str v.md]]).map T.sh)),_,o];rw[eE];exact#[_,rfl]
   .have y:¬ q.word="on":=fc y;have:gW (ws,mo) q=(ws,mo):=by
     cases q with
     | bx n k=>rfl
     | md n k x s u=>exact nomatch QfO
     | wy n v=>exact absurd rfl y
     | io n v d=>rfl
    rw[this];exact#[_,rfl]
 case fin=>
  rintro δ ⟨o,rfl⟩;have e:((c.rows.take c.wB.length).foldl gW ([],-1)).1=c.ws.map WY.d:=by
   rw[CH.wB,eu,gz,hZ,LO h.ws λw hw=>(h.wn w hw).2]
  rw[e];exact aG Qcx rfl
theorem sj{b:Bx}(E:jP cU 56 2 X CL) :
  jM X CL b cU:=by
 rintro⟨ks,es,ss⟩ h;dsimp only [cU]at h ⊢;obtain⟨hp,h1,h2⟩:=h;have f:=hp.1;have e0:es.getD (0:Int).toNat 0=-1:=by
  have:=f.at (k:=0) Wc Wc;lia
 have c0:b8 es ((0:Nat):Int)=[]:=(y2 f Wc).2;refine aN (iC (i:=-1) (aH Qcs ai ((gC Wc Wc).trans (by rw[e0]))) QaI).1 (λa=>absurd a Wp) (λ_=>aj ?_);refine gB E.g Qai (λj δ=>∃p o,(∀m:Nat,m<j+1->(b8 es m).length<=12)/\δ=[some (.sh (mz ks es ss)),p,o])
  (NP E.lu ai (ak (aP (eu ..) E.bN Qcs QE)) Wc Qx) #[_,_,λm hm=>by rw[show m=0 by lia,c0];exact fv _,rfl] (by rintro j δ ⟨_,_,_,rfl⟩;exact eL rfl) ?turn ?fin
 case turn=>
  rintro j d δ s ⟨p,o,l,rfl⟩;obtain⟨rfl,n⟩:=oO s;have n:j+1<es.length:=by simp at n;lia
  have t:(b8 es (j:Int)).length<=12:=l j Wc;have q:QjA-1=(j:Int):=by lia
  refine az E.g Q2 (aI (gQ (ds:=[.int (j:Int)]) (rT:=(b8 es (j:Int)).map .int) (aT (ds:=[.int (j:Int)]) (aI (cQ (bF (j5 QL ai) cj) aL) (by rw[q];rfl))) (aT (aI (c_ (ks,es,ss,(j:Int)) (E.c 6) Qah (ah Qb (ah (yp (ak (j5 QL ai)) (congrArg L3.D.int q)) ao)) (by dsimp only [t8];exact#[f,Wc,Wc,Wc]) (i7 _)) rfl)) rfl (ez _) (Nat.le_of_lt (bR WF))) (t2:=.lst ((((j:Int)::b8 es (j:Int)).map .int).map T.sh)) rfl) ?_;have hm:es.getD (1+(j:Int)).toNat 0∈(j:Int)::b8 es (j:Int):=by
   have:=hp.2 j n;rw[show(1+(j:Int)).toNat=j+1 by lia];obtain z|z:=this
   .rw[z];exact eB
   .exact eD _ z
  refine aN (iz (jr (YB (i:=es.getD (1+(j:Int)).toNat 0) (aH Qcs QL (gC Wc Wc)) Qet rfl rfl).1 (λ_=>lC (qP (ak (aI (c_ (ks,es,ss,1+(j:Int)) (E.c 7) Qao Qnz (by dsimp only [qB];exact#[f,Wc,Wc,Wc]) rfl) (t2:=.sh (.int ((b8 es QjA).length:Nat))) rfl)) (ak (aJ E.Pr QaO))).1))) (λa=>?_) (λa=>aj (aj #[_,_,λm r=>?_,rfl]))
  .rw[e6 hm]at a;have a:12<((b8 es QjA).length:Int):=eI a;refine aG gy ?_;unfold nC;have e:((j+1:Nat):Int)=1+(j:Int):=by lia
   rw[TJ (x:=j+1) (g4.2 n) (fw (by rw[e];lia))]
  .rw[e6 hm]at a;have a:¬ 12<((b8 es QjA).length:Int):=fc a;by_cases e:m=j+1
   .rw[e,show((j+1:Nat):Int)=1+(j:Int) by lia];lia
   .exact l m Wc
 case fin=>
  rintro δ ⟨p,o,l,rfl⟩;have e:(cX 1 (((es.length:Nat):Int)-1).toNat).length=es.length-1:=by simp[cX]
  refine aG gy ?_;unfold nC;rw[hB.2 λm hm=>e6 (l m ?_)];have:=g4.1 hm
  first
   | (rw[e];lia)
   | (simp[cX];lia)
theorem uq{b:Bx}(E:jP cY 57 0 X CL) :
  jM X CL b cY:=by
 rintro⟨ks,es,ss⟩ h;dsimp [cY]at h ⊢;apply az E.g Qai La;refine gB E.g Q2 (λj δ=>∃f c a,δ=[some _,some (.jq (TH Qys)),f,c,a])
  (ck (nh E.dZ E.cz QaF dH)) #[_,_,_,rfl] (by rintro j δ ⟨_,_,_,rfl⟩;exact eL rfl) ?turn ?fin
 case turn=>
  rintro j d δ m ⟨f,c,a,rfl⟩;obtain⟨x,rfl,_,_,t,_,n⟩:=uK m;have q:=(uS Qu1 []).1;have o:(TH Qys).length<=1000000:=by unfold TH adds;rw[eu];simp at q;lia
  refine adY (.inl x) E.u (E.ll 1).1 gy QD rfl o (aj ?_);rw[Zv,<- OL,<- n];exact#[_,_,_,rfl]
 case fin=>
 rintro δ ⟨f,c,a,rfl⟩;rw[eu,hZ];have r:∀x,decide (x∈adds es)=decide (x∈es):=λx=>decide_eq_decide.2 (((uS es []).2 x).trans W2);refine oS E.g QrO (λj δ=>∃f c a,uT (r4 ks es) (List.range ks.length) j/\δ=[some _,some _,f,c,a])
  (mj Str.empty E.ia (nh E.dZ E.iP QaF nI) Qx) #[_,_,_,.zero,rfl] (λj δ ⟨_,_,_,_,e⟩=>by subst e;intro i hi;simp at hi;obtain rfl|rfl:=hi<;>exact eL rfl) ?F2 ?fin2
 case F2=>
  rintro j d δ m ⟨f,c,a,p,rfl⟩;obtain⟨i,k,rfl⟩:∃i,(List.range _)[j]? = some i/\_=d:=by rw[fT]at m;exact j1.1 m
  have s:=gc k;refine#[_,rfl,?_];refine aN (iz (jr (sU (l:=yU) Qak Qmi rfl rfl).1 (λ_=>lC (ag3 (ak (bV Qak aD).2) (ak (aI (ad5 _ E.u QU (vE (E.ll 1).1 rfl (by rw[T.dJ])) rfl) (congrArg QmS ((Zw _ _).trans (r _))))) rfl rfl rfl).1))) (λhp=>?_) (λhp=>aj (aj #[_,_,_,p.next k ?_,rfl]))
  .apply aG gy;unfold Ij;rw[TJ s ?_];unfold r4;generalize decide Qvw=b1 at hp ⊢;generalize decide Qv5=b2 at hp ⊢;generalize decide ((i:Int)∈es)=b3 at hp ⊢
   revert hp
   cases b1<;>cases b2<;>cases b3<;>first|(intro _;rfl)|(intro hp;simp at hp)
  .unfold r4;generalize decide Qvw=b1 at hp ⊢;generalize decide Qv5=b2 at hp ⊢;generalize decide ((i:Int)∈es)=b3 at hp ⊢
   revert hp
   cases b1<;>cases b2<;>cases b3<;>first|(intro _;rfl)|(intro hp;simp at hp)
 case fin2=>
  rintro δ ⟨f,c,a,p,rfl⟩;apply aG gy;unfold Ij;rw[uT.all (by simpa using p)]
def JG{b:Bx}(E:jP kJ 58 0 X CL) :
  jM X CL b kJ:=by
 rintro⟨i,ds⟩ h;dsimp only [kJ]at h ⊢;exact aG (SR KN KL ai Qb (ak (aP rfl E.bN QL Qx)) (by with_unfolding_all rfl)).2 rfl
theorem sq{b:Bx}(E:jP cV 59 1 X CL) :
  jM X CL b cV:=by
 rintro⟨ks,es,ss⟩ h;dsimp [cV]at h ⊢;refine oS E.g (kX E.g.nd E.g.calm Qai Q2) (λj δ=>∃m l,uT (TL ks es ss) (List.range ss.length) j/\δ=[some _,m,l])
  (mj 0 E.ia (nh E.dZ E.jm QaF oX) Qx) #[_,_,.zero,rfl] (λj δ ⟨_,_,_,e⟩=>by subst e;intro i hi;simp at hi;obtain rfl|rfl:=hi<;>exact eL rfl) ?turn ?fin
 case turn=>
  rintro j d δ o ⟨m,l,f,rfl⟩;obtain⟨i,a,rfl⟩:∃i,(List.range _)[j]? = some i/\_=d:=by rw[fT]at o;exact j1.1 o
  have p:=gc a;have t:=g4.1 p;refine#[_,rfl,?_];have s:sA QvV i=some _:=(gE Str.empty Wc Wc).trans (by rw[i4]);have bad:TL ks es ss i=false->(T.sh _)=T.sh Qmv:=λe=>by
   unfold EW;rw[TJ p e]
  refine aN (uH (aH Qui QL s) aD).1 (λhp=>?_) (λhp=>?_)
  .have e1:¬ ks.getD i Str.empty="one":=by simpa using hp
   refine aN (iC QD QaI).1 (λhp=>?_) (λhp=>aj (aj (aj #[_,_,f.next a ?_,rfl])))
   .refine aG gy (bad ?_);unfold TL;rw[cq e1];simpa using hp
   .unfold TL;rw[cq e1];simpa using hp
  .have e1:ks.getD i Str.empty="one":=by simpa using hp
   by_cases e2:Ab Qjc es.length=true
   .have k:=e2;unfold Ab at k;rw[fD]at k;have p0:=eI k.1;have r:=eI k.2;have n:Ab Qjc (es.map L3.D.int).length=true:=by rw[eu];exact e2
    refine aN (iz (jr QpN (λ_=>lC (iC (aH Qcs QD (gC p0 r)) QL).1))) (λhp=>?_) (λhp=>aj (aj (aj #[_,_,f.next a ?_,rfl])))
    .refine aG gy (bad ?_);unfold TL;rw[dU e1,e2];simpa using hp
    .unfold TL;rw[dU e1,e2];simpa using hp
   .have e2:Ab Qjc es.length=false:=by simpa using e2
    have n:Ab Qjc (es.map L3.D.int).length=false:=by rw[eu];exact e2
    refine aN (iz (jr (q:=true) QpN (λhz=>by cases hz))) (λhp=>?_) (λhp=>by cases hp);refine aG gy (bad ?_);unfold TL;rw[dU e1,e2];rfl
 case fin=>
  rintro δ ⟨m,l,f,rfl⟩;apply aG gy;unfold EW;rw[uT.all (by simpa using f)]
theorem wI{b:Bx}(E:jP fM 60 3 X CL) :
  jM X CL b fM:=by
 rintro⟨ks,es,ss,nm⟩ h;dsimp only [fM]at h ⊢;obtain⟨⟨hp,a⟩,kl,sl,hn⟩:=h;refine az E.g Q2 (aP (n:=es.length) ((eu ..).trans kl) E.bN Qui Qx) ?_;refine aN (iz (jr (bH QD ai).1 (λ_=>jr (iC (ak (aP (n:=es.length) (eu ..) E.bN Qcs Qx)) QD).1 (λ_=>jr (iC (ak (aP (n:=es.length) ((eu ..).trans sl) E.bN (bL E.dZ E.jm Qb oX) Qx)) QD).1 (λ_=>lC (iC (ak (aP (n:=es.length) hn E.bN QL Qx)) QD).1))))) (λz=>?_) (λz=>aj ?_)
 .have z:es.length=0:=by simpa using z
  refine aG gy ?_;unfold FH;rw[fw (show ¬ 0<es.length by lia)];rfl
 have z:¬ es.length=0:=by simpa using z
 have e:FH ks es ss=Qr0:=by
  unfold FH;rw[e6 (show 0<es.length by lia),i0]
 rw[e];exact aG (jE (aI (c_ (ks,es,ss) (E.c 56) QE Qbt (by dsimp only [cU];exact#[hp,Wc,a]) rfl) (t2:=.sh (.bl (nC es))) rfl) (λ_=>jE (aI (c_ (ks,es,ss) (E.c 57) Qah Qbt (by dsimp only [cY];lia) rfl) (t2:=.sh Qxa) rfl) (λ_=>jD (aI (c_ (ks,es,ss) (E.c 59) Qao Qbt (by dsimp only [cV];exact#[kl,sl,a]) rfl) (t2:=.sh Qmv) rfl)))) rfl
theorem ur{b:Bx}(E:jP cZ 61 1 X CL) :
  jM X CL b cZ:=by
 intro l h;dsimp only [cZ]at h ⊢;obtain⟨h1,k⟩:=h;refine gB E.g Qai (λj δ=>∃o,uT aU l j/\δ=[some (.sh (.lst QbR)),o]) Qcd #[_,.zero,rfl] (by rintro j δ ⟨_,_,rfl⟩;exact eL rfl) ?turn ?fin
 case turn=>
  rintro j d δ i ⟨o,e,rfl⟩;obtain⟨x,a,rfl⟩:∃x,l[j]? = some x/\L3.D.str x=d:=by rw[fT]at i;exact j1.1 i
  have f:x∈l:=gc a;refine aN (dO (fh (aI (c_ x (E.c 37) Qx Qaq (Nat.le_of_lt (bR (h1 x f))) rfl) (t2:=.sh Qdh) rfl))) (λhp=>?_) (λhp=>aj (aj #[_,e.next a (by simpa using hp),rfl]));refine aG gy ?_;unfold oh;rw[TJ f (by simpa using hp)];rfl
 case fin=>
  rintro δ ⟨o,e,rfl⟩;rw[eu]at e;refine aG (aI (bH (ak (HV E.g E.bN E.T2 Qb k QE Qah)) (ak (aP (eu ..) E.bN Qb QE))).2 (t2:=.sh (.bl (oh l))) (congrArg Qa2 ?_)) rfl;unfold oh;rw[e.all,i0];refine decide_eq_decide.2 ?_;rw[<- aej];lia
def DC{b:Bx}(E:jP iO 62 0 X CL) :
  jM X CL b iO:=by
 intro i h;dsimp only [iO]at h ⊢;exact aG (SR KL KL (ak (cJ (ak (B9 ai ai #[Wp,Wp,Wp])))) Qb (ak (B9 ai ai #[Wp,Wp,Wp])) (by with_unfolding_all rfl)).2 rfl
theorem uv{b:Bx}(E:jP eO 63 2 X CL) :
  jM X CL b eO:=by
 intro l h;dsimp only [eO]at h ⊢;obtain⟨h1,n⟩:=h;refine gB E.g Qai (λj δ=>∃o,uT (λq:Str×Int=>Zq q.2) l j/\δ=[some (.sh (.lst (l.map mc))),o]) Qcd #[_,.zero,rfl] (by rintro j δ ⟨_,_,rfl⟩;exact eL rfl) ?turn ?fin
 case turn=>
  rintro j d δ i ⟨o,e,rfl⟩;obtain⟨q,a,rfl⟩:∃q,l[j]? = some q/\mc q=d:=by rw[fT]at i;exact j1.1 i
  refine aN (dO (fh (aI (c_ q.2 (E.c 62) Qx (ah QhV ao) trivial rfl) (t2:=.sh (.bl (Zq q.2))) rfl))) (λhp=>?_) (λhp=>aj (aj #[_,e.next a (by simpa using hp),rfl]));refine aG gy ?_;unfold Aq;rw[TJ (p:=λq:Str×Int=>Zq q.2) (List.mem_of_getElem? a) (by simpa using hp)];rfl
 case fin=>
  rintro δ ⟨o,e,rfl⟩;rw[eu]at e;have m:∀x∈l.map (·.1),x.length<=1000:=λx k=>by
   obtain⟨q,f,rfl⟩:=eJ.1 k;exact h1 q f
  refine aG (aI (c_ (l.map (·.1)) (E.c 61) QE (ah (aT (aI (gu (p:=λ_=>true) (g:=λd=>T.sh (.str d.xi.toS)) Qbu E.g.calm Qcd Qam (λC s0 s f0 r d hd=>?Au) (Nat.le_of_lt (bR (by rw[List.length_map];lia)))) ?ceq)) ao) (by dsimp only [cZ];exact#[m,by rw[List.length_map];exact n]) rfl) (t2:=.sh (.bl (oh (l.map (·.1))))) rfl) ?res
  case Au=>
   obtain⟨q,f,rfl⟩:=eJ.1 hd;exact#[rfl,λ_=>aB (au (eU 0) ai dP) rfl]
  case ceq=>
   rw[cG,ey,ey,ey];rfl
  case res=>
   unfold Aq;rw[e.all];rfl
def wJ{b:Bx}(E:jP fN 64 1 X CL) :
  jM X CL b fN:=by
 rintro⟨bs,nm,tr,is,os,ws,i,c⟩ h;dsimp only [fN]at h ⊢;exact aG (jE (LS (bH QbL QaI).2 (λ_=>jD (aI (c_ (i,bs) Qgq Qx (ah QbL (ah Qho ao)) trivial rfl) (t2:=.sh Quj) rfl))) (λ_=>jD (aI (c_ c (E.c 62) QE (ah QbL ao) trivial rfl) (t2:=.sh (.bl (Zq c))) rfl))) rfl
def wL{b:Bx}(E:jP fP 65 2 X CL) :
  jM X CL b fP:=by
 rintro⟨bs,nm,tr,is,os,ws,q⟩ h;dsimp only [fP]at h ⊢;cases q with
 | put i a c=>
  refine az E.g Q2 Qfz ?_;refine aN (bV QD aD).1 (λ_=>?_) QsS;exact aG (jE (aI (c_ (i,bs) Qgq Qx (ah QhV (ah Qho ao)) trivial rfl) (t2:=.sh Quj) rfl) QpH) rfl
 | say x a c=>
  have d:x.length<=1000:=h;refine az E.g Q2 Qfz ?_;refine aN (bV QD aD).1 Qlm (λ_=>aj ?_);refine aN (bV QD aD).1 (λ_=>?_) QsS;exact aG (jE QpR QpH) rfl
 | call x=>
  have d:x.length<=1000:=h;refine az E.g Q2 Qfz ?_;refine aN (bV QD aD).1 Qlm (λ_=>aj ?_);refine aN (bV QD aD).1 Qlm (λ_=>aj ?_);exact aG (aI (jE (bV QD aD).2 (λ_=>jD QpR)) (t2:=.sh Qdh) (congrArg Qa2 (by rw[e6 rfl];rfl))) rfl
theorem uw{b:Bx}(E:jP c9 66 3 X CL) :
  jM X CL b c9:=by
 rintro⟨bs,nm,tr,is,os,ws⟩ h;dsimp [c9]at h ⊢;obtain⟨h1,h2,t,s,r⟩:=h;apply az E.g Qai (aP rfl E.bN QcY Qx);refine aN (iz (jr (iC (ak (aP ((eu ..).trans h1) E.bN Quk Qx)) QL).1 (λ_=>lC (iC (ak (aP ((eu ..).trans h2) E.bN Qul Qx)) QL).1))) (λhp=>?_) (λ_=>aj ?_)
 .simp at hp
 have im:=cR (f:=λl:List Lk=>L3.D.tup QcE) (cR (λq=>by cases q<;>rfl));refine gB E.g Q2 (λj δ=>∃k a,δ=[some _,some _,k,a])
  (ck (qd (aI (gQ (rT:=(ws.map (·.dl)).map _) (aT (aI (gQ Quk Qul (im is) (im os) (hS (bR WF))) (by rw[<- eE]))) (aT (aI (gu (p:=λ_=>true) (g:=λd=>T.sh (RO d)) Qbu E.g.calm (ck QlN) Qam (λC s0 v f0 u d hd=>?Au) (hS (bR (by rw[eu];lia)))) ?ceq)) (im _) (im _) (hS (bR WF))) (by rw[<- eE])))) #[_,_,rfl] (by rintro j δ ⟨_,_,rfl⟩;exact eL rfl) ?turn ?fin
 case Au=>
  obtain⟨w,hw,rfl⟩:=eJ.1 hd;exact#[rfl,λ_=>aB (au (eU 0) (ak (aJ (E.MS) iY)) yI) (cR (λq=>by cases q<;>rfl) _)]
 case ceq=>
  rw[cG,ey,ey,ey];rfl
 case turn=>
  rintro j d δ o ⟨k,a,rfl⟩;obtain⟨l,n,rfl⟩:=eJ.1 (gc o);have m:=r l n;refine gB E.g Qag (λj δ=>∃a,δ=[some _,some _,some _,a]) (uI Qbq) #[_,rfl] (by rintro j δ ⟨_,rfl⟩;exact eL rfl) ?F2 ?fin2
  case F2=>
   rintro i d δ hi ⟨a,rfl⟩;obtain⟨q,e,rfl⟩:=eJ.1 (gc hi);exact aN (dO (fh (aI (c_ (bs,nm,tr,is.map _,os.map _,ws.map Zu,q) (E.c 65) QE (ah Qb Qhb) (m q e).1 rfl) (congrArg QmS (m q e).2)))) Qbx Qrm
  case fin2=>
   rintro δ ⟨a,rfl⟩;exact aj #[_,_,rfl]
 case fin=>
  rintro δ ⟨k,a,rfl⟩;exact aG gy rfl
def zC{b:Bx}(E:jP gi 67 2 X CL) :
  jM X CL b gi:=by
 rintro⟨bs,nm,tr,is,os,ws,q⟩ h;dsimp only [gi]at h ⊢;cases q with
 | kO x m=>
  refine az E.g Q2 Qfz ?_;refine aN (gF (l:=["open","shut"]) QD QaX).1 (λ_=>?_) (λhp=>absurd (show x∈(["open","shut"]:AT) from h) (fc hp));exact aG (aI (c_ (m,nm) Qgq Qx (ah QhV QhW) trivial rfl) rfl) rfl
 | num mk a1 c1 a2 c2=>
  refine az E.g Q2 Qfz ?_;refine aN (gF (l:=["open","shut"]) QD QaX).1 (λhp=>absurd Qe1 h) (λ_=>aj ?_);exact aG (jE (K7 (l:=["<","<=","=","!="]) QD (ak (dB E.xV QE)) rfl rfl).2 (λ_=>jE (aI (c_ (bs,nm,tr,is,os,ws,a1,c1) (E.c 64) Qah (ah Qb (ah QhV ao)) trivial rfl) (t2:=.sh (.bl (Ii bs.length a1 c1))) rfl) (λ_=>jD (aI (c_ (bs,nm,tr,is,os,ws,a2,c2) (E.c 64) Qah (ah Qb (ah (au QL ai gS) ao)) trivial rfl) (t2:=.sh (.bl (Ii bs.length a2 c2))) rfl)))) rfl
def zE{b:Bx}(E:jP gk 68 3 X CL) :
  jM X CL b gk:=by
 rintro⟨bs,nm,tr,is,os,ws,src,sg,al,dd,tg,md⟩ h;dsimp only [gk]at h ⊢;obtain⟨h1,⟨h2,r⟩,p,n,m⟩:=h;refine az E.g Q2 (aB (au QL (ak (aJ E.zu Qx)) Qww) rfl) ?_;refine az E.g Qag (aB (au QL (ak (aJ E.Jm QE)) (gq (j:=5) rfl)) rfl) ?_;refine aN (iz (jr (dO (fh (aI (c_ (src,nm) Qgq Qah (ah (au QL (ak (aJ E.ug Qao)) dP) QhW) trivial rfl) (t2:=.sh QaG) (congrArg Qa2 h1)))) (λ_=>jr (dO (fh (aI (c_ sg (E.c 37) QaO (ah (au QL (ak (aJ E.Wm Qba)) eV) ao) (hS (bR h2)) rfl) (t2:=.sh QaG) (congrArg Qa2 r)))) (λ_=>lC (sU (l:=["new","near","far"]) QU (ak (dB E.Dw QcP)) rfl rfl).1)))) (λhp=>?_) (λ_=>aj ?_)
 .rw[e6 p]at hp;exact absurd hp Wp
 refine SO (λδ=>δ=[some Qsy,some Qqh,some Qxj,some Qxk,none]) (λδ2 e2=>?_) (λk=>?_)
 .subst e2;refine gB E.g Qau (λj δ=>∃o,δ=[some Qsy,some Qqh,some Qxj,some Qxk,o])
   (uI (aB (au QL (ak (aJ E.Wn QeX)) gS) (TF al))) #[_,rfl] (by rintro j δ ⟨_,rfl⟩;exact eL rfl) ?turn ?fin
  case turn=>
   rintro j d δ i ⟨o,rfl⟩;obtain⟨q,f,rfl⟩:=eJ.1 (gc i);obtain⟨e,a⟩:=m q f;exact aN (dO (fh (aI (c_ (bs,nm,tr,is,os,ws,q) (E.c 67) QjQ (ah Qb Qn5) e rfl) (t2:=.sh QaG) (congrArg Qa2 a)))) Qbx Qrm
  case fin=>
   rintro δ ⟨o,rfl⟩;exact aG gy rfl
 obtain⟨e1,e2⟩|⟨e1,e2⟩:=n
 .refine aN (bH QD QaI).1 (λ_=>?_) (λhp=>absurd e1 (fc hp));refine aN (uH QU aD).1 (λhp=>?_) Qsi;rw[e6 e2]at hp;exact absurd hp Wp
 .refine aN (bH QD QaI).1 (λhp=>absurd Qe1 e1) (λ_=>?_);refine aN (dO (fh (aI (c_ (tg,nm) Qgq Qah (ah QD QhW) trivial rfl) (t2:=.sh QaG) (congrArg Qa2 e2)))) Qbx Qsi
theorem vg{b:Bx}(E:jP dM 69 4 X CL) :
  jM X CL b dM:=by
 rintro⟨bs,nm,tr,is,os,ws⟩ h;dsimp [dM]at h ⊢;obtain⟨h1,h2⟩:=h;apply az E.g Qai uG;refine gB E.g Q2 (λj δ=>∃(l:Int) (o:Qfj),(∀w∈ws.drop j,l<=w.src)/\δ=[some _,some (.sh (.int l)),o])
  (ck QlN) #[0,_,λw hw=>?_,rfl] (by rintro j δ ⟨_,_,_,rfl⟩;exact eL rfl) ?turn ?fin
 .have:=(h1 w (List.mem_of_mem_drop hw)).1;unfold Ab at this;rw[fD]at this;exact eI this.1
 case turn=>
  rintro j d δ f ⟨l,o,k,rfl⟩;obtain⟨w,hw,rfl⟩:∃w,ws[j]? = some w/\Zu w=d:=by rw[fT]at f;exact j1.1 f
  have m:=(hR.1 hw).1;have a:ws.drop j=w::ws.drop QaH:=by rw[xk m,(hR.1 hw).2]
  have e:=gc hw;have n:=k w (a▸eB);refine aN (iz (jr (El Qsa QL).1 (λ_=>lC (dO (fh (aI (c_ (bs,nm,tr,is,os,ws.map Zu,w.src,w.sign,w.al,w.dl.map Lv,w.m1,w.mode) (E.c 68) QE Qxe (h1 w e) rfl) rfl)))))) (λhp=>?_) (λ_=>aj ?_)
  .rw[fw Wc]at hp;exact absurd hp Wp
  refine az E.g Qai (aB Qsa rfl) (aj #[ _,_,λv hv=>?_,rfl]);have hp:=h2.drop (i:=j);rw[a]at hp;exact(List.pairwise_cons.1 hp).1 v hv
 case fin=>
  rintro δ ⟨l,o,_,rfl⟩;exact aG gy rfl
theorem PR{b:Bx}(E:EX kK.N (gN kK.st) (cN kK.st) 70 5 QP CL) :
  mw X W CL b kK:=by
 rintro⟨bs,nm,ks,es,ss,is,os,ws⟩ h a;dsimp only [kK,HR]at h a ⊢;have h:GG bs nm ks es ss is os ws:=h;have e:(nm.map L3.D.str).length=nm.length:=eu ..;have f:(bs.map mc).length=bs.length:=eu ..;have a:Qsp=false->eW b W (CL QpL) none:=a;have hw:(nm.map L3.D.str).length=nm.length:=e;cases d:FH ks es ss with
 | false=>
  refine aN (dO (fh (aI QpM (t2:=.sh QeD) Qv6))) (λ_=>?_) Qbx;rw[d]at a;exact Ct E.g.calm QE E.Jo E.Jp (a rfl)
 | true=>
 refine aN (dO (fh (aI QpM (t2:=.sh QaG) Qv6))) Qbx (λ_=>aj ?_);have hn:nm.length<=1000:=by have:=h.nl;have:=h.l4;lia
 cases hm:oh nm with
 | false=>
  refine aN (dO (fh (aI Qqx (t2:=.sh QeD) Qvx))) (λ_=>?_) Qbx;rw[d,hm]at a;exact Ct E.g.calm Qao E.Jq E.Jr (a rfl)
 | true=>
 refine aN (dO (fh (aI Qqx (t2:=.sh QaG) Qvx))) Qbx (λ_=>aj ?_);cases hb:Aq bs with
 | false=>
  refine aN (dO (fh (aI Qqi (t2:=.sh QeD) Qvy))) (λ_=>?_) Qbx;rw[d,hm,hb]at a;exact Ct E.g.calm Qba E.Pu E.Pw (a rfl)
 | true=>
 refine aN (dO (fh (aI Qqi (t2:=.sh QaG) Qvy))) Qbx (λ_=>aj ?_);refine aN (dO (fh (aI (c_ (bs.map mc,nm.map L3.D.str,mz ks es ss,is,os,ws) (E.c 66) QcP Qbt (by dsimp only [c9];rw[e,f];exact#[h.il,h.ol,h.nl▸h.l4,h.wl,h.dd]) rfl) (t2:=.sh QaG) rfl))) Qbx (λ_=>aj ?_);refine aN (dO (fh (aI (c_ (bs.map mc,nm.map L3.D.str,mz ks es ss,is.map λl=>L3.D.tup QcE,os.map λl=>L3.D.tup QcE,ws) (E.c 69) QjQ Qbt (by dsimp only [dM];rw[e,f];exact#[h.ww,h.wp]) rfl) (t2:=.sh QaG) rfl))) Qbx (λ_=>aj ?_);exact aj #[rfl,rfl]
theorem aaN{b:Bx}(E:EX sf.N (gN sf.st) (cN sf.st) 71 9 QP CL) :
  mw X W CL b sf:=by
 intro x h s;dsimp only [sf,HR]at h s ⊢;obtain⟨I,hp⟩:=h;have I:x.length<=900000:=I;have hp:l0 x:=hp;have s:(wF "" (-1) (e7 x)&&QmC)=false->eW b W (CL (ma x).1) (ma x).2:=s;cases j:wF "" (-1) (e7 x) with
 | false=>
  have e:ma x=(("BadRow",some [("row",.int (QK 1 "" (-1) (e7 x)))]):Str×Option CA):=dU j;rw[j,e]at s;exact yL E.g Qai (Po (E.c 36) Qx (cB (t:=T.bad) (δ2:=[]) x (E.c 52) QE Qbt #[I,j] (s rfl)) lF (t:=T.bad) (δ2:=[])) lF
 | true=>
 have cl:(T.lst ((vY 1 (e7 x)).map dY.t)).clean=true:=by
  rw[gY];exact Bv _ λf _=>BH f
 have fz:(T.lst ((vY 1 (e7 x)).map dY.t)).dJ=.lst ((sE x).map dY.d):=by
  rw[T.dJ];exact congrArg L3.D.lst (U6 _ λf _=>tX f)
 cases G:l8 x with
 | false=>
  have e:ma x=(("NoName",some [("row",.int (U4 (sE x)))]):Str×Option CA):=(cq (by rw[j];decide)).trans (dU G);rw[j,G,e]at s;exact yL E.g Qai (cB (δ2:=[]) (sE x) (E.c 36) Qx QpO #[LF hp j,G] (s rfl)) lF
 | true=>
 obtain⟨⟨h,eb,L,_⟩,en⟩:=I0 hp j G;have e:ma x=((if FH (qS x).ks (qS x).es (qS x).ss=false then "BadTree" else if oh (qS x).ns=false then "BadName" else "BadBox",none):Str×Option CA):=(cq (by rw[j];decide)).trans (cq (by rw[G];decide));rw[j,G,e]at s;have en:T.lst (((sE x).map (dY.n (Fp (sE x)) (D3 (sE x)))).map T.sh)=.lst ((qS x).wB.map T.sh):=by
  rw[<- eb,<- L,en]
 refine az E.g Qai (fU (d:=.lst (qS x).wB) (aI (c_ (sE x) (E.c 36).give Qx QpO #[LF hp j,G] (by show T.clean (T.lst _)=true;rw[en];exact bM (Vy h))) en) (cI _)) ?_;show cK QP CL b _ [some QbB,some (.sh (.lst (qS x).wB)),none,none,none,none,none] _;rw[i0,i0]at s;rw[i0,i0];clear cl fz e en L eb j G hp I;generalize qS x=c at h s ⊢;generalize x=tx;have bZ:=jT h;have ae:=h.rl;have e1:c.es.length<=900:=fg h.e1 Wp;have hlen:c.wB.length<=sizeLine:=by
  rw[CH.wB,eu,gz,fR];lia
 have Z:c.wB=idx QrP c.rows:=rfl;have B:c.kW.length<=sizeLine:=fg QsO hlen;refine rV (p:=λd=>decide ((aS d 2).toS∈bB)) (gg:=λd=>.sh d) E.g Q2 Qbu (ck Qb8) Qam (λC s0 O f0 M d hd=>?zA) hlen ?mR (by exact eL rfl) Qbr
 case zA=>
  obtain⟨i,r,_,S,_,rfl⟩:=xG (F:=λi r=>r.nf ((i:Nat)+1:Int)) hd;exact#[(mh (au (eU 0) (ak (aJ (by exact E.jK) iY)) gS) (ak (dB (by exact E.fY) iY)) rfl).1,λz=>v_ (An 0)]
 case mR=>
 refine SW (i:=2) (d:=.lst c.kW) rfl (cI _) ?_;show cK QP CL b _ [some Qxl,some Qix,some Qv7,none,none,none,none] _;refine rV (p:=λ_=>true) (gg:=λd=>.sh Qbi) E.g Qag Qbu Qdu Qam (λC s0 O f0 M d hd=>?zB) B ?pU (by exact eL rfl) Qbr
 case zB=>
  obtain⟨i,n,k,x,z,rfl⟩:=tZ h hd;exact#[rfl,λ_=>aB (au (eU 0) (ak (aJ (by exact E.jK) iY)) gS) rfl]
 case pU=>
 have ek:T.lst ((c.kW.filter λ_=>true).map λd=>T.sh Qbi)=.lst ((c.ks.map .str).map T.sh):=by
  rw[pI h (g':=λr=>.sh (.str r.word)) Qdi,ey,<- h.kl];exact congrArg T.lst (Bt (f:=λx=>T.sh Qax) c.ks)
 rw[ek];refine SW (i:=3) (d:=.lst Qxm) rfl (cI _) ?_;refine az E.g Qau (fU (d:=.lst Qxn) (c_ c.es (E.c 53) Qah (ah (d:=.lst ((Aw c.es).map .int)) (aT (aI (gu (p:=λ_=>true) (g:=λd=>.sh QdH) Qbu E.g.calm Qdu Qam (λC s0 O f0 M d hd=>?Wu) B) (t2:=.lst (((Aw c.es).map .int).map T.sh)) ?eq3)) ao) (by dsimp only [jC];exact#[h.pre,e1]) (bM (ez _))) (cI _)) ?Wv
 case Wu=>
  obtain⟨i,n,k,x,z,rfl⟩:=tZ h hd;exact#[rfl,λ_=>aB (au (eU 0) (ak (aJ (by exact E.kL) iY)) eV) rfl]
 case eq3=>
  rw[pI h (g':=λr=>.sh (.int r.bl)) Qdi,Aw,ey,ey];rfl
 case Wv=>
 refine rV (p:=λ_=>true) (gg:=λd=>.sh QpC) E.g Qav Qbu Qdu Qam (λC s0 O f0 M d hd=>?alS) B ?Ww (by exact eL rfl) Qbr
 case alS=>
  obtain⟨i,n,k,x,z,rfl⟩:=tZ h hd;exact#[rfl,λ_=>aB (au (au (eU 0) (ak (aJ (by exact E.ic) iY)) yI) ai eV) rfl]
 case Ww=>
 have es:T.lst ((c.kW.filter λ_=>true).map λd=>T.sh QpC)=.lst ((c.ss.map .int).map T.sh):=by
  rw[pI h (g':=λr=>.sh (aS r.cn 1)) Qdi,ey,<- h.sl];exact congrArg T.lst (IY (f:=λx=>T.sh QjL) c.ss)
 rw[es];refine SW (i:=5) (d:=.lst Qxo) rfl (cI _) ?_;show cK QP CL b _ [some Qxl,some Qix,some Qv7,some (.sh (.lst Qxm)),some (.sh (.lst Qxn)),some (.sh (.lst Qxo)),none] _;have ib:D.bC Qey=true:=cR Qal _;have ii:D.bC QuV=true:=qA h.is;have io:D.bC QuW=true:=qA h.os;have U:D.bC Qeq=true:=Dj h;have J:T.dJ (.ins "Chart" QpI)=c.d:=by
  rw[yP,Bl];rfl
 refine az E.g QbT (Hn (f:="tree") (t:=.ins "Tree" (qR c.ks c.es c.ss)) (HP:=uQ Qey QiL) (QC:=uR QiM QiN Qeq) (λv=>(c.bs.map oZ,c.ns.map L3.D.str,v,c.is.map L3.D.tup,c.os.map L3.D.tup,c.ws.map WY.d)) (E.c 11) Qao
  (sW (d:=.lst Qey) (aT (aI (gu (p:=λd=>decide ((aS d 2).toS="box")) (g:=λd=>.sh QiW) Qbu E.g.calm (ck Qb8) Qam (λC s0 O f0 M d hd=>?alT) hlen) ?eq5))
   (sW (d:=.lst QiL) (aT (aI (gu (p:=λ_=>true) (g:=λd=>.sh QpD) Qbu E.g.calm Qdu Qam (λC s0 O f0 M d hd=>?alU) B) ?eq6))
    (EE (aI (mk_ (c.ks,c.es,c.ss) (E.c 10) QaO (ah QU (ah Qak (ah QaW ao))) trivial (oY _ _ _)) rfl)
     (ah (d:=.lst QiM) (aT (aI (c_ (c,true) (E.c 54) Qba Qvz h (bM ii)) rfl))
      (ah (d:=.lst QiN) (aT (aI (c_ (c,false) (E.c 54) Qba Qvz h (bM io)) rfl))
       (ah (d:=.lst Qeq) (aT (c_ c (E.c 55) QcP Qaq h (bM U))) ao))))))
  (λv=>rfl) (λv=>#[ib,cu _,ii,io,U]) Qvs (tD ib (cu _)) (tE ii io U)) ?aiJ
 case alT=>
  obtain⟨i,r,_,S,_,rfl⟩:=xG (F:=λi r=>r.nf ((i:Nat)+1:Int)) hd;exact#[(bV (au (eU 0) (ak (aJ (by exact E.jK) iY)) gS) aD).1,λz=>aB (au (eU 0) (ak (aJ (by exact E.ic) iY)) yI) (xF (bZ r S))]
 case eq5=>
  rw[Z,C3 (p:=λd=>decide ((aS d 2).toS="box")) (g:=λd=>T.sh QiW) (p':=RW.ZP) (g':=λr=>.sh r.cn) c.rows QrP (λi r S=>aeY (bZ r S)) (λ_ _ _ _=>rfl),UM];unfold CH.br;rw[ey,ey];rfl
 case alU=>
  obtain⟨i,n,k,x,z,rfl⟩:=tZ h hd;exact#[rfl,λ_=>aB (au (au (eU 0) (ak (aJ (by exact E.ic) iY)) yI) ai dP) rfl]
 case eq6=>
  rw[pI h (g':=λr=>.sh (aS r.cn 0)) Qdi,ey,<- h.nl];exact congrArg T.lst (Bt (f:=λx=>T.sh Qax) c.ns)
 case aiJ=>
 have K:c.bn.length=c.bs.length:=eu ..;have A:=h.nl;obtain⟨R,ei,li,hi⟩:=Vw c.is h.is;obtain⟨P,eo,lo,j⟩:=Vw c.os h.os;have V:∃qs:List Zt,c.ws.map WY.d=qs.map Zu/\qs.map (·.src)=c.ws.map (·.src)/\(∀q∈qs,q.Ok c.ns.length c.bn.length)/\∀q∈qs,∀x∈q.dl,nH x/\nN c.bn.length x=true:=by
  have hw:=h.wn;rw[<- A]at hw;generalize c.ws=l at hw
  induction l with
  | nil=>exact#[[],rfl,rfl,λq y=>by(cases y),λq y=>by(cases y)]
  | cons w l ih=>
   obtain⟨q,a1,a2,a3,a4⟩:=ND (hw w eB).1 (hw w eB).2;obtain⟨qs,b1,b2,b3,b4⟩:=ih (λx u=>hw x (eD _ u));refine#[q::qs,by rw[e4,e4,a1,b1],by rw[e4,e4,a3,b2],λx u=>?_,λx u=>?_]
   .obtain rfl|u:=ew.1 u
    .exact a2
    .exact b3 x u
   .obtain rfl|u:=ew.1 u
    .exact a4
    .exact b4 x u
 obtain⟨H,aa,sw,O9,Y⟩:=V;have iA:c.d=jG (c.bs.map mc) QiL Qvn (R.map λl=>L3.D.tup QcE) (P.map λl=>L3.D.tup QcE) (H.map Zu):=by
  unfold CH.d;rw[ei,eo,aa];rfl
 have hL:GG c.bs c.ns c.ks c.es c.ss R P H:=by
  have el:H.length=c.ws.length:=by
   have:=congrArg List.length sw
   rwa [eu,eu]at this
  have nm:∀{x:Str},aU x=true->x.length<=1000:=λh=>by
   have:=(eK h).2.1;lia
  refine#[h.pre,h.kl,h.sl,A,fg h.e1 Wp,λx u=>nm (h.n x u),λq y=>nm (h.bk q y).1,h.bl,by rw[li,A,h.il],by rw[lo,A,h.ol],el▸h.wl,?_,?_,?_]
  .intro l o q y;rw[<- K];obtain o|o:=eC.1 o
   .obtain o|o:=eC.1 o
    .exact hi l o q y
    .exact j l o q y
   .obtain⟨v,hv,rfl⟩:=eJ.1 o;exact Y v hv q y
  .intro q y;rw[<- K];exact O9 q y
  .have a:(H.map (·.src)).Pairwise (· <= ·):=by
    rw[sw];exact vr.2 h.ws
   exact vr.1 a
 have s:(FH c.ks c.es c.ss&&QvR)=false->eW b W (CL (if FH c.ks c.es c.ss=false then "BadTree" else if oh c.ns=false then "BadName" else "BadBox")) none:=s;cases o:c.lk with
 | false=>exact Zj (cB (t:=T.bad) (δ2:=[]) (c.bs,c.ns,c.ks,c.es,c.ss,R,P,H) (E.c 70) QeX Qrd #[hL,o] (s o)) lF
 | true=>
 refine Ld (c_ (c.bs,c.ns,c.ks,c.es,c.ss,R,P,H) (E.c 70).give QeX Qrd #[hL,o] rfl).m ?_;exact aG QfT #[rfl,rfl]
structure YA(X:Cx)(CL:BM):Prop extends EX Wk (gN FU) (cN FU) 72 10 X CL where
 nx:X.xe=λ_ _=>False
 ek:∀p∈([("BadRow",CL "BadRow"),("NoName",CL "NoName"),("BadTree",CL "BadTree"),("BadName",CL "BadName"),("BadBox",CL "BadBox")]:D1),Tr X.K p.1 p.2 QmY []
theorem Yf{b:Bx}(E:YA X CL) :
  Dds X CL b FU Wk qE qF qG:=by
 intro a h;dsimp only [qF,qE,qG]at h ⊢;have F:a.length<=1000:=by lia
 obtain⟨s,J⟩:∃s,s=cutD a none Qgo++cutD a Qgr Qgi:=#[_,rfl];have f:s.length<=74:=by
  have h1:=xQ a (a:=2) Wp;have h2:(cutD a Qgr Qgi).length<=72:=by
   unfold cutD HT.iy;simp only[show ¬ (9:Int)<0 by decide,show ¬ (81:Int)<0 by decide,if_false];rw[hM];lia
  have G:=List.length_take_le 2 a;rw[J,eP,h1];show(a.take 2).length+_<=74;lia
 have B:cutD QiE none Qgo++cutD QiE Qgr Qgi=s.map .int:=by rw[fX,fX,<- eE,<- J]
 have ci:∀l k,D.bC (cutD QiE l k)=true:=λl k=>by
  rw[fX];exact ez _
 have cl:∀l k,(cutD QiE l k).length<=1000:=λl k=>by
  rw[fX,eu];exact fg (MG a l k).length_le F
 have n:=Du f;have Xm:=Lm n.v (Jl f).2.2;have i:=Pn f;have bZ:=aaI f;obtain⟨t1,t2,_⟩:=Jl f;have v:=n.v;have y:=V5 (kR s).bs;have w:D.bC ((kR s).is.map L3.D.tup)=true:=qA v.is;have u:D.bC ((kR s).os.map L3.D.tup)=true:=qA v.os;have r:D.bC ((kR s).ws.map WY.d)=true:=Dj v;have dJ:∀c:CH,c.t.dJ=c.d:=λc=>by
  show T.dJ (.ins "Chart" (lH _ _ _ _ _ _))=_;rw[yP,Bl];rfl
 refine az E.g Qai (aI (c_ (kR s) (E.c 9) Qx (ah (ak (fU (d:=(kR s).d) (c_ ((kR s).bs.map oZ,(kR s).ns,(kR s).ks,(kR s).es,(kR s).ss,(kR s).is.map L3.D.tup,(kR s).os.map L3.D.tup,(kR s).ws.map WY.d) (E.c 12) QE (ah (ak (aI (cF s (E.c 24) Qah (av (qd (ds:=s.map .int) (aI (gQ (ds:=cutD QfM none Qgo) (rT:=cutD QfM Qgr Qgi) (aT (dz Qb (ez _) cH QbV)) (aT (dz Qb (ez _) QbV QbV)) Qa9 Qa9 (by have:=cl none Qgo;have:=cl Qgr Qgi;rw[sizeLine_eq];lia)) (by rw[B]))) bw) (Nat.le_trans f Wp)) (t2:=.sh (kR s).p) rfl)) ao) (by dsimp only [ku];exact#[y,w,u,r]) (FI v)) (dJ (kR s)))) ao) Xm rfl) (t2:=.sh (.str (Xz s))) QvA) ?_;refine aN (dO (fh (Hx E.um E.FW Qao QaO QL))) (λz=>by cases z) (λ_=>aj ?_);have e0:=hF (eY a 2) (show(4:Int)≠0 by decide);have e1:=hI (eY a 2) (show(0:Int)<4 by decide);refine az E.g Q2 (bK (ak (c_ ((a,2)) QcO Qba Qig (show(0:Int)<=2 by decide) rfl)) ai Wp) ?_;generalize eY a 2 % 4=t at e0 e1;generalize Xz s=x0 at t1 t2 bZ;clear Xm n v y w u r i ci cl B;have pw:∀j:Nat,j<=3->20000*2 ^ j<=160000:=by decide
 refine gB E.g Qag (λj δ=>∃x o,δ=[some Qmr,some QbB,some QnG,o,none,none]/\cnt x<=39+j/\x.length+1<=20000*2 ^ j/\(j=0->x=x0))
  (lX E.lu QD Wc QcP) #[x0,_,rfl,t1,by rw[Nat.pow_zero];lia,λ_=>rfl] (λj δ ⟨_,_,e,_⟩=>by subst e;exact eL rfl) ?turn ?fin
 case turn=>
  rintro j d δ L ⟨x,o,rfl,h1,h2,_⟩;obtain⟨rfl,N⟩:=oO L;have hp:=pw j Wc;obtain⟨g1,g2⟩:=XB x (eY a (3+2*QeG)) (eY a (4+2*QeG));refine az E.g Qai (c_ (x,eY a (3+2*QeG),eY a (4+2*QeG)) (E.c 27) QeX (ah QL (ah (ak (c_ (a,3+2*QeG) QcO Qba (ah Qb (ah (ak (cW ai (ak (m7 ai QU (.inl #[Wp,Wp]))))) ao)) (show(0:Int)<=3+2*(0+(j:Int)) by lia) rfl)) (ah (ak (c_ (a,4+2*QeG) QcO Qba (ah Qb (ah (ak (cW ai (ak (m7 ai QU (.inl #[Wp,Wp]))))) ao)) (show(0:Int)<=4+2*(0+(j:Int)) by lia) rfl)) ao))) (show x.length<=4000000 by lia) rfl) (aj ?_);exact#[_,_,rfl,Wc,by rw[Nat.pow_succ];lia,λz=>absurd z QuF]
 case fin=>
 rintro δ ⟨x,o,rfl,h1,h2,G⟩;have hlen:(cX 0 t.toNat).length=t.toNat:=by rw[cX,eu,gz]
 rw[hlen]at h1 h2 G;have hp:=pw t.toNat Wc;have m:l0 x:=Wi Wc Wc;have I:x.length<=900000:=by lia
 refine az E.g Qau RJ ?_;show cK X CL b _ [some Qmr,some QbB,some QnG,o,some QeJ,none] _;cases A:pd x with
 | true=>
  obtain⟨v,H⟩:=Wh m A;have Xm:=Lm v (by
   rw[H,<- mJ (l:=e7 x) QeY];show(Str.join "\n" (e7 x)).length+1<=_;rw[show Str.join "\n" (e7 x)=x from kj _ _];lia)
  have i:Txt.join "\n" (kh (qS x) (qS x).es.length)=x:=by
   rw[Jk v,H];exact(vT _ _).trans (kj _ _)
  refine aef E.nx ?_;refine az E.g Qau (fU (d:=(qS x).d) (c_ x (E.c 71).give QjQ Qaq #[#[I,m],A] (FI v)) (dJ (qS x))) (aj ?_);generalize qS x=c at v H Xm i ⊢;refine aN (Ze Qak) (λz=>by cases z) (λ_=>aj ?_);refine az E.g Qav (aI (c_ c (E.c 9) Qx Qn5 Xm rfl) (t2:=.sh Qax) QvA) ?_;refine aG (jE (Hx E.um E.FW Qao QaO QaW) (λ_=>jD (bV QaW QL).2)) ?_;rw[e6 rfl];rfl
 | false=>
  have t0:0<t:=by
   by_cases z:t=0
   .have:=G (by rw[z];rfl);rw[this,bZ]at A;cases A
   .lia
  have pk:∃(c:Str) (C:Qkb),ma x=(c,C)/\exmOne X.K Qdn (.ref QmY)=some true:=by
   unfold ma;split
   .exact#[_,_,rfl,(E.ek ("BadRow",CL "BadRow") (.head _)).xm]
   split
   .exact#[_,_,rfl,(E.ek ("NoName",CL "NoName") (.tail _ (.head _))).xm]
   split
   .exact#[_,_,rfl,(E.ek ("BadTree",CL "BadTree") Qqs).xm]
   split
   .exact#[_,_,rfl,(E.ek ("BadName",CL "BadName") Qxp).xm]
   .exact#[_,_,rfl,(E.ek ("BadBox",CL "BadBox") (.tail _ Qxp)).xm]
  obtain⟨c,C,he,M⟩:=pk;refine aed (c:=(c,C)) (δ1:=[some Qmr,some QbB,some QnG,o,some QeJ,none]) E.st E.fm E.nx (λq=>he▸Y2 (X:=X.pinned q) E.g.nd (E.ll 4).pin (aec (X:=X.pinned q) x E.nx (E.c 71).bad.pin QjQ (ah (ak (v_ (E.ll 1).1.pin)) ao) #[#[I,m],A])) (.hit (E.gg 9) E.Dy M Wp) λev=>?_;refine aeg E.g.nd (E.ll 4).hand RJ (aj ?_);refine aN (ad4 Qak).1 (λ_=>?_) (λz=>by cases z);refine aG (qP QD ai).2 ?_;rw[e6 t0]
def Wz:d9 Wk ["script"] (aE FU):=xo
def all_mk{l:Qnl}{fa vZ ux c3 g r pV nO nP pW DE Ge pX pY:Addr}(c:K.In h)(G:Qik)(bq:mg "law" = some (.ref fa))
  {Gf DF A:QaK}
  (MT:Lj K "Chart" g) (aY:GX K g) (WB:makesIn K g=true) (WC:keepIn K (.ref g)=true)
  (AH:cP K g "boxes")
  (AI:cP K g "names")
  (DG:cP K g "tree")
  (Gg:cP K g "ins")
  (DH:cP K g "outs")
  (DI:cP K g "ways")
  (WD:Lj K "Tree" r) (dZ:GX K r) (d6:makesIn K r=true) (d5:keepIn K (.ref r)=true)
  (DJ:cP K r "kinds")
  (AJ:cP K r "elders")
  (AK:cP K r "starts")
  (v5:Lj K "MoodError" pV)
  (BJ:Lj K "BadTree" nO)
  (JH:nA K nO)
  (BK:Lj K "BadName" nP)
  (JK:nA K nP)
  (Gh:Lj K "BadBox" pW)
  (PV:nA K pW)
  (BL:Lj K "BadDeed" DE)
  (Gi:Lj K "BadWay" Ge)
  (Gj:Lj K "BadRow" pX)
  (PX:XJ K "BadRow" "row" "BadRow.__init__" pX (inClass (top 20) 0))
  (Gk:Lj K "NoName" pY)
  (PY:XJ K "NoName" "row" "NoName.__init__" pY (inClass (top 21) 0))
  (df:Wq 4 (∀p∈([("BadRow",pX),("NoName",pY),("BadTree",nO),("BadName",nP),("BadBox",pW)]:D1),Tr K p.1 p.2 (pV) []))
  (WG:f7 K "linked" (top 88) )
  (Gm:f7 K "term_text" (top 91) )
  (JL:f7 K "ask_text" (top 89) )
  (Gn:f7 K "deed_text" (top 90) )
  (JM:f7 K "way_text" (top 87) )
  (Gp:f7 K "own_texts" (top 86) )
  (d4:f7 K "above" (top 24) )
  (d3:f7 K "depth" (top 25) )
  (Gq:f7 K "mood_text" (top 85) )
  (d0:f7 K "shown" (top 84) )
  (B:Zc K r "__init__" "Tree.__init__" jx vZ Gf)
  (C:Zc K g "__init__" "Chart.__init__" iN ux DF)
  (JN:f7 K "_law_chart_by" (top 105) )
  (PZ:f7 K "_law_cell_at" (top 93) )
  (dA:f7 K "_law_chain" (top 94) )
  (Gr:f7 K "_law_elders_by" (top 98) )
  (P0:f7 K "_law_name_by" (top 95) )
  (JQ:f7 K "_law_names_by" (top 96) )
  (JR:f7 K "_law_kinds_by" (top 103) )
  (Gs:f7 K "_law_number_by" (top 97) )
  (P1:f7 K "_law_deed_by" (top 99) )
  (WH:f7 K "_law_way_by" (top 100) )
  (WK:f7 K "_law_ask_by" (top 101) )
  (P4:f7 K "_law_owns_by" (top 102) )
  (JS:f7 K "_law_parts_by" (top 104) )
  (P5:f7 K "_law_sign_by" (top 106) )
  (AO:f7 K "_law_rows_turned" (top 107) )
  (WL:f7 K "_law_turned" (top 108) )
  (WM:f7 K "places" (top 68) )
  (JT:f7 K "place_of" (top 74) )
  (wM:f7 K "numbered_term" (top 73) )
  (wN:f7 K "numbered_deed" (top 72) )
  (zF:f7 K "numbered_ask" (top 71) )
  (zG:f7 K "numbered_way" (top 70) )
  (wO:f7 K "numbered_form" (top 69) )
  (JV:f7 K "numbered" (top 67) )
  (P6:f7 K "is_name" (top 12) )
  (P7:f7 K "name_of" (top 56) )
  (AQ:f7 K "are_figures" (top 59) )
  (Gu:f7 K "is_number" (top 58) )
  (Gv:f7 K "number_of" (top 57) )
  (P8:f7 K "term_of" (top 60) )
  (P9:f7 K "deed_of" (top 61) )
  (JW:f7 K "parts_of" (top 64) )
  (Qa:f7 K "goal_of" (top 65) )
  (WN:f7 K "ask_of" (top 62) )
  (WO:f7 K "way_of" (top 63) )
  (DK:f7 K "content_of" (top 55) )
  (Qc:f7 K "form_of" (top 54) )
  (Gw:f7 K "may_stand" (top 79) )
  (WQ:f7 K "formed" (top 78) )
  (Gy:f7 K "elders_of" (top 80) )
  (JX:f7 K "deeds_of" (top 81) )
  (Qd:f7 K "ways_of" (top 82) )
  (su:f7 K "are_elders_right" (top 33) )
  (uy:f7 K "are_kinds_right" (top 34) )
  (JY:f7 K "is_place" (top 44) )
  (sy:f7 K "are_starts_right" (top 35) )
  (wQ:f7 K "is_tree_right" (top 32) )
  (uz:f7 K "are_names_right" (top 36) )
  (DL:f7 K "is_bounded" (top 45) )
  (uA:f7 K "are_boxes_right" (top 37) )
  (wR:f7 K "is_term_right" (top 43) )
  (wU:f7 K "is_deed_right" (top 42) )
  (uB:f7 K "are_deeds_right" (top 38) )
  (zH:f7 K "is_ask_right" (top 41) )
  (zI:f7 K "is_way_right" (top 40) )
  (vh:f7 K "are_ways_right" (top 39) )
  (WR:f7 K "looked" (top 31) )
  (de:f7 K "read" (top 77) )
  (u:Zb K "law" FU c3 A)
  (cw:QG K "str")
  {dy:Tok} (dc:sY K "SIGN" 1 dy)
  {dw:Tok} (da:sY K "ASKS" 2 dw)
  {WT:Tok} (du:sY K "DEEDS" 3 WT)
  {Qe:Tok} (WU:sY K "TARGET" 4 Qe)
  {dt:Tok} (c8:sY K "MODE" 5 dt)
  (cv:QG K "zip")
  {Qf:Tok} (WV:sY K "SOURCE" 0 Qf)
  (cp:QG K "len")
  (Gz:QG K "enumerate")
  (c7:QG K "list")
  (dr:QG K "range")
  (cm:QG K "min")
  (dq:QG K "tuple")
  {c6:Tok} (cf:sY K "ROW" 0 c6)
  {el:Tok} (c5:sY K "WORD" 2 el)
  {JZ:Tok} (Qg:sY K "CONTENT" 3 JZ)
  {MV:Addr} {WW:Bi} {fY:Nat} {WX:Cc} {J1 J2 J3:Tok} (ej:nsIn K mainGlobals "KINDS" = some (some (.ref MV))) (WZ:K.lookup MV=some #[.type "tuple",WW,.seq (List.toArray [.str "leaf" J1,.str "one" J2,.str "all" J3]) fY,WX])
  {Qh:Tok} (W0:sY K "BLANKS" 1 Qh)
  {wV:Tok} (zJ:sY K "LONGEST_NAME" 12 wV)
  {MX:Addr} {W3:Bi} {Dv:Nat} {W4:Cc} {J4 J5 J6 J7 J8 J9 Ka Kc Kd Ke GA GB GC GF GH GJ GK GL GN:Tok} (ei:nsIn K mainGlobals "WORDS" = some (some (.ref MX))) (W5:K.lookup MX=some #[.type "tuple",W3,.seq (List.toArray [.str "all" J4,.str "and" J5,.str "box" J6,.str "call" J7,.str "do" J8,.str "far" J9,.str "if" Ka,.str "in" Kc,.str "leaf" Kd,.str "near" Ke,.str "on" GA,.str "one" GB,.str "open" GC,.str "out" GF,.str "put" GH,.str "say" GJ,.str "shut" GK,.str "then" GL,.str "to" GN]) Dv,W4])
  {Kf:Tok} (Qi:nsIn K mainGlobals "LETTERS" = some (some (.str "abcdefghijklmnopqrstuvwxyz" Kf)))
  {nQ:Tok} (oq:nsIn K mainGlobals "LETTERS_AND_FIGURES" = some (some (.str "abcdefghijklmnopqrstuvwxyz0123456789" nQ)))
  {wW:Tok} (zK:sY K "MOST_FIGURES" 30 wW)
  {Kg:Tok} (Qj:nsIn K mainGlobals "FIGURES" = some (some (.str "0123456789" Kg)))
  (cb:QG K "int")
  {pZ:Addr} {ly:Nat} {qY qZ rg rq rz rB:Int} {rC rE rG rH rJ rK vm vn vo vp vq vt vv vz vA vC vD vG vH:Tok} {lM lN lO lP lQ lR:Addr} {zL zM zN zO zP zQ:Bi} {AU AV AW AX AY AZ:Nat} {zR zS zU zV zW zX:Cc} (GO:nsIn K mainGlobals "FOLLOWERS" = some (some (.ref pZ))) (DM:Wq 3 ((pZ==sysModules)=false)) (DN:K.lookup pZ=some #[.type "dict",none,.dict ([#[qY,.str "on" rC,.ref lM],#[qZ,.str "if" rE,.ref lN],#[rg,.str "and" rG,.ref lO],#[rq,.str "do" rH,.ref lP],#[rz,.str "then" rJ,.ref lQ],#[rB,.str "to" rK,.ref lR]]:List DictEntry).toArray ly,#[]]) (DP:Wq 6 (KeysLit w.params [#[qY,.str "on" rC,.ref lM],#[qZ,.str "if" rE,.ref lN],#[rg,.str "and" rG,.ref lO],#[rq,.str "do" rH,.ref lP],#[rz,.str "then" rJ,.ref lQ],#[rB,.str "to" rK,.ref lR]])) (zY:K.lookup lM=some #[.type "tuple",zL,.seq (List.toArray [.str "if" vm,.str "do" vn,.str "to" vo]) AU,zR]) (zZ:K.lookup lN=some #[.type "tuple",zM,.seq (List.toArray [.str "and" vp,.str "do" vq,.str "to" vt]) AV,zS]) (z6:K.lookup lO=some #[.type "tuple",zN,.seq (List.toArray [.str "and" vv,.str "do" vz,.str "to" vA]) AW,zU]) (z7:K.lookup lP=some #[.type "tuple",zO,.seq (List.toArray [.str "then" vC,.str "to" vD]) AX,zV]) (z8:K.lookup lQ=some #[.type "tuple",zP,.seq (List.toArray [.str "then" vG,.str "to" vH]) AY,zW]) (z9:K.lookup lR=some #[.type "tuple",zQ,.seq #[] AZ,zX])
  {MY:Addr} {W6:Bi} {xV:Nat} {W7:Cc} {Kh Kl Km Kn:Tok} (eh:nsIn K mainGlobals "MARKS" = some (some (.ref MY))) (W8:K.lookup MY=some #[.type "tuple",W6,.seq (List.toArray [.str "<" Kh,.str "<=" Kl,.str "=" Km,.str "!=" Kn]) xV,W7])
  {o:Addr} {GP:QgI} {xW:Nat} {Ko Kp Kq Kr Ks Ku:Tok} (eg:nsIn K mainGlobals "RANKS" = some (some (.ref o))) (W9:K.lookup o=some #[.type "dict",none,.dict GP xW,#[]]) (Xa:Wq 6 (KeysLit w.params GP.toList)) (Qk:nsIn K o "leaf" = some (some (.int 0 Ko))) (Ql:nsIn K o "one" = some (some (.int 0 Kp))) (Qm:nsIn K o "all" = some (some (.int 0 Kq))) (Qn:nsIn K o "in" = some (some (.int 1 Kr))) (Qo:nsIn K o "out" = some (some (.int 2 Ks))) (Qp:nsIn K o "on" = some (some (.int 3 Ku)))
  {Kv:Tok} (Qq:sY K "DEEPEST" 12 Kv)
  (b4:QG K "set")
  {MZ:Addr} {Xb:Bi} {Dw:Nat} {Xc:Cc} {Kw Kx Ky:Tok} (ef:nsIn K mainGlobals "MODES" = some (some (.ref MZ))) (Xd:K.lookup MZ=some #[.type "tuple",Xb,.seq (List.toArray [.str "new" Kw,.str "near" Kx,.str "far" Ky]) Dw,Xc])
  (DQ:QG K "isinstance")
  : ∃fd:FuncData,(∀(s:Qr) (v:Value),BindsTo s fd #[[v],[]] [("script",v)])/\∀base:Heap,K.In base->base.Ns mainGlobals mg->e9 l.prog w K mg base uE 11 fa fd ["script"] (G0 K QnW 1 qE qF qG):=by
 have e:=bq.symm.trans (gr c G u.m);cases e;obtain⟨n,j⟩:∃n,n=vl K:=#[_,rfl];have bD:∀x,yf x=true->n x=0:=λx h=>j▸Zn h;obtain rfl:=lG j MT;obtain rfl:=lG j WD;obtain rfl:=lG j v5;obtain rfl:=lG j BJ;obtain rfl:=lG j BK;obtain rfl:=lG j Gh;obtain rfl:=lG j BL;obtain rfl:=lG j Gi;obtain rfl:=lG j Gj;obtain rfl:=lG j Gk;have GQ:=B.bA ["self","kinds","elders","starts"];have DR:=C.bA ["self","boxes","names","tree","ins","outs","ways"];have eo:=gr c G u.m;have er:=u.bA ["script"];have ee:=gr c G MT;have c4:=gr c G WD;have GR:=gr c G v5;have Qs:=gr c G BJ;have Qt:=gr c G BK;have Xf:=gr c G Gh;have Qu:=gr c G BL;have Xg:=gr c G Gi;have Xh:=gr c G Gj;have Xi:=gr c G Gk;have ed:=gr c G ej;have eb:=gr c G ei;have GU:=gr c G GO;have ea:=gr c G eh;have dk:=gr c G eg;have dj:=gr c G ef;have ec:z3 w K mg n:=#[kf c G cw,aY,AH,AI,#[_,gr c G dc],#[_,gr c G da],#[_,gr c G du],#[_,gr c G WU],#[_,gr c G c8],kf c G cv,#[_,gr c G WV],DI,Gg,DH,dZ,AJ,kf c G cp,DJ,DG,AK,kf c G Gz,kf c G c7,kf c G dr,kf c G cm,Xi,kf c G dq,#[_,gr c G cf],#[_,gr c G c5],#[_,gr c G Qg],Lp ed WZ,#[_,gr c G W0],#[_,gr c G zJ],Lp eb W5,#[_,gr c G Qi],#[_,gr c G oq],Xh,#[_,gr c G zK],#[_,gr c G Qj],kf c G cb,#[_,_,_,GU,DM.1,DN,DP.1,L2.qj (OB zY) (L2.qj (OB zZ) (L2.qj (OB z6) (L2.qj (OB z7) (L2.qj (OB z8) (L2.qj (OB z9) L2.aeo)))))],Lp ea W8,#[_,_,_,dk,W9,Xa.1,λk z f=>by
   obtain⟨rfl,rfl⟩|f:=L3.qh f
   .exact#[_,Qk]
   obtain⟨rfl,rfl⟩|f:=L3.qh f
   .exact#[_,Ql]
   obtain⟨rfl,rfl⟩|f:=L3.qh f
   .exact#[_,Qm]
   obtain⟨rfl,rfl⟩|f:=L3.qh f
   .exact#[_,Qn]
   obtain⟨rfl,rfl⟩|f:=L3.qh f
   .exact#[_,Qo]
   obtain⟨rfl,rfl⟩|f:=L3.qh f
   .exact#[_,Qp]
   cases f],#[_,gr c G Qq],kf c G b4,Lp dj Xd,Qs,JH,Qt,JK,Xf,PV,Qu,Xg,kf c G DQ,GR]
 refine#[A,?bind,λbase _ _=>?_]
 case bind=>
  obtain⟨dV,oc,od,kV,doc,pm,an,eS,ct,Ed,rfl,lk,iA⟩:=u.ex;cases (show dV=.none from u.dn);exactλs v=>.of_eq rfl
 have Qv:=Na l.prog w mg base c G PX;have Qw:=Na l.prog w mg base c G PY;have q:=@Np l.prog w mg base K h n c G;have r0:RR l.prog w K mg base n h 0:=#[c,G,ec,λi h=>by cases h];have r1:=qC r0 kr WG Wr;have r2:=qC r1 eN Gm FY;have r3:=qC r2 jb JL Js;have t:=qC (qC (qC (qC (qC (qC (qC r3 fj Gn FZ) jc JM Jt) jw Gp F0) t8 d4 aaJ) qB d3 aaK) g9 Gq F3) t9 d0 aaL;have GV:e9 l.prog w K mg base uE 1 vZ _ ["self","kinds","elders","starts"] (rx K n "Tree" 4 qT qU qV):=K4 B.1 uo λeS Ar outer s H E b a y d hp=>by
  obtain⟨p0,p1,p2⟩:=a;refine F4 ?_ p0 p1 p2 y hp;exact rD #[#[uo.nd,rfl,.never],d.units] t d
 have DS:e9 l.prog w K mg base uE 1 ux _ ["self","boxes","names","tree","ins","outs","ways"] (rx K n "Chart" 7 pL pM pN):=K4 C.1 qW λeS Ar outer s H E b a y d hp=>by
  obtain⟨p0,p1,p2,p3,p4,p5⟩:=a;refine Dz ?_ p0 p1 p2 p3 p4 p5 y hp;exact rD #[#[qW.nd,rfl,.never],d.units] t d
 have bp:=rs t λY d=>Fm.mk #[_,_,_,#[d6,B.a,B.i,d5],GV,c4,GQ] d;have bo:=rs bp λY d=>Fm.mk #[_,_,_,#[WB,C.a,C.i,WC],DS,ee,DR] d;have bj:=qC (qC (qC (qC (qC (qC (qC (qC (qC (qC (qC (qC bo ku JN Ju) qD PZ Px) xS dA aaM) jy Gr F5) j0 P0 Py) kB JQ Jv) kC JR Jw) jz Gs F6) jd P1 Pz) pO WH Ws) pP WK Wt) mK P4 PB;have bg:=qC (qC (qC (qC (qC bj kD JS Jx) mO P5 PD) gM AO AA) pR WL Wx) uc WM Wy;have bc:=rs bg λY d=>uu.mk ((Qw)) d;have bb:=qX bc gU JT F7;have ba:=qX bb dg wM u9;have a0:=qX ba dh wN vd;have ax:=qX a0 dR zF wG;have aw:=qX ax dS zG wH;have ar:=qX aw d7 wO vf;have ag:=qX ar gV JV F8;have af:=qC ag mP P6 PF;have ae:=rs af λY d=>uu.mk ((Qv)) d;have aa:=qX ae je P7 Jy;have Z:=qC (qC aa gO AQ AF) jA Gu F9;have X:=qX Z gf Gv DB;have V:=qX X jf P8 Jz;have U:=qX V jg P9 JA;have T:=qC U kE JW JB;have S:=qX T jh Qa JC;have R:=qX S kF WN PJ;have P:=qX R kG WO PK;have O:=qX P fH DK AG;have N:=qX O ji Qc JD;have M:=qC N jB Gw Gb;have L:=qX M kH WQ PL;have J:=qC (qC (qC (qC (qC (qC (qC (qC (qC (qC (qC (qC L jC Gy Gd) kI JX JF) mQ Qd PN) cU su sj) cY uy uq) kJ JY JG) cV sy sq) fM wQ wI) cZ uz ur) iO DL DC) eO uA uv) fN wR wJ;have I:=qC (qC (qC (qC (qC J fP wU wL) c9 uB uw) gi zH zC) gk zI zE) dM vh vg;have F:=qX I kK WR PR;have D:=qX F sf de aaN;have b0:e9 l.prog w K mg base uE 11 _ _ ["script"] (G0 K n 1 qE qF qG):=yi u.1 Wz λeS Ar outer s H E b a _ d hp=>by
  refine Yf ?_ hp;exact#[rD #[#[Wz.nd,rfl,.never],d.units] D d,rfl,df.1]
 exact b0.imp (adM Qal Qal bD)
def walk{l:Qnl}{q:Q1}{loose:AT}{m:Qm1}{e:Qmm}{d:DefRec}{K:Params->Frag}(hn:l.most=some 63)(b:Qms)
  (i:∀(w:World) (h:Heap),e w h->(K w.params).In h)
  (F:∀(w:World) (mg:BN) (c:Addr) (h:Heap),(K w.params).In h->h.Ns mainGlobals mg->mg d.name=some (.ref c) →
   ∃fd:FuncData,(∀(s:Qr) (u:Value),BindsTo s fd #[[u],[]] [("script",u)])/\∀base:Heap,(K w.params).In base->base.Ns mainGlobals mg->e9 l.prog w QfY mg base uE 11 c fd ["script"] (G0 QfY QnW 1 qE qF qG)) :
  PySem.W.WalkO q loose m e l.row.toRowW d [] Qlb:=
 L2.X9 (n:=63) (k:=11) (x:="script") (CX:=λ_=>uE) (sp:=λw=>G0 QfY QnW 1 qE qF qG) hn Wp b #[rfl,Wp,Wp] i F (λ_ _ a ns g _ j=>adI rfl g rfl j) λ_ _ _ _ _ z=>z
end Law
end
namespace PySem.W.Fast
def tw16184535244716797997:=0
def tw1268374846723661682:=0
def tw13921933189357095141:=0
def tw17041181834722191273:=0
def tw2194759938828056091:=0
def tw11852676041976199365:=0
def tw9689565954715119520:=0
def tw5245029367514821339:=0
def tw1474024793496382340:=0
def tw6789752835910044399:=0
def tw18044001588950471027:=0
def tw1844097994222118677:=0
def tw9751631516321005963:=0
def tw7181920776507736361:=0
def tw12418093456805622296:=0
def tw6451185969521899603:=0
def tw4485398086109978353:=0
def tw14802550333687917015:=0
def tw17144938254739405759:=0
def tw3512215120833886143:=0
def tw14845662397977107653:=0
def tw941852818920647811:=0
def tw8503305464265683373:=0
def tw11080464475003490404:=0
def tw10568251488289168498:=0
def tw6878685029342262572:=0
def tw1412167684442935742:=0
def tw14135667344578950588:=0
def tw3629898365852962128:=0
def tw11833003133788839588:=0
def tw12149085276180197943:=0
def tw3402612038515286407:=0
def tw7820065701586679685:=0
def tw5103788085145781274:=0
def tw7493037589244376521:=0
def tw14109692399733501873:=0
def tw1397230756514240229:=0
def tw2623690931486032887:=0
def tw12913432617487134420:=0
def tw14924395088017267387:=0
def tw17391579505449874780:=0
def tw1693452050334471722:=0
def tw14612850788293265902:=0
def tw18173189083795320855:=0
def tw14531521167907698102:=0
def tw10736757242912505330:=0
def tw4350516017473848061:=0
def tw10003311039905610747:=0
def tw3035618510348557219:=0
def tw15843753067452170422:=0
def tw10851523784334097928:=0
def tw3556459821650376516:=0
def tw7315428584806750258:=0
def tw7411052256945505713:=0
def tw8578750430965445203:=0
def tw16266919690348654742:=0
def tw9160640757182020453:=0
def tw13526093611738453433:=0
def tw11873271586460800673:=0
def tw17658189287856110569:=0
def tw14215367690277095946:=0
def tw4678629815337730862:=0
def tw6134894991070246997:=0
def tw1755786340874850307:=0
def tw3331181036257253127:=0
def tw10455899040302297449:=0
def tw15959457177187726934:=0
def tw248915389347876358:=0
def tw17122832553689516249:=0
def tw6698093487522077181:=0
def tw3820847092044533145:=0
def tw11968526479052532117:=0
def tw2308586227570569879:=0
def tw11922317706588110303:=0
def tw1496140927855767595:=0
def tw7698090072400909759:=0
def tw1564872154107239150:=0
def tw7613138266247447081:=0
def tw13936461300141744885:=0
def tw5280345703129830212:=0
def tw10444749557379786975:=0
def tw451943358171993239:=0
def tw11334704368129113609:=0
def tw4169468883070896112:=0
def tw4559084832057833437:=0
def tw3123599786327854254:=0
def tw10447247679792518536:=0
def tw7355724878082223919:=0
def tw12117202897367939038:=0
def tw3177704244698973591:=0
def tw6205963883432661563:=0
def tw13178191253400300578:=0
def tw11886849698371065659:=0
def tw13120128855949063634:=0
def tw2077469870691108961:=0
def tw11980223357893635629:=0
def tw18177611407215845707:=0
def tw13573923544246691000:=0
def tw8388397702970555224:=0
def tw8181808500626022568:=0
def tw1082996105026911809:=0
def tw9346665343931150946:=0
def tw11312583425785874901:=0
def tw5624481480003422850:=0
def tw16051579704799653449:=0
def tw10082116010224524641:=0
def tw3509876501188394172:=0
def tw9283589646703315455:=0
def tw3721394175502957389:=0
def tw12644234526032422564:=0
def tw18362990544965659306:=0
def tw13342148089112729410:=0
def tw11655686379825167877:=0
def tw2435682856647909244:=0
def tw7315889615760254798:=0
def tw5412238775072111123:=0
def tw16723134038743602192:=0
def tw13547791694227419915:=0
def tw3824401852050046618:=0
def tw13736284278584624255:=0
def tw775131715959806422:=0
def tw4550979992224022362:=0
def tw1636810153946802300:=0
def tw12454151296941709107:=0
def tw13501278088309166382:=0
def tw723918787814740046:=0
def tw4776099189058764126:=0
def tw3600058597873202184:=0
def tw11848568012535396530:=0
def tw17522590422185526025:=0
def tw18292967392664866000:=0
def tw5192355435089521263:=0
def tw13520530058969099679:=0
def tw9938307789527948224:=0
def tw4816271635530060478:=0
def tw16369733641071763327:=0
def tw14509576625576454919:=0
def tw4491741601826222451:=0
def tw2465462753409436968:=0
def tw17675981983075524828:=0
def tw8673545152851950954:=0
def tw8368767927304375332:=0
def tw15740843928379257246:=0
def tw10948426637515144967:=0
def tw6968102471072856548:=0
def tw16878217636594390999:=0
def tw13401803785675781712:=0
def tw9978190475767454675:=0
def tw11413921942334785801:=0
def tw10515990550276448108:=0
def tw7477849063364886373:=0
def tw11144496281681984731:=0
def tw17427244389477961911:=0
def tw7193140944755252688:=0
def tw5585586702940262258:=0
def tw11827692013891063705:=0
def tw8346911022286321790:=0
def tw15996268985034568144:=0
def tw4100065004809060295:=0
def tw15146700293088174784:=0
def tw8223595281183904048:=0
def tw3627119078320118690:=0
def tw18323594194295635137:=0
def tw10329140930655796030:=0
def tw7072582538967486871:=0
def tw16192790366103130268:=0
def tw1397301313733668924:=0
def tw7952800781893600934:=0
def tw1697550854095247056:=0
def tw14375906635986721368:=0
def tw6308445925171088519:=0
def tw6502745234761721421:=0
def tw8344496456052708814:=0
def tw3829769939841573573:=0
def tw5261763150540200391:=0
def tw9731736824917318374:=0
def tw14219877360672610721:=0
def tw5787197014776567449:=0
def tw213894814888647610:=0
def tw15766539275984724068:=0
def tw15617558013481179857:=0
def tw6226031972514996212:=0
def tw14729237847203924389:=0
def tw2880125927748784609:=0
def tw6817571083925568530:=0
def tw10244590476608134953:=0
def tw3539780403322216730:=0
def tw11697789025623969529:=0
def tw17210131886588762768:=0
def tw117023022201611568:=0
def tw6241886122417143429:=0
def tw5245666303257773630:=0
def tw426299728157251828:=0
def tw6193010055284606987:=0
def tw8808714294087490424:=0
def tw16735612439089552615:=0
def tw12734951334290651987:=0
def tw17043467274432065675:=0
def tw14484964502539645654:=0
def tw1036380746167963901:=0
def tw4767868364090474637:=0
def tw7123865221858653018:=0
def tw15939351679506607230:=0
def tw16237028977567637920:=0
def tw701484862951774471:=0
def tw6466464796081242319:=0
def tw4934955443480837132:=0
def tw12397526258644768664:=0
def tw3794001564528308765:=0
def tw15750316747170419843:=0
def tw8311218384917649976:=0
def tw739226714843730509:=0
def tw11185714454254286902:=0
def tw16189873636923751002:=0
def tw15768496244008166171:=0
def tw1324076260685903135:=0
end PySem.W.Fast
open PySem PySem.W PyProof.Rows
set_option maxRecDepth 100000 in
set_option maxHeartbeats 0 in
theorem PySem.Challenge.cw_moodtree_k23_whole_read_is_written_holds : PySem.Challenge.rw_moodtree_k23_whole_read_is_written.Holds := by
 w_on; o_law; k_head; (case hw => w_witness2)
 k_fill
 refine Law.walk (l := PySem.Challenge.rw_moodtree_k23_whole_read_is_written) rfl rfl (λw h Y => PySem.W.kIn_of Y) ?F
 case F =>
   intro w mg fa h KX G hmg
   apply Law.all_mk KX G hmg
   all_goals first | exact L3.Wq.mk (n := 1) rfl | (refine L3.Wq.mk (n := 2) ?_; kernel_rfl) | (refine L3.Wq.mk (n := 3) ?_; decide) | (refine L3.Wq.mk (n := 4) ?_; repeat' (first | exact L3.aeC | apply L3.Zk | exact L3.aeD | apply L3.Zm | apply L2.yF.mk | kit_is | kts_exm | k_is | decide +kernel)) | (refine L3.Wq.mk (n := 6) ?_; k_keys) | (apply L3.fnX <;> k_is) | (apply L3.fn1 <;> k_is) | (apply L3.aeB <;> first | k_is | kernel_rfl) | (apply L3.xj <;> first | (apply L3.fn2 <;> k_is) | k_is | kernel_rfl) | (apply L3.fn2 <;> k_is) | (apply L2.GX.mk <;> k_is) | ((try delta L3.Lj); (try delta L2.cP); (try delta L3.QG); (try delta L3.sY); k_is)
