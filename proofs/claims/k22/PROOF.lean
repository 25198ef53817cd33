import PyProof.Rows.All
import Wide.All
import OpenK.AllK
import Wide.FinOn
import Lean
import PyProof.EqAt
import PyProof.EqKinds
import PyProof.TupleCall
import PySem.Challenge.RW_moodtree_k22_names_and_refusals
set_option Elab.async false
set_option linter.all false
set_option maxRecDepth 100000
set_option maxHeartbeats 4000000
open PySem.W (instObj hideAll hideAll_size Frag lookIn plainGet hasDictIn findIn handedIn plainOver takerIn makesIn typeIn emptyDict isFn keepIn cellsFrom_some fnOf codeIn kitOne funFrames_hide nsOkIn nsIn tailIn tail_of_in isNs_of_in clsIn kitAny exmOne KeysLit mapOf_K)
theorem We{p:Prop}(h:p:=by lia):p:=h
def Wl{p:Prop}(h:p:=by decide +kernel):p:=h
def Wp{p:Prop}(h:p:=by decide):p:=h
def WA{p:Prop}(h:p:=by simp):p:=h
theorem WE{p:Prop}(h:p:=by simp_all):p:=h
theorem WF{p:Prop}(h:p:=by grind):p:=h
theorem WI{p:Prop}(h:p:=by simp;lia):p:=h
open Lean in
def qqM (k:Name) (x:List Syntax):Syntax:=.node .none k x.toArray
open Lean in
def qqL (x:String):Syntax:=.atom .none x
open Lean in
def qqN (x:String):Syntax:=mkIdent x.toName
open Lean in
def qqC (x:List Syntax):Syntax:=qqM nullKind (x.intersperse (qqL ","))
open Lean in
def qqS (q:List Syntax) (t:String):List Syntax:=
 let r:=(t.drop 1).toString;let n:=r.toNat?.getD 1;let s:=q.drop n;let a:=(q.take n).reverse;let y:=q.headD .missing;let o:=q.tail;let x:=o.headD .missing;let w:=o.tail;let p:=qqM ``Parser.Term.hygienicLParen [qqL "(",qqM hygieneInfoKind [mkIdent .anonymous]]
 match t.front with
 | '@'=>qqM ``Parser.Term.app [s.headD .missing,qqM nullKind a]::s.tail
 | '['=>qqM `«term[_]» [qqL "[",qqC a,qqL "]"]::s
 | '<'=>qqM ``Parser.Term.anonymousCtor [qqL "⟨",qqC a,qqL "⟩"]::s
 | ','=>qqM ``Parser.Term.tuple [p,qqM nullKind [a.headD .missing,qqL ",",qqC a.tail],qqL ")"]::s
 | '.'=>qqM ``Parser.Term.dotIdent [qqL ".",qqN r]::q
 | '!'=>qqM ``Parser.Term.explicit [qqL "@",qqN r]::q
 | '\''=>Syntax.mkStrLit r::q
 | '_'=>(if r.isEmpty then qqM ``Parser.Term.hole [qqL t] else qqN t)::q
 | '='=>qqM ``Parser.Term.namedArgument [qqL "(",qqN r,qqL ":=",y,qqL ")"]::o
 | '>'=>qqM ``Parser.Term.proj [y,qqL ".",if r.isNat then Syntax.mkLit fieldIdxKind r else qqN r]::o
 | '~'=>qqM (.mkSimple s!"term{r}_") [qqL r,y]::o
 | '^'=>qqM ``Parser.Term.arrow [x,qqL "→",y]::w
 | '`'=>qqM (.mkSimple s!"term_{r}_") [x,qqL r,y]::w
 | ':'=>qqM ``Parser.Term.typeAscription [p,x,qqL ":",qqM nullKind [y],qqL ")"]::w
 | '?'=>qqM `termIfThenElse [qqL "if",w.headD .missing,qqL "then",x,qqL "else",y]::w.tail
 | '\\'=>qqM ``Parser.Term.fun [qqL "fun",qqM ``Parser.Term.basicFun [qqM nullKind [if r=="_" then qqM ``Parser.Term.hole [qqL r] else qqN r],qqM nullKind [],qqL "=>",y]]::o
 | _=>(if t.isNat then Syntax.mkNumLit t else if t=="Prop" then qqM ``Parser.Term.prop [qqL t] else qqN t)::q
def qqT:Array String:=("
Shared















E.gg 0 @



ao E.ll 0 @ @




ao E.ll 2 @ @


ao E.ll 1 @ @
model X.prog X.w @2
.refl _ @




Inv X pins U H s @5




E.gg 1 @

List α @


.ref C @




ao E.ll 3 @ @

ao E.ll 4 @ @
Program
E.ll 2 @
E.gg 2 @





E.ll 3 @
model prog w @2
X.d7 XE X W @2 @
QIO
A Prop ^
k 1 `+
k1.trans k2 @
.ref a @
i 1 `+
QIP
QIQ
trivial \\_ \\_ \\_
E.ll 4 @
aE st @
E.gg 3 @
ak bQ ah @ @
.ref f @
E.ll 5 @
.inr rfl @
.Name x pos @2
e es `::
E.ll 1 @
n 1 `+
QIR
.inl rfl @
QIS
QIT
bC K CL b H Z δ U ts vs @9
bG X CL b e δ t δ1 @7
some t @
.ref e @
j 1 `+
QIU
X.calm true `=
b9 I q WA @3
v_ E.ll 0 @ >1 @
trivial \\_ \\_ \\_ \\_
.str x @
T.sh _ @ \\z
aq QD ah rfl @3
ao Qar @
ds.length sizeLine `≤
.ref D @
dG rfl @
QIV
QIW
QIX
.bl true @
v vs `::
QIY
bT X CL b e1 δ .int i @ δ1 @7
E.ll 6 @
.int i @
some v @
.tup xs @
QIZ
QI0
bT X CL b e2 δ1 .int j @ δ2 @7
trivial \\_
bu .nil Wl @2
upd H a o @3
.ref x @
bX st @
.Call .Name x pp @2 e es `:: [0 pos @4
st.length 1 `-
ai QD av @2
cT bP fT _ @ @2
iI n _ @2 \\n
ao QaZ @
aX d 2 @2
.ref p @
ew rfl @
QI1
QI2
QI3
bf X scope Nc C s H fp @7
aq Qv ah b5 @3
fu _ rfl <2 @
aq Qv ah rfl @3
EP X pins U Q @4
some .sh d @ @
f1 g f3 `++ `++
ai Qv av @2
rfl \\_
eE _ b @2
.int _ @
QI4
QI5
.nil \\_
E.gg 4 @
e7 ah @
QI6
QI7
QI8
absurd a Wp @2 \\a
w.src m Int : `=
q \\q \\_
.lst xs @
E.gg 5 @
QI9
QJa
QJb
upd H s.heap.objs.size .lst [0 @ @3
X.env.frame some X.env.locals @ `=
.Compare e1 .Eq [1 e2 [1 pos @4
X.stack X.env X.outer `:: `=
kX X CL b e δ p δ1 @7
aq QA ah rfl @3
ds.map T.sh @
ay Qv ah b5 @3
es.map .int @
a sysModules `==
x l `∈
.lst ds @
.bl _ @
arg a @
t ts `::
QJc
QJd
QJe
QJf
bC K CL b H Z δ U t ts `:: v vs `:: @9
p.c.ss.getD m 0 @2
.ref s.heap.objs.size @
absurd z Wl @2 \\z
vL E.ll 3 @ >1 @
p.kn p.rn.lk `&&
l.length 1 `-
.fresh 0 0 led @3
eval o X.env @2
vL E.ll 2 @ >1 @
rfl \\_ \\_
l.map .str @
.Name x px @2
.xd f y ,2 [1 @
Ct ps @ δc `++
kG bn ns @2
.int z @
c.trans a @
cg QaJ @
.dK aU @
l.map f @
bD q hn @2
E.gg 6 @
HY P w @2
m j `+
QJg
QJh
QJi
QJj
QJk
QJl
.ListComp elt tg iter ifs 0 <4 [1 scope pos @4
.ListComp elt .Name y px @2 iter ifs 0 <4 [1 scope pos @4
v_ E.ll 2 @ >1 @
cA E.fD E.ck Qv dI @4
.BinOp e1 .Add e2 pos @4
s.heap.objs.size 1 `+
vL E.ll 4 @ >1 @
strKind prog w @2
jn 'on w.sg [1 @2
v_ E.ll 3 @ >1 @
v_ E.ll 1 @ >1 @
some Qaq @
l.map V.str @
ks.map .str @
ss.map .int @
eL.mpr rfl @
ps.zip us @
model P w @2
.val v @
l x [1 `++
fF P w @2
a Qpu @
.str _ @
fp gp `++
EF sc @
fU bn @
E.c 0 @
sz We @
QJm
QJn
QJo
QJp
QJq
QJr
QJs
.Name x pp @2
ai QD ai QA av @2 @2
.Compare e1 .NotIn [1 e2 [1 pos @4
apos.endLine pos.line `== true `=
.Compare e1 .In [1 e2 [1 pos @4
ay Qv ah eW @3
.ext k7 e C none @3 @
.inl E.cc 0 @ @
aq Qv ah cY @3
he pins s U H _ I h @7
g pins s U H _ I h @7
absurd z Wp @2 \\z
ai Qv ai ah av @2 @2
I.bW.fresh eA _ @ @
ao E.ll 7 @ @
CL exc a @ >1 @
entry N arg a @ @2
cD ns ns.length @2
ns.map .str @
f1 f2 f3 `++ `++
f2 f3 `++
j4 nb nm ns @3
ns.map V.int @
aH Qbo rfl @2
bI bZ cQ a @3
.int n @
ao E.ll 8 @ @
bU a 3 @2 64 `%
.int k @
CL 'Chart @
.ref it @
cg QcE @
I.tok _ @
.tup ds @
some v0 @
some t0 @
.ez o u @2
e _ _ h @3
res a @
g i j @2
some 1 @
E.gg 7 @
f1 f3 `++
eE _ a @2
aX d 1 @2
.bl b @
j3 nb @
bQ ah @
h q a @2
QJt
QJu
QJv
QJw
QJx
QJy
QJz
QJA
QJB
QJC
QJD
QJE
QJF
QJG
QJH
QJI
excClassObj nm q C N bs bm hdct sn sub ab col dd k0 k1 k2 k3 k5 'ValueError.__new__ @18
swapsWith e some .Name x pos' @2 @ pos.line X.env @4 pure false @ `=
ak aQ 3 =n rfl E.bB Qv Qr @5 @
b8 E.ll 0 @ >1 rfl @2
[0 EN : >isEmpty 0 1 ?
i j rfl rfl q <5 \\q \\_ \\_
.Compare e1 .NotEq [1 e2 [1 pos @4
RW.line p.bn p.ns @2
r k a eE _ b @2 @2 \\b \\a @
k1.trans k2.trans c @ @
c a b i @3 \\i \\_ \\b \\a
keywordEach [0 X.env @2
.Subscript e1 e2 pos @3
hi pins s U H _ I h @7
x >1 >isSome \\x
.str _ _ Wl @3 \\n
ai QA Qhj @2
trivial \\_ \\_
us.reverse vs `++
w.ds.map dW bn @ @
some QhA @ δc `::
o.ws.length 1 `-
ts.map V.str @
U.set i Qa1 @2
binaryOp .Add @
.builtin id @
TP X pins U Q @4
vM E.ll 1 @ >1 @
vM E.ll 6 @ >1 @
.sh .int c @ @
x >1 ~! \\x
env outer `::
ao E.ll 9 @ @
es.length 1 `+
l.map QO @
.sh Qa0 @
.sh Qcn @
.sh QdD @
.sh QdA @
.lst us @
.lst tl @
h.trans g @
d.trans c @
f.trans c @
.ins c fs @2
.ref fI @
List Hg @
.inr x @
.inl h @
X.d7 E @
bW q a @2
out a @
f e `++
QJJ
QJK
QJL
QJM
QJN
QJO
QJP
QJQ
QJR
QJS
QJT
QJU
QJV
QJW
QJX
QJY
fnOf x qual gV st @ bX st @ aE st @ .none kV doc pm an dO ct @12
envOfC qual aE st @ s.heap.objs.size f dO @5
iO items.size items.size hi @3 iO items.size 0 lo @3 `-
eX X.prog X.w X.K X.mg X.base CX k f fd ps sp @11
ai cA E.bY E.cK Qv eS @4 av @2
fX X.env scope.names [0 @3
ay Qv ah cY @3
aU.any decide a >1 k `= @ \\a @
.builtin 'object.__class__ @
.sh .lst p.bn.map .str @ @ @
.sh .lst p.ns.map .str @ @ @
ai QD Qhj @2
aH aq QD ah b5 @3 rfl @2
w.qs.map aW bn ns @2 @
EO Addr Value `× `×
.Attribute e f pos @3
absurd a Wl @2 \\a
f7 _ e @2 \\e \\u \\b
False \\_ \\_ \\_
v_ E.ll 10 @ >1 @
.ins CL c @ dx gs @3
vL E.ll 5 @ >1 @
v_ E.ll 4 @ >1 @
aq QD ah cY @3
p.bs.length 1 `-
iR QaJ ah rfl @3
p.c.ss.getD j 0 @2
E.c 32 @
eval e X.env @2
r.symm.trans z @
f.symm.trans z @
jo hi hv hd iM @4
decide p >1 c `= @
bn.map .str @
.inl E.cc 1 @ @
aP aT aG @2
HY X.prog X.w @2
q a b c d e f @6
.sh .int j @ @
us.length 20 `+
.ref CL c @ @
cL rfl @
EO α `×
ai QaO av @2
K w.params @
l.map .int @
.lst [0 @
.int Qhi @
f.trans d @
g.trans f @
.own x @
Str Int `×
aX d 3 @2
truthy v @
.sh .non @
lx _ _ _ @3
.ref p >2 @
D.om ds @
p >1 8 `/
.sh p.p @
a >1 k `=
.own a @
.ref t @
.ref b @
.dK gs @
some n @
E.ll 7 @
p.ls R @
E.c 24 @
E.c 53 @
g1 g2 `++
e6 _ a @2
eE _ c @2
bU a 4 @2
c 3 `/
ff hi @
x l `::
QJZ
QJ0
QJ1
QJ2
QJ3
QJ4
QJ5
QJ6
QJ7
QJ8
QJ9
QKa
QKb
QKc
QKd
QKe
QKf
QKg
QKh
QKi
QKj
QKk
QKl
QKm
QKn
QKo
QKp
QKq
QKr
QKs
QKt
QKu
QKv
QKw
QKx
QKy
QKz
QKA
QKB
QKC
QKD
QKE
aP au v_ E.ll 3 @ >1 @ au aH aq Qv ak aV E.kD E.gg 7 @ @2 @ cY @3 rfl @2 au v_ E.ll 4 @ >1 @ au v_ E.ll 5 @ >1 @ aT @2 @2 @2 @2 aG @2
some .Name x pos' @2 @
p.kn true `= 0 oW p.oX @ ?
ai QZ av @2
starEach e1 e2 [2 X.env @2 false eval e1 X.env @2 ,2 starEach e2 [1 X.env @2 `:: `=
ai ay Qv ah cY @3 Qbd @2
pi pins s U H _ I hw H Z U ts vs _ S C \\C \\H1 \\J @8 @7
post_val_or_str gr Txt.slice_le z _ _ @3 a @2 fin <2 @
pZ bw ak pU E.bB QZ Qr @3 @ ah @2 >1 rfl @2
.builtin 'object.__setattr__ @
.Subscript e .Slice lo hi none p2 @4 pos @3
bf X scope Nc C s0 a f0 @7
b X.ex `∈ X.eI.heap.objs.size b `≤ `∨
ak aQ 2 =n rfl E.bB Qv Qr @5 @
bG X CL b e2 δ1 .sh .tup oz @ @ δ2 @7
.Call .Name 'len pp @2 e [1 [0 pos @4
a f2 `∈ H a @ Z a @ ?
au bE au bE aT @2 @2
.Call .Name x p @2 Qau [0 pos @4
aq QZ ak aV E.jz Qr @2 @ eW @3
.sh d @
Lies X pins U H s H' e C dE B s' @11
aq Qv ah eW @3
us.map T.sh .val u @ @ \\u @
hideAll s.heap nF X.stack @ @2
nY c fx r fs w WE @6 \\hw \\w
bT X CL b e2 δ1 .str j @ δ2 @7
bT X CL b e1 δ .str i @ δ1 @7
behindInMarks .NotIn e2 @2 false `=
.Compare e1 op [1 e2 [1 pos @4
Cx Value Shared Prop ^ ^ ^
.tup .str 'call @ .str n @ [2 @
congrArg _ i @2 \\i \\_ \\_
bG X CL b e δ .sh d @ δ1 @7
bC X.K CL b H Z δ U ts vs @9
eO au fW au fW aT @2 @2 aG @2
.sh .lst a.map .int @ @ @
absurd er z @ Wl @2 \\z
nF X.stack @
.Compare a op [1 b [1 pos @4
.cons h r @2 \\r \\h \\_ \\_
Fc X CL x k n arg Pre res @8
behindInMarks .In e2 @2 false `=
jo n.hi n.hv n.hd n.iM @4
aW bn ns @2
some T.sh d @ @ \\d
.type 'BaseException @
V BY Hp VK Prop ^ ^ ^ ^
Meets K CL b Z ts vs D E @8
.Name 'isinstance pp @2
QT bn.length ns.length w @3
absurd b fw @2 \\b \\a
behindInMarks op b @2 false `=
e4 _ e4 _ mF hb e @2 @2 @2
Result Shared Prop ^ ^
st.getD Qbc [0 @2 d [1 `++
bT X CL b e2 δ1 d δ2 @7
h H Z U ts vs _ S k @8
X.mg 'isinstance @ none `=
Str Option NameKind @ ^
wU n _ _ _ @4 \\n
wV n _ _ _ @4 \\n
ay Qv ah rfl @3
ak cS E.fh Qao @2 @
ak cS E.fh Q4 @2 @
lP.trans pV Wp hn @2 @
.Tuple elts kk pt @3
S.without nb c tb @3
vL E.ll 6 @ >1 @
q rQ p @ @ \\p
d8 K CL H Z δ U fp @7
us.length tl.length `=
.int _ _ @2 \\n
upd H p .dK [0 @ @3
.Name y px @2
r.line p.bn p.ns @2
aq dH 0 @ ah rfl @3
st.getD Qbc [0 @2
List ExceptHandler @
Nat Heap Prop ^ ^
keepIn K Qaq @2 true `=
some .sh t.ez @ @
.Name 'self p1 @2
ak dR QA ah @2 @
ai Qdg Qbd @2
Gl X 'isinstance @2
.type 'object @
C1 n _ @2 \\n
Nat.succ_pos _ @
X.env X.outer `::
es.length 1 `-
X.A.units 1 `+ cLine `<
Nat Ap Prop ^ ^
Nat B2 Prop ^ ^
c.ns.map .str @
c.ws.map WY.d @
.tup ds oz `++ @
d.keeps _ _ z @3
vM E.ll 2 @ >1 @
w.src j Int : `=
aq QZ ah cY @3
aL K CL Z ds vs @5
m p.c.es.length `<
.sh .int r @ @
.sh .str t @ @
.Name x pos' @2
.type 'set @
A.units 1 `+ cLine `<
s1.trans s2 @
qB nb nm m k w @5
c.bs.map j0 @
SP X pins D @3
rC N Qb1 @2
y.length 0 `==
vR.getD k 0 @2
L4 bn ns rs @3
ss.getD i 0 @2
dJ Qaf X.A @2
k1.trans c @
aC bn ns @2
Nat RW D ^ ^
tI r ta tb @3
bI bZ cQ d @3
x.length 1 `+
.Name x np @2
CL 'Tree @
.lst ys @
e.trans s @
.ok .next @
.ref D @ vs `::
vq x x st ps @4
g b o e a @4
.dT aU en @2
hw.q d hd @2
hw.d d hd @2
sT bn ns rs @3
vs HD `++
.type T @
.ref sl @
.tup ys @
gI o.ws @
eE _ he @2
oF H gp @2
es x [1 `++
a 24 `/
.cod q @
.int x @
p.Zz d @
E.c 25 @
E.gg 8 @
us ws `++
f1 f2 `++
v3 _ _ @2
us vs `++
j2 _ _ @2
aX d 0 @2
.sh r @
E.c 6 @
e _ _ @2
q qs `::
h k >1 @
r k >2 @
p.row 0 `=
QKF
QKG
QKH
QKI
QKJ
QKK
QKL
QKM
QKN
QKO
QKP
QKQ
QKR
QKS
QKT
QKU
au v_ E.ll 4 @ >1 @ au v_ E.ll 5 @ >1 @ aT @2 @2
.ListComp elt .Name y px @2 iter ifs 0 <4 [1 scope pc @4
.ListComp elt tg iter ifs 0 <4 [1 scope pc @4
fnOf x x gV st @ bX st @ Qan .none kV doc pm an dO ct @12
.cons r.mono e k a e6 _ b @2 @2 \\b \\a @2 i k a e4 _ b @2 @2 \\b \\a @ @2 \\k \\i \\_ \\r
.cons h k a e6 _ b @2 @2 \\b \\a @ r k a e4 _ b @2 @2 \\b \\a @ @2 \\k \\r \\h \\_ \\_
.Call .Attribute Qdb 'append pa @3 e [1 [0 pb @4
.builtin 'type.__call__ .ref C @ us `:: kw <2 @2
h k a e6 _ b @2 @2 \\b \\a @
r k a e4 _ b @2 @2 \\b \\a @
kL ns i ns.getD i Str.empty @2 @3 true `= 0 1 ?
rG ks es @2 qz ks es ss @3 `&&
jG X CL scope Nc xs.length tg parts ifs elt δc ds p q @13
some .lst ds.filter p @ >map g @ @ @
g.deeper envOfC x Qan s.heap.objs.size f dO @5 @
i6 .ix 2 @ [1 =p fH 2 =j Qeh rfl rfl ah rfl @6 rfl rfl bF _ @ @5
i6 .ix 0 @ [1 =p fH 0 =j Qeh rfl rfl ah rfl @6 rfl rfl bF _ @ @5
compEnvC scope Qfq s3.heap.objs.size X.env @4
a f2 `∈ H a @ Z a @ ? \\a
eB.mp b @ >elim h a @ r a @ @2 \\b \\a \\r \\h \\_ \\_
Block X CL scope Nc ifs elt oj δ1 ix @2 ds p g @10
.Compare e1 .Is [1 .Constant .none d p2 @3 [1 pos @4
envOfC qual scope s.heap.objs.size f cd @5
jd es @ 0 m `≤ m es.length `< es.length 1000 `≤ `∧ `∧ `∧
Im X W CL b scope Nc ifs elt δc ds p ok g @13
B7 X CL b Qau δ arg a @ >map T.sh @ δ1 @7
bf X scope Nc s.heap.objs.size s H fp @7
.builtin 'getset_descriptor.__get__ @
c_ n r ,2 E.c 32 @ QP Qhl hn rfl @6
G7 X.K CL n arg Pre res @6
.cons _ rfl <2 .nil @2
wY 'do 'then w.ds.map fU bn @ @ @3
qh x.length 110 `≤ \\x =P Wl Wl C @4
bu .cons E.ll 1 @ >1 Qdi .nil @3 Wl @2
bC K CL b H Z δ U tl ts `++ us vs `++ @9
ok a @ false `= fc b W Qdq exc a @ >2 @4 ^
hB hW fv e @ I.ok.mI x c D g @4 @2 @
vs.map some @ List.replicate n none @2 `++
fH 4 =j Qeh rfl rfl ah rfl @6
aB keep a e6 _ c @2 @2 @ \\c \\a
t 'bool `== n 'int `== `&&
upd upd H1 e Qdh @3 e QpB @3
bG X CL b e δ .sh .bl p @ @ δ1 @7
p.c.ks.getD m Str.empty @2 'leaf `=
.Assign .Name x pos' @2 [1 e pos @3 dP `::
bT X CL b iter δ .lst ds @ δ1 @7
WU p.bn p.ns p.rows @3
Option T @
Lies X pins U H s H' e C d B s' @11
.cons E.ll 0 @ >1 Qdi .nil @3
scope.names.lookup x @ some .local @ `=
V Bz Bz Hp VK Prop ^ ^ ^ ^ ^
PySem.call f vs @2 \\vs \\f
.lst tl t [1 `++ @
upd H a .dK putK gs k v @3 @ @3
.Assign .Name x pos' @2 [1 e pos @3
PassesOwn QE X.A X.env X.xe @4
.ins CL c @ dx kU f v gs @3 @3
starEach es X.env @2
.Compare e1 .Gt [1 e2 [1 pos @4
iG B l e C d some f @ s.heap @7
strKind_is X.prog X.w k t @4
absurd hw eR z @ @2 \\z
absurd er z @ h1 @2 \\z
p b o hb e @4 \\e \\hb \\o \\b
.tup .str 'put @ .int k @ t [3 @
.tup .str 'say @ .str n @ t [3 @
bH eO au bE Qhx @2 aG @2 @
p.c.es.getD d.iZ.toNat 0 @2 j `=
bT X CL b e δ .str k @ δ1 @7
trivial \\_ \\_ \\_ \\_ \\_
.wy cW p.c.es j @2 >length @
wY 'if 'and w.qs.map Qcm @ @3
.ins C dx fs @3
kk c eE _ o @2 @2 \\o \\c
absurd eR z @ Wl @2 \\z
absurd er a @ Wl @2 \\a
pa.endLine pb.line `== true `=
.Return some e @ pos @2 dP `::
lookup_relabel_local a @
.Constant Qa0 j pos @3
.Constant QaL j pos @3
f .int i t @2 .int j u @2 @2
h.ok _ U9 gh.mp hi @ @ @2
0 w.tg `≤ w.tg ns.length `< `∧
m 26 131621703842267136 `* `<
T.sh .bl z @ @ \\z
I.base.free b o e n a @5
apos.endLine iP.line `==
a.cps.toList.length 1 `+
c.ks.getD m Str.empty @2
ig bn.length ns.length d @3
rP bn aX Qbh 0 @2 >iZ @2
nP n a @2 >2 >1 \\n
tl.reverse ts `++
es.getD d.iZ.toNat 0 @2 j `=
RR P w K mg base CL h n @8
aj _ _ _ rfl <4 @
v .bl true @ `= \\_ \\v
.tup us @
.bl decide QbY @ @
nP n a @2 >1 \\n
hm b _ q z \\z @4
h pins s U H _ I hw @7
B7 X CL b es δ tl δ1 @7
l7 X CL b lo δ1 l δ2 @7
l7 X CL b hi δ2 h δ3 @7
HX f .sh QcU @ ,2 QJ `:: `++
.type 'ValueError @
st.getD Qbc [0 @2 x [1 `++
.int i t @2
starEach e2 [1 X.env @2
Flow Shared Prop ^ ^
aJ dR QZ ah @2 rfl @2
.Subscript o i pos @3
i pins s U H _ I h @7
iO items.size 0 lo @3
.bl decide i j `= @ @
.bl decide i j `= @ ~! @
Lay P w l H h0 H' B h @8
fq Qac scope y Nc ix @5
some .Name x px' @2 @
ak cS E.fh QP @2 @
c.bW.fresh eA _ @ @
a.bW.fresh eA _ @ @
BY Hp VK Prop ^ ^ ^
World Heap Prop ^ ^
kc jJ _ @ o1 _ _ @2 @2
ForInStep.yield r @
X.mg 'enumerate @ none `=
p.rows.map Qel @
.sh .lst Qdt @ @
d.params.defaults [0 `=
zW X CL b e δ P δ1 @7
n4 X CL b e δ t δ1 @7
.bl qz ks es ss @3 @
RW.line P.bn P.ns @2
tupleKind QcW @
V Hp VK Prop ^ ^ ^
codeIn K dO qual @3 true `=
.Name 'range pr @2
uE p.c.bs.length @
b8 E.ll 2 @ >1 rfl @2
nU X.prog X.w H' h' @4
bootBuiltins x @ some u @ `=
k NameKind.free `==
q \\_ \\q \\_ \\_
rP bn aX t 0 @2 >iZ @2
ak bN QZ ah Wp @3 @
ai Qdp Qfw @2
ay Qdg QD k @3
.Name 'range p @2
ys.length sizeLine `≤
.tup k.map kV @ @
tl.length sizeLine `≤
.sh r.mono ww @ @
Obj.mapFields g @
P.c.ns.map .str @
.builtin 'len @
h1.trans z @
d.trans s' @
List.range' 0 n @2
kL ns ns.length @2
nT X CL b e δ i p @7
nO p >1 p >2 nb ns @4
CL 'MoodError @
ak dR QD ah @2 @
BS Heap Prop ^ ^
f.mem_iff.mp c @
res a @ >clean true `=
q \\q \\_ \\_
its.size sizeLine `≤
AT BA BA `× `×
.WD ps more `++ @
.iY aU @
upd H p QeR @3
upd H a QbJ @3
Loc X.env.scope y @2
iG B l e C d fl h @7
Int Int Int ^ ^
PySem.W.OpenLaw
j.push Qb0 @
L3.D Option BC @ ^
some .lst l @ @
Gl X 'enumerate @2
.Expr e pos @2 dP `::
CL c >1 @
x yx r 36 `% @ `++
.inr .inl z @ @
c.is.map .tup @
c.os.map .tup @
x.length 1000 `≤
c.rows.take j @
QX X.env.scope x @2
.type 'list @
l.foldl lV es @2
RW.line bn ns @2
rP p.ns Qb8 @2
CL 'BadTree @
CL 'BadName @
v_ E.ll 5 @ >1 @
aq QZ ah eW @3
ai Qv Qbd @2
f.zh.trans s @
instObj C dx @2
decide j i `< @
.type 'int @
.List es pos @2
X.mg x @ some QU @ `=
cu X.K CL c @ f @3
b6 K CL Z aU gs @5
h.kinds m hm @2
l.map WQ @
CL 'NoName @
CL 'BadBox @
ai nM 1 @ av @2
fs.lookup f @
Array GenState @
some QeS @
some Qk0 @
X.mg 'int @ none `=
.tup Qci @
f1 f3 e3 `++ `++
.lst QbW @
.int CY c @ @
0 \\_
fJ P w H h a o @6
A.handled none `=
BI c.heap H @2
putK aU k v @3
K1 δ is ps @3
HX f t ,2 QJ `:: `++
h.objs.size a `≤
A T Prop ^ ^
D T Prop ^ ^
some .none @
X.pinned p @
T.oG p t0 @2 some u @ `=
s.map .int @
I.jA x c e @3
H a @ some Qlk @ `=
H a @ some Qcq @ `=
notStar e @ true `=
bI bZ cQ f @3
Hw X.K CL c @ @2
.Name y py @2
bI bZ cQ j @3
l.getD i z @2
bI bZ cQ c @3
b.with a o @2
r.length 1 `+
dF _ e1 e2 @3
hB Qp6 @
.bl false @
I.ok.hd l @
hB fv e @ @
r.there a @
d.trans a @
al.map ot @
gD QpC @
ws.map YM @
b7 sQ a @ @
Je sQ a @ @
upd H x o @3
l.most some n @ `=
.dT gs en @2
.ref p @ vs `::
Ad f t fs @3
.lst l @ ts `::
x CQ `∈
me p c nb @3
Hp Prop ^
b Qhr @
X.hand a @
Str Bool ^
gh.mp hm @
l.take j @
bH Qbe @
trivial
gz bz WI @ @
.str x t @2
X.mg x @ some u @ `=
rV t5 Nn @2
ne b o e @3
Nz d1 d2 @2
.str y t @2
m es.length `<
0 es.length `<
ig nb nm @2
jH [0 h0 @2
h.q d hd @2
h.d d hd @2
qk h r a @3
0 ns.length `<
vz h.n0 Wp @2
.type n @
Gl X 'int @2
.lst G8 @
.inr cl @
.ref D' @
below d @
RW.wy n @
oW p.oX @
Vals xs us @2
cu X.K C f @3
Vals vs us @2
eE _ hw @2
i7 aU k @2
vO H a y o @4
P [0 [0 [0 @3
ic sc I @2
bD e hn @2
oz [0 `≠
r 36 `/
m 26 `/
m 26 `%
WR m us @2
jD m us @2
lV es p @2
m 10 `/
n Int : mb `=
w.src n `<
IW fs d @2
iR QaJ ah Qf0 @3
e x `= H e @ some Qf9 @ `= `∨
upd Z p QlK @3
upd H p QlK @3
upd H D Qf5 @3
some QmX @
aX Qgb 0 @2
List Qf1 @
bf X scope Nc s3.heap.objs.size s3 upd H s.heap.objs.size .lst [0 @ @3 fp @7
dM fL c7 cO jX i f.ask E.bS Q4 ai QD ai ak K8 .ty 'ValueError @ =v E.gg 12 @ E.tD nL rfl @5 @ av @2 @2 .one rfl f.ve @2 @6 @ @ fL c7 cO Fu E.bS E.zb Q4 E.gg 13 @ Q1 @5 @ @ gJ cO Ny E.bS E.VB Q4 E.gg 14 @ Q1 @5 @ @ \\_ @2 \\_ @2 @
oK c.bs.map j0 @ c.ns.map .str @ .ins 'Tree sG c.ks c.es c.ss @3 @2 c.is.map .tup @ c.os.map .tup @ c.ws.map WY.d @ @6
rG ks es @2 qz ks es ss @3 `&& false `= 'BadTree k9 nm @ false `= 'BadName 'BadBox ? ?
b NameKind.free `== env.scope.kind .function `== `&& env.kindOf n @ some _ @ `== `&& true `= n NameKind.cell ,2 n b ,2 ?
c7 cO aJ c_ bs E.c 58 @ E.gg 4 @ ai cA E.bY E.gU Qv kM @4 av @2 h.b1 h.b2 <2 rfl @6 congrArg QaM hb @2 @2 @ @
gK aJ c_ bs nm tr is os ws e c ,8 E.c 59 @ QP ai Qv ai aq QD ah eW @3 av @2 @2 trivial rfl @6 rfl @2 @ \\_
.ext k7 e C some dx @ @3 @
b 'in 'out ?
ai ak v_ Vn.wx E2 0 @ @ @ @ ai ak v_ Vn.wx E3 1 @ @ @ @ ai ak v_ Vn.wx E3 2 @ @ @ @ av @2 @2 @2
c7 cO aJ c_ ks es ss nm.map _ @ ,4 E.c 55 @ Qr ai cA E.bY E.nA Qv yr @4 Qfp @2 h.t f.trans h.nl @ <2 rfl @6 congrArg QaM e @2 @2 @ @
c7 cO aJ c_ ss.getD i 0 @2 es.map _ @ ,2 E.c 53 @ QP ai QA ai QcF av @2 @2 trivial rfl @6 congrArg QaM o @2 @2 @ @
ai .lst p.oX.map kH.d @ @ =d ak fS c_ p.bn p.ns p.rows ,3 E.c 45 @ QP Qbu G Bs G @ @6 fz @2 @ av @3
dM fL cO aH ay Qcb ah b5 @3 rfl @2 @ gJ cO aH ay Qcb ah cY @3 rfl @2 @ @ \\_ @2 @
aX d 0 @2 >toS 'put `= bn.getD aX d 1 @2 >iZ >toNat Str.empty @2 aX d 1 @2 >toS ?
a >1 k `= a >1 v ,2 a ? \\a
a >1 k `= a >1 d ,2 a ? \\a
c7 cO aJ c_ nm E.c 56 @ Q4 Qfp h.n1 hn <2 rfl @6 congrArg QaM hm @2 @2 @ @
r .ok .ret .bool true @ @ @ `= OldK c.heap s'.heap @2 s'.os c.os `= AllBare s'.gens @ `∧ `∧ `∧ \\s' \\r
newFunctionEnv scope X.env.globals Qfq [0 X.env.qual none .none some X.env @ @8
swapsWith Qkb Qhh pos.line X.env @4 pure true @ `= swapsWith Qkb Qhh pos.line X.env @4 pure false @ `= `∨
swapsWith Qka Qhh pos.line X.env @4 pure true @ `= swapsWith Qka Qhh pos.line X.env @4 pure false @ `= `∨
au c_ l n k r ,4 E.c 25 @ >give QP ai QhC Qdc @2 trivial a <2 rfl @6 aT @2
i6 .ix 0 @ [1 =p fH 0 =j b8 E.ll 1 @ >1 rfl @2 rfl rfl ah rfl @6 rfl rfl bF _ @ @5
jG Qac CL scope Nc xs.length tg parts ifs elt δc ds p q XE Y W @2 \\Y gd @15
f rfl H1 Z1 U ts vs _ a.pop k v H2 Z2 c.trans d @ Qag g @6 \\g \\k2 \\d \\Z2 \\H2 \\v @9
isLt x.cps.toList.getD 0 0 @2 @ x.cps.toList.all isLt c @ k8 c @ `|| \\c @ `&&
ak c_ bn t ,2 E.c 12 @ Qr ai Qv ai QaN av @2 @2 f e <2 rfl @6 @
ay x l `:: >map .str @ =ds Q1 ah b5 @4
compareOp op @
c_ l d r ,3 E.c 24 @ >give Qr ai Qdj Qdc @2 trivial h1 <2 rfl @6
f rfl H1 Z1 U ts vs _ c k H2 Z2 a.trans d @ Qag g @5 \\g \\k2 \\d \\Z2 \\H2 @9
isLt c @ k8 c @ `|| \\c
ze f hb I h e pins s2 U H2 x y v u Q g d c q @13 \\q \\c \\d \\g \\H2 \\y \\x \\s2 \\u \\v @5
x.cps.toList.getD 0 0 @2
attributeBase Qdb 'append X.env eval Qdb X.env @2 @4 eval Qdb X.env @2 `=
gK xW aq .int a @ .int c @ [2 =ds QhC ah b5 @4 QD @2 >2 @ \\_
c_ p.n0 r ,2 E.c 32 @ Q4 ai aq QZ ah b5 @3 Qbd @2 h.n0 rfl @6
hW fv e @ I.ok.above @2
true D.bV _ @ D.bV _ @ true true true `&& `&& `&& `&& `&&
Option V @
dM cz false =q bw Qeg ah @2 >1 absurd er z @ Wp @2 \\z @3 @
RR QaQ s3.heap.objs.size .error x @ Ro @4 \\Ro \\x
dM cz false =q aZ QA az @2 >1 absurd er z @ Wl @2 \\z @3 @
fnOf name qual params body scope dV kV doc pm an dO ct @12
XE kE CX P w K mg base N x Qan f dO g outer s H E @16 W @2
aU.map a >1 k `= a >1 y ,2 a ? \\a @
Int Int `×
n 'int 'str 'list 'tuple 'bool 'dict [6 `∈
t8 X CL scope Nc xs.length tg parts ifs elt δc ds p g @13
swapsWith QcC some .Name y py @2 @ ye.line X.env @4 pure true @ `=
h H Z U ts vs _ S c.no n @ >elim \\c \\k1 \\d \\Z1 \\H1 \\v @8
y f `= some v @ none ? \\y
decide rQ p @ 'do 'then [2 AT : `∈ @ \\p
b8 E.ll 1 @ >1 rfl @2
HT.iO xs.length xs.length hi @3 HT.iO xs.length 0 lo @3 `-
.Call .Attribute o 'partition apos @3 e [1 [0 pos @4
c9 x @ true `=
decide rQ p @ 'if 'and [2 AT : `∈ @ \\p
La fH b8 E.ll 7 @ >1 rfl @2 rfl rfl ah rfl @5 rfl rfl @3
dM cz aZ QA az @2 >1 eK bw Qeg ah @2 >1 @ \\_ @2 @
c_ bs n k r ,4 E.c 25 @ >give QP ai Qdj Qfw @2 trivial h1 <2 rfl @6
aJ c_ x E.c 31 @ Q4 ai QfI av @2 d rfl @6 rfl @2
H a @ >isSome true `= Z a @ W' a @ ?
ns.getD c ns.length Int : `% >toNat Str.empty @2
eX X.prog X.w X.K X.mg X.base pT k f fd ps QkC @11
X.env.kindOf y >1 @ some .cell @ `= X.env.kindOf y >1 @ some .free @ `= `∨
hb.imp hb >1 HW hb >2 @ <2 \\hb id @2
.Call .Attribute o 'split apos @3 e [1 [0 pos @4
K.lookup b @ some .type 'tuple @ od .seq its n @2 sl <4 @ `=
hb.imp hb >1 Bf hb >2 @ <2 \\hb id @2
aq aq dH 0 @ ak aV E.iA ju @2 @ ug @3 ah b5 @3
iD r6 g hm PySem.boot_len Qdz a =he @6
.Call .Attribute e0 'append pa @3 e [1 [0 pb @4
true true tC bn t @2 >iQ true `&& `&& `&&
ai aq .str n @ .int k @ [2 =ds Qv ah b5 @4 Qdc @2
t8 X CL scope Nc n tg parts ifs elt δc ds p g @13
attributeBase o 'split X.env Qcf @4 eval o X.env @2 `=
findIn K QU '__setattr__ @3 some some Qhp @ @ `=
X.d7 Cy X CL b Z δ1 ts vs CL c >1 @ c >2 @9 @
.inl _ _ rfl gL _ We @2 hz _ We @2 <2 qd _ _ _ @3 <5 @
.lst D5 xE s w @2 >is @ D5 xE s w @2 >os @ T6 xE s w @2 >ws @ [3 @
.int j i `> j i ? @
.int j i `< j i ? @
swapsWith Qkf none pos.line X.env @4 pure false @ `=
pZ bw ak pU E.bB QA Qr @3 @ ah @2 >1 rfl @2
rg aN vM E.ll 3 @ >1 @ aN QfH bP @2 @2 aG @2
.int i 0 `< i ~- i ? @
.Call .Name 'enumerate pr @2 e [1 [0 pc @4
some o.elim .none rawInt b @ \\b @2 @
.ext excAt e C dE @3 @
.lst gk es cs j @3 >map .int @ >map T.sh @ @
vM E.ll 3 @ >1 @
Value Addr Result Shared Prop ^ ^ ^ ^
trivial \\_ \\_ \\_ \\_ \\_ \\_ \\_ \\_ \\_ \\_ \\_ \\_ \\_ \\_ \\_ \\_
p.c.es.getD p.rz Qb8 @ >toNat 0 @2 m Int : `=
c 3 `/ a.ks.length Int : z 16 `/ 2 `% `+ `%
.cons E.ll 3 @ >1 .inl E.cc 2 @ @ .nil @3
ai vE E.ll 6 @ >1 rfl H.trans iM @ @3 av @2
K.lookup f @ some oc od .func Qfl @ BP <4 @ `=
k _ _ Z QF QF S.push QcU @ @6
K.lookup f @ some oc od .func Qkc @ BP <4 @ `=
p >1 8 `% 3 `< 1 0 ?
.tup .str 'put @ .int k @ .tup .int a @ .int c @ [2 @ [3 @
.tup .str 'say @ .str n @ .tup .int a @ .int c @ [2 @ [3 @
S.N.take S.m @
aH ay Qim Qap j6 mc B @2 @3 Iu m @ @2
ak aV E.iA Q4 @2 @
ay x l `:: >map .str @ =ds dH 0 @ ah b5 @4
List kH @
aj aj _ rfl <2 @ @ \\_
scope.names.lookup x @ some .globalImplicit @ `=
k1.trans k2.trans k3.trans c @ @ @
.Compare e1 .In [1 .Tuple es j p2 @3 [1 pos @4
Block X CL scope Nc ifs elt δc ds p g @10
t4 K CL ps.length arg Pre res out @7
aq dH 0 @ ak aV E.jz ju @2 @ eW @3
c_ n r ,2 QfM QP Qhl hm rfl @6
rQ ZH d @ @ 'do 'then [2 AT : `∈
.tail _ .head _ @ @2
.call .ref B @ .ref a @ [1 [0 <2 @2
.Call .Name 'int pp @2 e [1 [0 pos @4
ns.getD aX d 1 @2 >iZ >toNat Str.empty @2
l.Pairwise a.src c.src `≤ \\c \\a @
fH 1 =j Qeh rfl rfl ah rfl @6
rQ ZH d @ @ 'if 'and [2 AT : `∈
c_ x r ,2 QfM QP Qhl p rfl @6
v >2 b hb @2 >trans e @ \\e \\hb \\o \\b
.cons r.mono e @ i @2 \\i \\_ \\r
n >2 b hb @2 >trans e @ \\e \\hb \\o \\b
DZ X CL b e1 e2 [2 δ .int i @ .int j @ [2 δ1 @7
bC K CL b H Z δ U .sh d @ ts `:: QaW @9
YB Qac CL x k n arg Pre ok res exc @10
QH Qac CL b Qis iter δ ds δ1 @8
.str _ _ qc h.ok _ @2 @3 \\n
decide n 1 `+ Nat : mb 1 `+ `= @ decide _ @ `&&
sy E.g.nd E.g.calm Qaa Qam @4
r.nf i Nat : 1 `+ Int : @ \\r \\i
v .non `= Q Qa9 H2 @2 `∧ \\H2 \\v
B7 X CL b es δ ds.map T.sh @ δ1 @7
G7 K CL ps.length arg Pre res @6
List.replicate xs.length none @2
Turn X.prog X.w X.K tg J fp it tn @8
.Assign .Name x pos' @2 [1 Qkb pos @3 dP `::
gs.any decide a >1 k `= @ \\a @
.Assign .Name x pos' @2 [1 Qka pos @3 dP `::
al.map some @ List.replicate n none @2 `++
upd upd H e QpB @3 dx Qck @3
DZ Qac CL b Qau δ arg a @ δ1 @7
n 1000 `≤ 0 ns.length `< ns.length 1000 `≤ `∧ `∧
is.map D.tup QeM @ \\l @
os.map D.tup QeM @ \\l @
.str jD c j sp `* `+ mW c sp j @3 @2 @
ak aQ ed _ @ E.bB QZ Qr @4 @
.str IA d.q3.toS d.at2.iZ ,2 @ @
.io cW p.c.es j @2 >length 'out @2
aq QA ak aV E.zg Qr @2 @ b5 @3
rG c.ks c.es @2 qz c.ks c.es c.ss @3 `&&
PySem.F.args_tuple_add_2 _ _ @2
cJ X CL b dP δ1.set i QaD @2 D @6
bG X CL b e δ .lst QbU @ δ1 @7
cJ X CL b dP δ1.set i Qkm @2 D @6
.Compare e1 op a [2 e2 e3 [2 pos @4
Tg Qac W scope Nc C s0 c f0 @8
.lst l.map .int @ >map T.sh @ @
ak wI E.bB Qv l Qr @4 @
vE E.ll 6 @ >1 rfl IG _ _ _ _ @4 @3
aj aj k _ rfl @2 @ @ \\_
spliced backTo pos Qk5 @2 @
letOwnedTupleGo tg QdF u @3
QH X CL b Qis iter δ ds δ1 @8
t4 X.K CL n arg Pre res out @7
.cons _ rfl <2 QkD @2
m us.length `+ 20 `+ 26 131621703842267136 `* `<
.str _ _ L8 hn @ @3 \\_
ak aQ l E.bB Qdg QP @4 @
ai cA E.bY E.gU Qv kM @4 av @2
instObj C s.heap.objs.size @2
QI Qac CL b tg iter δ ds δ1 @8
au QfU au QfU Qj9 @2 @2
x '__classdict__ Str : `==
.BoolOp .And b rest `:: pos @3
a b rest `:: `::
C b o hb e @4 \\e \\hb \\o \\b
.Compare a op f [2 b c [2 pos @4
mE X.K H p ys @4 lK X.K H p ys @4 `∨
.Compare e1 .LtE [1 e2 [1 pos @4
.Compare e1 .GtE [1 e2 [1 pos @4
bT X CL b e1 δ .lst ds @ δ1 @7
.Assign .Name y py @2 [1 QcC ye @3
absurd hb fw @2 \\hb \\b
S.f a @ >2 >2 >2 >1 \\a
S.f a @ >2 >2 >2 >2 \\a
.ins 'Tree sG ks es ss @3 @2
bn.getD a.toNat Str.empty @2
ef.mpr d hd rfl <3 @
p.c.ks.getD m Str.empty @2 'one `=
Qkk k9 nm @ Ag bs @ `&& `&&
List.length_filter_le _ _ @2
cs.getD j Int : >toNat 0 @2 2 `/
ay Qig Q1 eV m0 ms @2 @3
ai aq QaO ah cY @3 Qeu @2
Aj dW bn @ dC bn @ w.ds d @4
ak Lb E.qx Qao QD l @4 @
I.base.keep b o e n hb l @6
.BoolOp .Or b rest `:: pos @3
HC P w K mg base A outer s H @9
.Compare e1 .Lt [1 e2 [1 pos @4
.BoolOp .And e2 es `:: pos @3
.BoolOp .And e e2 es `:: `:: pos @3
bf X scope Nc C s0 H0 f0 @7
L b hb @2 >1 \\hb \\b
.int cD ns ns.length @2 Nat : @
.bl Txt.startswith z y @2 @
Pre a @ ok a @ false `= `∧ \\a
S.f a @ >2 >2 >1 \\a
.str _ _ qc Wl _ @2 @3 \\n
ef.mpr q b rfl <3 @
ef.mpr q f rfl <3 @
ai aq Qv ah ug @3 Qeu @2
ai QaO ai QD Qeu @2 @2
.Pass 0 0 0 0 <4 @
.BoolOp .Or e2 es `:: pos @3
.BoolOp .Or e e2 es `:: `:: pos @3
bT X CL b e2 δ1 QdA δ2 @7
bf X scope Nc C s0 b f0 @7
.builtin 'isinstance @
bT X CL b e δ .int k @ δ1 @7
scope.names.lookup x @ some .free @ `=
bT X CL b e δ .int i @ δ1 @7
bT X CL b e δ .str z @ δ1 @7
bZ X =X iter =e @2
handleBy QaE X.env h @3
qr X.K CL n arg Pre exc @6
b.Z a @ some .ext excAt a C dE @3 @ @ `=
.Subscript Qcj i pos @3
.Subscript Qcj e pos @3
nsIn K mainGlobals x @3 some QcN @ `=
Pre a @ ok a @ true `= `∧ \\a
S.f a @ >2 >1 \\a
c 48271 `* 2147483647 `%
List.mem_reverse.mpr a @
p.c.ks.getD m Str.empty @2
p.c.ns.getD m Str.empty @2
p.rz Qb8 @ um p.c.es m @2 `∈
a.src c.src `≤ \\c \\a
absurd eR z @ Wp @2 \\z
absurd er z @ Wp @2 \\z
absurd eR a @ Wl @2 \\a
Value Value Sem Value @ ^ ^
h pos pins s U H _ I c @8
g pos pins s U H _ I h @8
upd H p .tup xs ys `++ @ @3
.ext LS w a ds vs us @5 @
absurd q fw @2 \\q
.BinOp e1 .Mult e2 pos @4
upd H a .lst us v [1 `++ @ @3
.lst QbU @
f.trans s3.trans s' @ @
ys.map some @
some .iY vo aU k d @3 @ @
bT X CL b e1 δ N2 k @ δ1 @7
I.base.free b o z n nx @5
S.f a @ >1 \\a
w 'in 'out [2 AT : `∈
lR E.tu QcI i1 Qr @4
lR E.tu QfG i2 Qr @4
aH aq QaO ah b5 @3 rfl @2
x '__debug__ Str : `==
isTrue e X.env QfN @3
.Constant .none j pos @3
.inr o e _ _ h @3 <2 @
Fm X CL x k n arg Pre res @8
tm X CL x k n arg Pre exc @8
S a @ >2 >1 \\a
ok d @ true `= t g d @ `= `∧ \\t \\d
c.ns.getD m Str.empty @2
AT AT RW Int `× `× `×
AT BA BA Int `× `× `×
j0 xt s m7 s @ d.iZ @3 @
ai Qv ai QbT av @2 @2
ai QD ai Qdp av @2 @2
x6 E.bY E.ny QaJ yu @4
isTrue e X.env whole @3
.Return some e @ pos @2
toString i @
.ins C dx kU f y fs @3 @3
HT.iO xs.length 0 lo @3
starEach Qau X.env @2
j pins s1 U H1 _ m e @7
.Constant Qa0 k p @3
False \\_ \\_
S a @ >1 \\a
w8 ds p ok g ds.length l @6
iz bn @ iz ns @ q.Ok bn ns @2 `∧ `∧
FT Je s @ b7 s @ >length p @3
aj _ _ rfl <3 @
cA E.fD E.jI Qv rE @4
cA E.bY E.pK Qv Bh @4
cA E.bY E.nq Qv yt @4
n \\n \\_ \\_ \\_ \\_
storeName X.env x u @3
h pins s U H Q I hw @7
lastMarks op f [2 b c [2 @2 false `=
f7 _ q @2 \\q \\u \\b
hv pins s U H _ I h @7
f7 _ q @2 \\q \\l \\b
f7 _ q @2 \\q \\_ \\_
starEach e f [2 X.env @2
DZ X CL b es δ1 ds δ2 @7
.cons g.mono k2 @ f @2
ForInStep.yield ok @
.bl t n `== QkN `|| @
.str Txt.join z l @2 @
.Subscript e0 e2 ps @3
oK bs nm t is os ws @6
f l.getD Qcd z @2 @
40 jy s @ >length `-
cT aN QfU bP @2 aG @2
.lst ws.map WY.d @ @
ak bO QZ Q1 o We We @2 @3 @
e \\e \\_ \\_ \\_
d pins s U H _ I h @7
b pins s U H Q I h @7
intBits_le_64 h1 a @2
x.above y c nv h @ @3
call QeD v us `:: @2
ks.map kV @
behindInMarks op e2 @2 false `=
X.env.kindOf n @ some .local @ `=
strKind_is _ _ _ _ @4
Vals QeA its.toList @2
jt Qac scope xs Nc ix @5
Y.re P w K mg base @5
ak dR Qv Q1 @2 @
Nat.not_lt_zero m @
.sh .lst QfS @ @
l.getD i Str.empty @2
T.sh _ @ \\q
.int es.getD i 0 @2 @
es.take j @
.sh .str QkT @ @
e \\e \\_ \\_
starEach e [1 X.env @2
α Shared Prop ^ ^
compareOp .NotIn @
ns.map WData.int @
t res a @ `= \\t \\a
.ins CL c @ dx [0 @3
.pin y .ins c [0 @2 @2
Txt.slice z lo hi @3
Vals.strsFrom _ _ @2
X6 sc inner n1 n2 @4
sx X CL b e δ cx δ1 @7
.ok .ret .none @ @
.lst tl.set j t @2 @
z.length y.length `<
Yr K C x qual st f fd @7
es.getD m.toNat 0 @2
WN q >2 @ \\q
l.getD Qcd [0 @2 d [1 `++
lS c.ks c.es c.ss @3
ns.getD k.toNat _ @2
RW.io n w @2
bH eO Qhx aG @2 @
.str kG bn ns _ @3 @
p.c.is.map D.tup @
p.c.os.map D.tup @
.lst st.map lT @ @
.lst st.map tT @ @
ks.getD i _ @2 yC `∈
ai QD ai az av @2 @2
.tup p >1 >map kV @ @
eval Qat X.env @2
LM X pins U tg R @5
nG X binaryOp op @ r @3
nG X compareOp f @ i @3
.builtin 'max @
.builtin 'min @
h1.symm.trans e @
.lst tl0 @
l.getD k.toNat z @2
L2.St Hp Prop ^ ^
fP K CL H Z aU gs fp @7
rawInt L @
items.size ns.length `=
pm.mem_iff.mp d @
rest.length sizeLine `≤
l.foldl Qdw o @2
c x.cps.toList `∈
k9 c.ns @ Ag c.bs @ `&&
.lst l.map lT @ @
mH QfE ah rfl @3
b8 E.ll 6 @ >1 rfl @2
ai Qdj Qeu @2
ai QhC Qfw @2
ks.getD i _ @2 'leaf `=
.sh .lst c.zY @ @
.sh .lst c.lg @ @
F3 sQ a @ wQ a @ @2
op CmpOp.NotIn `==
Int Int Prop ^ ^
Int Int Bool ^ ^
binaryOp .Mult @
Rc r i ta tb tc @5
MZ s.heap x dx C mA @5
A.under Qkg @
.type 'tuple @
.Dict [0 [0 pos @3
.Tuple es j pos @3
.int ds.length @
c.deeper Qfm @
l.deeper Qfm @
l.map L3.D.str @
pE X CL tg is parts @5
lL hY.mp hd @ >1 @
L3.D Bx Prop ^ ^
Nat.succ.inj e @
Nat.zero_add _ @
kk c WF @2 \\A \\c
e1 Qdu e3 `++ `++
some .int z t @2 @
strKind z @ strKind y @ `<
XJ K c fl qual C st @6
j4 nb nm ns o p @5
ay QD Q1 eV We We @2 @3
ak bO QaN az Wp @3 @
mH QcE ah rfl @3
aq dH 0 @ ah b5 @3
ai QhC Qdc @2
ai QaO Qfw @2
s.heap.objs.size a `≤
execs st X.env @2
pyNext QdF @
Value Sem Value @ ^
compareOp .Eq @
compareOp .In @
ns.length sizeLine `≤
aS K CL H Z t v fp @7
k H1 Z1 a k1 c @5
i.push Qbx @
g.push Qbx @
c.push Qbx @
.If e a c pos @4 dP `::
pQ pR bZ bZ hm @4
pP pR bZ bZ hm @4
f.push Qbx @
l.push Qbx @
pQ jE bZ bZ hm @4
pP jE bZ bZ hm @4
m.push Qb0 @
.lst acc y [1 `++ @
.lst G8 yv [1 `++ @
L3.D T Prop ^ ^
aU.map QpK @
gs.map QpJ @
some .ref y @ @
A.frames some QeJ @ `=
X.pinned pins @
typeOf Qa9 @
ns.length 1 `+ scanBound `<
.md n k x st z @5
.bl IZ n k w @3 @
.bl rG ks es @2 @
.sh .val tv @ @
cs.getD m 0 @2 2 `/
CL 'BadDeed @
CL 'TooWide @
WQ yA s d.iZ @2 @
.int toF p c @2 @
mH QaJ ah eW @3
T.sh .int r @ @
c.ks.map .str @
c.es.map .int @
c.ss.map .int @
I.ok.Ho b o e @3
AP X pins U Q @4
exec st X.env @2
St Hp Prop ^ ^
fF X.prog X.w @2
.type 'str @
some k Int : @
Bz Hp Prop ^ ^
bL K CL H Z t v g @7
AY Ru bZ bZ i @4
AY BU bZ bZ i @4
x.length sizeLine `≤
a.pop.push f @
bs.map D.int @
ns.map D.int @
PyData.strOk x @ true `=
tl.length 1000000 `≤
s.trans c.zh @
l.length sizeLine `≤
aU.length 1000000 `≤
.int j Int : @
ns.map V.str @
eval e0 X.env @2
List α @ Prop ^
h.objs.size 1 `+
K.lookup C @ some Qee @ `=
c.ss.getD m 0 @2
some n Int : @
CL 'BadWay @
CL 'BadRow @
CL 'NoStep @
vL E.ll 1 @ >1 @
vM E.ll 4 @ >1 @
vM E.ll 5 @ >1 @
c n Int : `/
aH Qdj rfl @2
aH QbV rfl @2
aH QpW rfl @2
ay QA ah h0 @3
.sh .str N @ @
ks.map D.str @
.sh .str Z @ @
bC K CL b H Z δ U QlF Qew @9
.BoolOp .And Qsq pos @3
WK .bl QdO @ \\j \\i @
.BoolOp .Or Qsq pos @3
bT X CL b e2 δ1 QmX δ2 @7
call QeX .ref e @ rest `:: @2
Aj QhY Qjb w.qs d @4
e QmI @ \\z
.sh .lst Qnz @ @
.int QdO s.toks @2
vq S.x S.x S.st Qrb @4
aq Qv ah Qf0 @3
ay Qv ah Qf0 @3
aq QZ Qrd ug @3
excAt e Qm9 d @3
G0 ok a @ QdN @2
f.trans QmJ @
NF U ix QtF @3
upd H' e QqW @3
upd H l Qji @3
l.map Qvl @ t `++
w7 S.st S.N Qrb @3
.tail _ Qrp @2
.str Qt5 @
.ref x @ Qjs `::
.tup QuL @
some QvC @
some QtD @
.ins c QdN @2
some QvG @
adds QuY @
swapsWith e none pos.line X.env @4 pure false @ `=
AC X e es @3
bT X CL b e1 δ .str x @ δ1 @7
QI X CL b tg iter δ ds δ1 @8
AC X e [0 @3
AL X pos es @3
bG X CL b e1 δ .sh .tup ds @ @ δ1 @7
jt X scope xs Nc ix @5
bT X CL b e δ .lst ds @ δ1 @7
bT X CL b e δ1 .str y @ δ2 @7
bT X CL b o δ .str z @ δ1 @7
Gl X x @2
i δ1.length `<
arg a @ >length n `=
FuncData
List κ V `× @
Ng K x qual st f fd @6
DZ X CL b Qau δ arg a @ δ1 @7
keepIn X.K Qaq @2 true `=
bT X CL b e2 δ1 .int k @ δ2 @7
AN X iter @2
bT X CL b e δ d δ1 @7
ds.length oz.length `+ sizeLine `≤
X.N.Nodup
Loc X.env.scope x @2
p.c.ss.length p.c.es.length `=
Around
A BC ^
nU P w H h @4
cX N ps Qan @3
fq X scope y Nc ix @5
X.A.units 64 `+ cLine `<
Qyv
QyK
QyL
X.mg x @ some Qaq @ `=
bT X CL b e2 δ1 d2 δ2 @7
Qyl
List κ Value `× @
r.Ok bn ns @2
bT X CL b e1 δ d1 δ1 @7
Vn X i x @3
PE X a ta @3
nG X compareOp op @ r @3
Qyo
X.mg 'range @ none `=
Qyy
X.xe False \\_ \\_ `=
Ln X i x @3
A BC Prop T `× `× ^
L2.Inv X pins U H s @5
h.Ns mainGlobals mg @2
RelV y u @2
Binds X.K fd ps ds @4
bK K CL Z d v @5
bL K CL H Z t v fp @7
Binds X.K fd ps [0 @4
z.length sizeLine `≤
α Bool ^
x '__name__ `≠
String
QyE
Qyp
QyH
K.In s.heap @
Option Expr @
Array DictEntry @
A T ^
sA ds p q G @4
A B2 ^
It Hp Prop ^ ^
X.mg 'len @ none `=
QyQ
QyR
QyS
QyV
Qy2
Qzp
Qy4
Qzi
Qzj
Qzk
Qzl
QyZ
Qzr
Gl X 'range @2
List DictEntry @
List WY @
Qzu
Qzv
Qzw
Qzx
Qzy
Qzz
QzA
QzB
QzC
QzD
QzE
QzF
QzG
QzK
QzL
QzM
QzN
QzO
QzP
QzQ
QzR
QzS
QzT
QzU
QzV
QzW
QzX
QzY
QzZ
Qz0
Qz1
Qz2
Qz3
Qz4
Qz5
Qz6
Qz7
Qz8
Qz9
QAa
QAb
QAc
QAd
QAe
QAf
QAg
QAh
QAi
QAj
QAk
QAl
QAm
QM K x st f fd @5
dz bn.length d @2
m5 bn.length d @2
D Bool ^
L3.D Bool ^
QyM
PE X b tb @3
PE X e te @3
Qyw
Qy6
D Option BC @ ^
RelV v u @2
dJ k X.A @2
Passes CX X E @3
aA H H' @2
Qy0
Qza
mD ds k @2 some d @ `=
PA X Qau t @3
PE X i ty @3
aA Z Z' @2
α D ^
QzJ
QyX
AB X pos e @3
D.bV ds @ true `=
List Qp8 @
Qyz
A Ex ^
Ae H v0 p w @4
X.mg x @ none `=
KV aU vs @2
Qyx
QyN
Qzg
p.kn true `=
Gl X 'len @2
Vals HD ds @2
T Prop ^
L3.D T ^
ig nb nm d @3
Qyr
QkU
Option CA @
Option Bool @
QyI
PT X a tA @3
QyA
Qqp
m5 nb d @2
AM X x @2
Qzm
QyT
QyC
Qzn
KT H aU xs @3
Qzc
QyF
Qym
QyP
k l.length `<
Qyn
Qzq
QyO
List EY @
Qqf
0 l.length `<
RW Bool ^
i l.length `<
BC Int `×
FT x n p @3
D T ^
α β ^
iz QcV @
Operator
QzH
Qy3
QyW
PE X o td @3
H p @ none `=
Qys
A B1 ^
G 0 [0 @2
Qyu
Qyt
Str Bz ^
A Bool ^
D Prop ^
List _ @
K.In h @
Qzh
RelV x v @2
Qyk
Qzs
Qy1
AS X e f @3
Qzb
Qzo
Qp8
Qzd
QyY
QyU
QyD
Qyq
Qzt
Qze
QyB
Qy8
QyG
aA Z H @2
Qzf
Qy5
QzI
GE X x l @3
Qy9
Qy7
QyJ
QAn
QAo
QAp
QAq
QAr
QAs
QAt
QAu
QAv
QAw
QAx
QAy
QAz
QAF
QAI
QAJ
QAP
QAQ
QAV
QAW
QAX
QBJ
QA1
QAO
QA2
QBj
QBo
QBl
QBm
QAU
QA6
QA7
QA8
QAL
QBp
QAM
QBq
QBr
QBs
QBu
QBv
QBw
QAD
QBx
QBz
QBf
QBU
QBA
QBB
QBg
QBD
QBn
QAG
QAH
Qrf
QBN
QBO
QBP
QB0
QBS
QBT
QCl
QBV
QBW
QBC
QB1
QA5
QAT
QB2
QBk
QB4
QB5
QB6
QB8
QB9
QCa
QCb
QBR
QCc
QCd
QCe
QCf
QCg
QCh
QCi
QCj
QBK
QCk
QCm
QBh
QCn
QCo
QCq
QCr
QCs
QBI
QBc
QAY
QAE
QBd
QA9
QA0
QA4
QB3
QBM
QB7
QBb
QAN
QAS
QBt
QBQ
QAR
QBa
QAZ
QBy
QAK
QA3
QBX
QCp
QAA
QBi
QBY
QBZ
QBE
QBe
QAB
QAC
QBF
QBH
QBG
QBL
QCt
QCu
QCv
QCw
QCx
QCy
QCz
QCA
QCB
QCC
QCD
QCE
QCF
QCG
QCH
QCI
QCJ
QCK
QCL
QCM
QCN
QCP
QCQ
QCR
QCW
QCX
QCY
QCZ
QC0
QC2
QCO
QC9
QDc
QDg
QCS
QCT
QDj
QDk
QCU
QCV
QDl
QDx
QC1
QC3
QC4
QC5
QDy
QC6
QC7
QC8
QDa
QDb
QDd
QDe
QDf
QDh
QDi
QDm
QDn
QDo
QDp
QDq
QD1
QDr
QDs
QDt
QDu
QD2
QD3
QD4
QDv
QDw
QD5
QD6
QD7
QDz
QDA
QDB
QDC
QDD
QDE
QEb
QEc
QEd
QDF
QDG
QDH
QDI
QDJ
QDK
QEg
QDL
QDM
QDN
QEh
QEi
QDO
QDP
QDQ
QDR
QDS
QEk
QDT
QDU
QDV
QEl
QDW
QEo
QDX
QDY
QEt
QEu
QEv
QDZ
QD0
QD8
QD9
QEa
QEe
QEf
QEj
QEm
QEn
QEp
QEq
QEr
QEs
QEw
QEx
QEy
QEz
QEA
QEB
QEC
QED
QEE
QEF
QEG
QEH
QEI
QEJ
QEK
QEL
QEM
QEN
QEO
QEP
QEQ
QER
QES
QET
QEU
QEV
QEW
QEX
QEY
QEZ
QE0
QE1
QE2
QE3
QE4
QE5
QE6
QE7
QE8
QE9
QFa
QFb
QFc
QFd
QFe
QFf
QFg
QFh
QFi
QFj
QFk
QFl
QFm
QFn
QFo
QFp
QFq
QFr
QFs
QFt
QFu
QFv
QFw
QFx
QFy
QFz
QFA
QFB
QFC
QFD
QFE
QFF
QFG
QFH
QFI
QFJ
QFK
QFL
QFM
QFN
QFO
QFP
QFQ
QFR
QFS
QFT
QFU
QFV
QFW
QFX
QFY
QFZ
QF0
QF1
QF2
QF3
QF4
QF5
QF6
QF7
QF8
QF9
QGa
QGb
QGc
QGd
QGe
QGf
QGg
QGh
QGi
QGj
QGk
QGl
QGm
QGn
QGo
QGp
QGq
QGr
QGs
QGt
QGu
QGv
QGw
QGx
QGy
QGz
QGA
QGB
QGC
QGD
QGE
QGF
QGG
QGH
QGI
QGJ
QGK
QGL
QGM
QGN
QGO
QGP
QGQ
QGR
QGS
QGT
QGU
QGV
QGW
QGX
QGY
QGZ
QG0
QG1
QG2
QG3
QG4
QG5
QG6
QG7
QG8
QG9
QHa
QHb
QHc
QHd
QHe
QHf
QHg
QHh
QHi
QHj
QHk
QHl
QHm
QHn
QHo
QHp
QHq
QHr
QHs
QHt
QHu
QHv
QHw
QHx
QHy
QHz
QHA
QHB
QHC
QHD
QHE
QHF
QHG
QHH
QHI
QHJ
QHK
QHL
QHM
QHN
QHO
QHP
QHQ
QHR
QHS
QHT
QHU
QHV
QHW
QHX
QHY
QHZ
QH0
QH1
QH2
QH3
QH4
QH5
QH6
QH7
QH8
QH9
QIa
QIb
QIc
QId
QIe
QIf
QIg
QIh
QIi
QIj
QIk
QIl
QIm
QIn
QIo
QIp
QIq
QIr
QIs
QIt
QIu
QIv
QIw
QIx
QIy
QIz
QIA
QIB
QIC
QID
QIE
QIF
QIG
QIH
QII
QIJ
QIK
QIL
QIM
QIN".splitOn "\n").toArray
def qqI (c:Char):Nat:=if 'a'<=c then c.toNat-97 else if 'A'<=c then c.toNat-39 else c.toNat+4
local macro_rules | `($x:ident)=>let u:=Lean.Macro.throwUnsupported;match x.getId with
 | .str .anonymous s=>let f:=fun n=>match qqT[n]? with
   | some t=>if t.isEmpty then u else pure ((t.splitOn " ").foldl qqS []).head!
   | _=>u
  match s.toList with
  | ['Q',a]=>f (qqI a)
  | ['Q',a,c]=>f (62+62*qqI a+qqI c)
  | _=>u
 | _=>u
local macro_rules | `(#[$a,*])=>if a.getElems.isEmpty then Lean.Macro.throwUnsupported else `(⟨$a,*⟩)
noncomputable section
namespace L2
open PySem PySem.Spec PyProof.Rows
abbrev ed:=@List.length_map
abbrev eD:=@List.getD_eq_getElem?_getD
abbrev ew:=@Nat.le_of_ble_eq_true
abbrev eu:=@List.mem_cons_self
abbrev er:=@of_decide_eq_true
abbrev eE:=@List.mem_cons_of_mem
abbrev eg:=@List.mem_cons
abbrev cq:=@if_neg
abbrev ef:=@List.mem_map
abbrev eh:=@wpAny_bind
abbrev eB:=@List.mem_append
abbrev ft:=@List.getElem?_eq_getElem
abbrev ee:=@if_pos
abbrev eL:=@List.mem_singleton
abbrev e4:=@List.mem_append_right
abbrev ej:=@List.map_map
abbrev eJ:=@List.append_assoc
abbrev eC:=@decide_eq_true
abbrev e6:=@List.mem_append_left
abbrev ff:=@List.mem_of_getElem?
abbrev eR:=@of_decide_eq_false
abbrev fg:=@List.length_append
abbrev eP:=@decide_eq_false
abbrev eA:=@Nat.le_refl
abbrev f7:=@Heap.get?_push_of_some
abbrev eM:=@List.map_cons
abbrev fb:=@List.map_append
abbrev fR:=@List.getElem?_map
abbrev fw:=@List.not_mem_nil
abbrev gq:=@Bool.false_ne_true
abbrev gi:=@List.length_range
abbrev hH:=@List.getElem?_eq_some_iff
abbrev f6:=@List.append_nil
abbrev gm:=@Bool.and_eq_true
abbrev fA:=@PySem.W.mg_of
abbrev fv:=@Heap.lt_size
abbrev fo:=@wpAny_pure
abbrev gh:=@List.mem_range
abbrev hz:=@Int.emod_lt_of_pos
abbrev hJ:=@List.length_singleton
abbrev fT:=@Nat.zero_le
abbrev hq:=@List.length_cons
abbrev gv:=@Option.some.inj
abbrev hI:=@Int.toNat_natCast
abbrev gc:=@sizeLine_eq
abbrev gL:=@Int.emod_nonneg
abbrev gr:=@Nat.le_trans
abbrev hO:=@List.length_take
abbrev hM:=@List.all_eq_true
abbrev hX:=@Heap.get?_push_size
abbrev hE:=@List.cons.inj
abbrev hW:=@Nat.lt_of_lt_of_le
abbrev gz:=@Nat.le_of_lt
abbrev h5:=@List.getElem?_range
abbrev hZ:=@List.map_congr_left
abbrev hB:=@Nat.ne_of_lt
abbrev hV:=@List.nodup_append
abbrev hU:=@Nat.le_succ_of_le
abbrev hT:=@List.lookup_cons
abbrev hS:=@List.cons_append
abbrev hR:=@List.take_length
abbrev iw:=@List.perm_append_comm
abbrev h9:=@List.foldl_append
abbrev ik:=@List.flatMap_cons
abbrev hY:=@List.mem_filter
abbrev hF:=@wpAny_mono
abbrev ir:=@PySem.W.mg_none_of
abbrev km:=@List.getElem?_append_left
abbrev kj:=@List.mem_or_eq_of_mem_set
abbrev jK:=@Option.map_eq_some_iff
abbrev ij:=@List.length_set
abbrev iq:=@List.take_add_one
abbrev h7:=@Bool.and_false
abbrev iu:=@List.nodup_cons
abbrev i4:=@Str.append_assoc
abbrev hG:=@or_false
abbrev kc:=@List.Sublist.append
abbrev kT:=@List.Perm.append_left
abbrev kS:=@List.length_replicate
abbrev jJ:=@List.Sublist.refl
abbrev o4:=@List.eq_nil_of_length_eq_zero
abbrev kR:=@List.filterMap_cons
abbrev kP:=@beq_eq_false_iff_ne
abbrev kA:=@List.length_pos_iff
abbrev kb:=@List.ext_getElem?
abbrev ka:=@List.reverse_cons
abbrev kz:=@List.filter_append
abbrev lL:=@List.mem_of_mem_take
abbrev j2:=@List.cons_ne_nil
abbrev j1:=@List.getElem_mem
abbrev js:=@wpAny_holding
abbrev ky:=@wpAny_truthy_bool
abbrev kx:=@Bool.not_eq_true'
abbrev o1:=@List.sublist_append_right
abbrev jL:=@List.foldl_cons
abbrev oT:=@wpAny_comprehension_free
abbrev i0:=@Int.zero_add
abbrev jq:=@List.any_cons
abbrev ip:=@beq_iff_eq
abbrev pj:=@List.filter_cons_of_neg
abbrev ph:=@List.filter_cons_of_pos
abbrev r8:=@PyProof.Rows.callWith_type1
abbrev la:=@List.filter_map
abbrev nz:=@PySem.W.hideAll_get
abbrev nv:=@PySem.mem_of_lookup
abbrev pf:=@List.getElem?_set_self
abbrev pd:=@PySem.F.plainAttrs_str
abbrev o9:=@List.filter_eq_nil_iff
abbrev r4:=@List.getElem?_append_right
abbrev kf:=@Bool.true_and
abbrev l6:=@Nat.lt_succ_self
abbrev nu:=@PySem.W.of_hideAll
abbrev nt:=@wpAny_Call_Name_kw
abbrev nr:=@Nat.add_sub_cancel
abbrev l5:=@List.find?_cons
abbrev rF:=@List.find?_range_eq_some
abbrev ke:=@List.map_set
abbrev k4:=@List.all_cons
abbrev o8:=@List.perm_iff_count
abbrev l0:=@List.nodup_nil
abbrev rx:=@List.take_of_length_le
abbrev rv:=@List.drop_of_length_le
abbrev o7:=@List.mem_filterMap
abbrev nc:=@wpAny_passesOwn
abbrev m4:=@Bool.eq_iff_iff
abbrev nH:=@PySem.W.kia_one
abbrev nC:=@Bool.or_eq_true
abbrev wo:=@Array.getElem?_eq_some_iff
abbrev sv:=@List.size_toArray
abbrev pw:=@decide_eq_true_eq
abbrev pv:=@List.all_eq_false
abbrev pl:=@List.flatten_cons
abbrev so:=@List.getElem?_set_ne
abbrev sk:=@codeAny_call_builtin
abbrev si:=@Nat.mul_le_mul_right
abbrev kv:=@Nat.le_succ
abbrev oD:=@wpAny_field
abbrev mT:=@Bool.false_and
abbrev mN:=@codeAny_mono
abbrev vi:=@List.getElem?_take_of_lt
abbrev FK:=@PySem.F.args_tuple_add_2
abbrev oC:=@decide_eq_decide
abbrev lr:=@F.called_set
abbrev oy:=@List.mem_flatMap
abbrev vc:=@Array.length_toList
abbrev q8:=@List.getElem_of_mem
abbrev q7:=@List.map_eq_nil_iff
abbrev q5:=@List.flatMap_append
abbrev Nr:=@PyProof.Rows.slot_tuple_getitem
abbrev FF:=@PySem.F.entry_tuple_add
abbrev vb:=@wpAny_getItem_str_slice
abbrev va:=@PySem.StrLaws.found_one
abbrev u7:=@Int.eq_ofNat_of_zero_le
abbrev mM:=@wpAny_standAt
abbrev kq:=@wpAny_call
abbrev ru:=@Nat.lt_of_le_of_lt
abbrev oP:=@List.range_succ
abbrev rr:=@Bool.not_eq_false'
abbrev FR:=@PySem.F.slot_tuple_add
abbrev vJ:=@List.Perm.append_right
abbrev vy:=@List.append_eq_nil_iff
abbrev rp:=@List.count_append
abbrev ro:=@wpAny_loadPart_at
abbrev rk:=@List.pairwise_map
abbrev vx:=@Heap.get?_update_self
abbrev x4:=@List.idxOf_lt_length_of_mem
abbrev vw:=@PySem.W.hideAll_none
abbrev vu:=@Heap.get?_none_of_le
abbrev lx:=@typeIs_str
abbrev vr:=@F.excAttr_ValueError
abbrev ri:=@Nat.succ_le_succ
abbrev rh:=@Nat.succ_ne_zero
abbrev rf:=@List.any_eq_true
abbrev rb:=@List.drop_length
abbrev oI:=@Nat.lt_irrefl
abbrev x3:=@PySem.F.excBase_ValueError
abbrev i8:=@Ne.symm
abbrev vl:=@List.reverse_append
abbrev vk:=@List.length_reverse
abbrev x2:=@PySem.F.slot_dict_getitem
abbrev x7:=@List.drop_eq_getElem_cons
abbrev x5:=@List.mem_take_iff_getElem
abbrev we:=@PySem.W.callWith_K
abbrev wb:=@tupleKind_room_in1
abbrev v3:=@F.args_str_split_2
abbrev vT:=@Code.quiet_builtin
abbrev vK:=@Int.natAbs_natCast
abbrev m3:=@call_meets
abbrev xS:=@Nat.add_sub_cancel_left
abbrev xI:=@F.plain_set_update_loop
abbrev xy:=@decide_eq_false_iff_not
abbrev u6:=@List.any_eq_false
abbrev u5:=@F.entry_str_split
abbrev u4:=@StrLaws.subAt_one
abbrev u3:=@List.filter_congr
abbrev Key:=Sum Int Str
noncomputable def AI:Key->Value->Bool
 | .inl k,v=>Value.isInt k v
 | .inr x,v=>Value.isStrOf x v
noncomputable def OF(w:World):Key->Int
 | .inl k=>hashInt k
 | .inr x=>hashStr w x
theorem eG:∀{k:Key} {v:Value},AI k v=true->(∃i t,k=Sum.inl i/\v=Value.int i t)\/(∃x t,k=Sum.inr x/\v=Value.str x t)
 | .inl i,v,h=>by
  obtain⟨t,e⟩:=Value.isInt_shape h;exact .inl #[i,t,rfl,e]
 | .inr x,v,h=>by
  obtain⟨t,e⟩:=Value.isStrOf_shape h;exact .inr #[x,t,rfl,e]
def MF(i:Int)(t:Tok):AI (.inl i) QlV=true:=by simp[AI,Value.isInt]
def MG(x:Str)(t:Tok):AI QeZ QoF=true:=by simp[AI,Value.isStrOf]
theorem aby(a b:Int):decide ((Sum.inl a:Key)=Sum.inl b)=(a==b):=by
 by_cases e:a=b
 .subst e;simp
 simp_all
def abz(a b:Str):decide ((Sum.inr a:Key)=Sum.inr b)=decide (a=b):=by simp
def abA(a:Int)(b:Str):decide ((Sum.inl a:Key)=Sum.inr b)=false:=eP (λq=>nomatch q)
def abB(a:Str)(b:Int):decide ((Sum.inr a:Key)=Sum.inl b)=false:=eP (λq=>nomatch q)
def fF(prog:Q2)(w:World):PySem.KeyKind prog w Key where
 is:=AI
 hash:=OF w
 inj:=λv a b d hb=>by
  obtain⟨i,t,rfl,rfl⟩|⟨x,t,rfl,rfl⟩:=eG d
  .obtain⟨j,u,rfl,e⟩|⟨y,u,rfl,e⟩:=eG hb
   .injection e with e1 _;rw[e1]
   .exact nomatch e
  .obtain⟨j,u,rfl,e⟩|⟨y,u,rfl,e⟩:=eG hb
   .exact nomatch e
   .injection e with e1 _;rw[e1]
 byValue:=λk v h=>by
  obtain⟨i,t,rfl,rfl⟩|⟨x,t,rfl,rfl⟩:=eG h<;>rfl
 pyHash:=λhv h=>by
  obtain⟨i,t,rfl,rfl⟩|⟨x,t,rfl,rfl⟩:=eG hv
  .exact wpAny_pyHash_int h
  .exact wpAny_pyHash_str h
 eqBool:=λc hv h=>by
  obtain⟨i,t,rfl,rfl⟩|⟨x,t,rfl,rfl⟩:=eG c
  .obtain⟨j,u,rfl,rfl⟩|⟨y,u,rfl,rfl⟩:=eG hv
   .rw[aby]at h;exact wpAny_eqBool_int h
   .rw[abA]at h;exact SeqAt.EqAt.int_str i t y u _ _ _ _ h
  .obtain⟨j,u,rfl,rfl⟩|⟨y,u,rfl,rfl⟩:=eG hv
   .rw[abB]at h;exact SeqAt.EqAt.str_int x t j u _ _ _ _ h
   .rw[abz]at h;exact wpAny_eqBool_str h
 «strs»:=λk x t v h=>by
  obtain⟨i,u,rfl,e⟩|⟨y,u,rfl,e⟩:=eG h
  .exact nomatch e
  .injection e with e1 _;subst e1;cases v<;>rfl
def D7(prog:Q2)(w:World)(i:Int)(t:Tok):(fF prog w).is (.inl i) QlV=true:=MF i t
def D8(prog:Q2)(w:World)(x:Str)(t:Tok):(fF prog w).is QeZ QoF=true:=MG x t
inductive V where
 | non|bl (b:Bool)|int (i:Int)|str (x:Str)|Hl (b:Array UInt8)|flt (b:UInt64)|ref (a:Addr)|ty (n:QaS)
 deriving DecidableEq
def RelV:V->Value->Prop
 | .non,u=>u=Value.none
 | .bl b,u=>u=Value.bool b
 | .int i,u=>∃t,u=Value.int i t
 | .str x, u => ∃ t, u = Value.str x t
 | .Hl b,u=>∃t,u=Value.bytes b t
 | .flt b,u=>∃t,u=Value.float b t
 | .ref a,u=>u=Value.ref a
 | .ty n,u=>u=Value.type n
abbrev _root_.BY:=List V
abbrev _root_.B0:=List Value
abbrev Vals:BY->B0->Prop:=Paired RelV
variable{xs:BY}{us:B0}
theorem Vals.length(r:Qo2):xs.length=us.length:=Paired.length r
theorem Vals.get:∀{xs:BY} {us:B0} {i:Nat} {x:V},Vals xs us->xs[i]? = some x->∃u,us[i]? = some u/\RelV x u
 | _,_,_,_,.nil,e=>by simp at e
 | _,_,0,_,.cons r _,e=>by simp_all
 | _,_,i+1,x,.cons _ t,e=>by
  obtain⟨u,h1,a⟩:=Vals.get t (‹_›);exact#[u,‹_›,a]
theorem Vals.set{x:V}{u:Value}(r:RelV x u):∀{xs:BY} {us:B0} (i:Nat),Vals xs us->Vals (xs.set i x) (us.set i u)
 | _,_,_,.nil=>.nil
 | _,_,0,.cons _ t=>.cons r t
 | _,_,i+1,.cons q t=>.cons q (Vals.set r i t)
theorem Vals.append:∀{xs ys:BY} {us ws:B0},Vals xs us->Vals ys ws->Vals (xs++ys) QjG
 | _,_,_,_,.nil,s=>s
 | _,_,_,_,.cons r t,s=>.cons r (Vals.append t s)
theorem Vals.take:∀{xs:BY} {us:B0} (n:Nat),Vals xs us->Vals (xs.take n) (us.take n)
 | _,_,0,_=>.nil
 | _,_,_+1,.nil=>.nil
 | _,_,n+1,.cons r t=>.cons r (Vals.take n t)
theorem Vals.drop:∀{xs:BY} {us:B0} (n:Nat),Vals xs us->Vals (xs.drop n) (us.drop n)
 | _,_,0,r=>r
 | _,_,_+1,.nil=>.nil
 | _,_,n+1,.cons _ t=>Vals.drop n t
abbrev _root_.Do:=Option Value
def tS:Option V->Do->Prop
 | some v,some u=>RelV v u
 | none,none=>True
 | _,_=>False
def KV{κ:Type}:List (κ×V)->List (κ×Value)->Prop:=Paired λ(p:κ×V) (q:κ×Value)=>p.1=q.1/\RelV p.2 q.2
noncomputable def kV:Key->V
 | .inl i=>.int i
 | .inr x=>.str x
abbrev _root_.EO:=List Key
abbrev _root_.Bn:=List (EO×V)
abbrev _root_.CA:=List (Str×V)
abbrev _root_.Cn:=List (Key×V)
abbrev _root_.D1:=Array Value
inductive HO where
 | lst (xs:BY)
 | tup (xs:BY)
 | dK (aU:Cn)|dT (aU:Bn) (ep:Nat)
 | set (S:Int->Bool) (n:Nat)
 | ins (C dx:Addr) (fs:CA)
 | own (x:Addr)
 | xd (fs:CA)
 | met (f x:Addr)
 | mi (lo hi:Int)
 | ez (o:Obj) (u:HO)
 | WD (ps:D1)
 | tabs (q:Str)
 | cod (q:Str)
 | ext (φ:Heap->Prop)
abbrev Hp:=Addr->Option HO
noncomputable def upd(H:Hp)(a:Addr)(o:HO):Hp:=λb=>if b=a then some o else H b
variable{H:Hp}{a:Addr}{o:HO}
theorem aR:upd H a o a=some o:=by unfold upd;simp_all
variable{b:Addr}
def aB(h:b≠a):upd H a o b=H b:=by unfold upd;rw[cq h]
def US{u:HO}(h:H a=some o)(h':H b=some u)(d:o≠u):a≠b:=by
 intro e;subst e;rw[h]at h';exact d (gv h')
theorem bD(h:H a=some o)(h':H b=none):a≠b:=by
 intro e;simp_all
section
variable(P:Q2)(w:World)
def fJ(H:Hp)(h:Heap)(a:Addr):HO->Prop
 | .lst xs=>xs.length<=sizeLine/\∃(its:B0) (n:Nat),Vals xs its/\h.get? a=some {cls:=.type "list",data:=.seq its.toArray n}
 | .tup xs=>xs.length<=sizeLine/\∃its:B0,Vals xs its/\IsTup h a its.toArray
 | .dK aU=>aU.length<=sizeLine/\QbX=false/\∃vs,KV aU vs/\h.DictOf QcW a vs
 | .dT aU en=>aU.length<=sizeLine/\QbX=false/\∃xs:List Qfz,
   Paired (λ(p:EO×V) (q:Qfz)=>p.1=q.1/\H q.2.1=some Qvu/\RelV p.2 q.2.2) aU xs ∧
   ∃o es ep,h.get? a=some o/\o.ExactDict/\o.data=.dict es ep/\es.toList=xs.map (entryOfKey Qmm)/\(xs.map (·.1)).Nodup/\ep=en
 | .set S n=>h.SetOf (intKind P w) a S n
 | .ins C dx fs=>H dx=some Qgk/\fs.length<=1000/\dx≠a/\h.get? a=some Qnr ∧
   ∃mA,h.Ns1 dx mA/\(∀f,tS QnD (mA f))/\PySem.Within mA (fs.map (·.1))
 | .own _=>∃o,h.get? a=some o
 | .xd fs=>∃mA,h.Ns1 a mA/\∀f,tS QnD (mA f)
 | .mi lo hi=>∃t u v,h.get? a=some {cls:=.type "range",data:=.fields (List.toArray [.int lo t,.int hi u,.int 1 v])}
 | .ez o u=>h.get? a=some o/\fJ H h a u
 | .WD ps=>h.get? a=some {cls:=.none,data:=.fields ps}
 | .tabs q=>∃ps:D1,h.get? a=some {cls:=.none,data:=.fields ps}/\TriplesOk ps.toList/\∀pos d,codeAmong pos ps.toList=some d->∃c,d=.ref c/\H c=some QjB
 | .cod q=>∃o vs t,h.get? a=some o/\o.data=.fields vs/\vs[1]? = some (.str q t)
 | .met f x=>h.get? a=some (PySem.W.methodObj Qaq Qa9)
 | .ext φ=>φ h/\(∃o,h.get? a=some o)/\∀h1 b:Heap,φ h1->(∀o,h1.get? a=some o->b.get? a=some o)->φ b
def nU(H:Hp)(h:Heap):Prop:=∀a o,H a=some o->fJ P w H h a o
end
variable{P:Q2}{w:World}{H':Hp}{h h':Heap}
theorem fJ.lt(x:QnN):a<h.objs.size:=by
 cases o with
 | lst xs=>obtain⟨_,_,_,_,e⟩:=x;exact fv e
 | tup xs=>obtain⟨_,_,_,p⟩:=x;exact p.lt
 | dK aU=>obtain⟨_,_,_,_,o,_,_,e,_⟩:=x;exact fv e
 | dT aU ep=>obtain⟨_,_,_,_,o,_,_,e,_⟩:=x;exact fv e
 | set S n=>obtain⟨o,_,_,_,e,_⟩:=x;exact fv e
 | ins C dx fs=>obtain⟨_,_,_,e,_⟩:=x;exact fv e
 | own y=>obtain⟨_,e⟩:=x;exact fv e
 | xd fs=>obtain⟨_,⟨_,_,_,e,_⟩,_⟩:=x;exact fv e
 | mi lo hi=>obtain⟨_,_,_,e⟩:=x;exact fv e
 | ez b u=>obtain⟨e,_⟩:=x;exact fv e
 | WD ps=>exact fv (x)
 | tabs q=>obtain⟨_,e,_⟩:=x;exact fv e
 | cod q=>obtain⟨_,_,_,e,_⟩:=x;exact fv e
 | met f y=>exact fv (x)
 | ext φ=>obtain⟨_,⟨_,e⟩,_⟩:=x;exact fv e
theorem Paired.zp{α β:Type}{F G:α->β->Prop}:∀{d:QR} {c:List β},Paired F d c->(∀a b,F a b->G a b)->Paired G d c
 | _,_,.nil,_=>.nil
 | _,_,.cons r t,f=>.cons (f _ _ r) (Paired.zp t f)
theorem fJ.qV(x:QnN)(k:∀b u,(b=a\/H b=some Qgk)->h.get? b=some u->h'.get? b=some u)
  (l:∀b,H b=some Qgk->H' b=some Qgk) (j:∀b xs,H b=some Qa2->H' b=some Qa2) (iM:∀b q,H b=some QjB->H' b=some QjB:=by intro _ _ q;exact q):fJ P w H' h' a o:=by
 induction o with
 | lst xs=>obtain⟨z,its,n,r,e⟩:=x;exact#[z,its,n,r,k _ _ Qay e]
 | tup xs=>obtain⟨z,its,r,g,e,c⟩:=x;exact#[z,its,r,g,k _ _ Qay e,c]
 | dK aU=>obtain⟨z,y,vs,r,g,es,ep,e,c⟩:=x;exact#[z,y,vs,r,g,es,ep,k _ _ Qay e,c]
 | dT aU ep=>
  obtain⟨z,y,xs,r,g,es,ep,e,c⟩:=x;exact#[z,y,xs,Paired.zp r λp q z=>#[z.1,j _ _ z.2.1,z.2.2],g,es,ep,k _ _ Qay e,c]
 | set S n=>obtain⟨g,es,ep,t,e,c⟩:=x;exact#[g,es,ep,t,k _ _ Qay e,c]
 | ins C dx fs=>
  obtain⟨d,z,ne,e,mA,⟨od,es,ep,e2,c⟩,r⟩:=x;exact#[l _ d,z,ne,k _ _ Qay e,mA,#[od,es,ep,k _ _ (.inr d) e2,c],r]
 | own y=>obtain⟨g,e⟩:=x;exact#[g,k _ _ Qay e]
 | xd fs=>obtain⟨mA,⟨od,es,ep,e,c⟩,r⟩:=x;exact#[mA,#[od,es,ep,k _ _ Qay e,c],r]
 | mi lo hi=>obtain⟨t,u,v,e⟩:=x;exact#[t,u,v,k _ _ Qay e]
 | ez g u i=>obtain⟨e,q⟩:=x;exact#[k _ _ Qay e,i q]
 | WD ps=>
  have e:=x;exact k a _ Qay e
 | met f y=>
  have e:=x;exact k a _ Qay e
 | tabs q=>obtain⟨ps,e,tr,cs⟩:=x;exact#[ps,k _ _ Qay e,tr,λpos m z=>let ⟨c,e1,e2⟩:=cs pos m z;#[c,e1,iM _ _ e2]]
 | cod q=>obtain⟨g,vs,t,e,r⟩:=x;exact#[g,vs,t,k _ _ Qay e,r]
 | ext φ=>obtain⟨p,⟨o,e⟩,st⟩:=x;exact#[st _ _ p λo q=>k _ _ Qay q,#[o,k _ _ Qay e],st]
theorem nU.lt(x:Qbk)(e:H a=some o):a<h.objs.size:=(x a o e).lt
theorem nU.fresh(x:Qbk)(e:QnT):H a=none:=by
 cases q:H a with
 | none=>rfl
 | some u=>exact absurd (hW (x.lt q) e) (oI _)
theorem nU.kept(x:Qbk)(k:∀b u,h.get? b=some u->h'.get? b=some u):nU P w H h':=λa o e=>
 (x a o e).qV (λb u _ q=>k b u q) QbI λ_ _ q=>q
theorem nU.laid(x:Qbk)(k:∀b u,h.get? b=some u->h'.get? b=some u)(d:QnT)(new:fJ P w Qa8 h' a o):nU P w Qa8 h':=λb u e=>by
 have hn:=x.fresh d;by_cases hb:b=a
 .subst hb;rw[aR]at e;grind
 .rw[aB hb]at e;exact(x b u e).qV (λc v _ q=>k c v q) (λc q=>aB Qcs▸q) (λc xs q=>aB Qcs▸q) λc z q=>aB Qcs▸q
def Rd(H:Hp)(a:Addr)(u:HO):Prop:=H a=some u\/∃o,H a=some QdL
theorem Rd.ok{u:HO}(r:Rd H a u)(x:Qbk):fJ P w H h a u:=by
 obtain r|⟨o,r⟩:=r
 .exact x a u r
 .obtain⟨_,q⟩:=x a _ r;exact q
def tf:Option HO->Prop
 | some (.lst _)=>True
 | some (.dK _)=>True
 | some (.dT _ _)=>True
 | some (.set _ _)=>True
 | some (.ins _ _ _)=>True
 | some (.ext _)=>True
 | some (.tabs _)=>True
 | _=>False
variable{x e:Addr}{o':HO}
theorem nU.write(ok:Qbk)(d:tf (H x))(he:Qpn)(k:∀b u,b≠e->h.get? b=some u->h'.get? b=some u)(f:∃u,h'.get? e=some u)
  (new:fJ P w (upd H x o') h' x o'):nU P w (upd H x o') h':=λb u q=>by
 have j:∀c y,H c=some (.own y)->c≠x:=λc y r z=>by subst z;rw[r]at d;exact d
 have i:∀c xs,H c=some Qa2->c≠x:=λc xs r z=>by subst z;rw[r]at d;exact d
 have g:∀c q,H c=some QjB->c≠x:=λc q r z=>by subst z;rw[r]at d;exact d
 by_cases hb:b=x
 .subst hb;rw[aR]at q;grind
 .rw[aB hb]at q;by_cases a:b=e
  .have q':H b=some Qf9:=by
    obtain z|z:=he
    .exact absurd (a.trans z) hb
    .rw[a];exact z
   rw[q]at q';cases q';obtain⟨v,hv⟩:=f;exact#[v,a▸hv ]
  .refine(ok b u q).qV (λc v l r=>k c v ?_ r) (λc r=>aB (j c b r)▸r) (λc xs r=>aB (i c xs r)▸r) λc z r=>aB (g c z r)▸r;grind
abbrev _root_.BN:=List Addr
structure Un(fs ex:BN)(H H':Hp)(h h':Heap):Prop where
 keep:∀b o,h.get? b=some o->H b=none->b∉fs->b∉ex->h'.get? b=some o
 slot:∀b o,h.get? b=some o->H b=none->b∈fs->b∉ex->∃sl,h'.get? b=some {o with slots:=sl}
 free:∀b o,h.get? b=some o->H b=none->b∉ex->H' b=none
 there:∀b o,h.get? b=some o->b∉ex->∃o',h'.get? b=some o'
 nV:∀b xs,H b=some Qa2->H' b=some Qa2
 fK:∀b o u,H b=some QdL->H' b=some QdL
 nW:∀b ps,H b=some (.WD ps)->∃more,H' b=some QmW
section
variable{fs ex:BN}{H1:Hp}{h1:Heap}
theorem Un.any(u:Un fs ex H H1 h h1){a:Obj}(q:h.get? b=some a)(n:H b=none)(c:b∉ex):∃sl,h1.get? b=some {a with slots:=sl}:=by
 by_cases hb:b∈fs
 .exact u.slot b a q n hb c
 .exact#[ _,u.keep b a q n hb c]
theorem Un.kept(k:∀b u,h.get? b=some u->h'.get? b=some u):Un fs ex H H h h':=
 #[λb a q _ _ _=>k b a q,λb a q _ _ _=>#[ _,k b a q],λ_ _ _ n _=>n,λb a q _=>#[a,k b a q],λ_ _ q=>q,λ_ _ _ q=>q,λ_ ps q=>#[#[],‹_› ]]
theorem Un.refl:Un fs ex H H h h:=Un.kept λ_ _ q=>q
theorem Un.laid(k:∀b u,h.get? b=some u->h'.get? b=some u)(c:QnT)(hn:H a=none):Un fs ex H Qa8 h h' where
 keep:=λb u q _ _ _=>k b u q
 slot:=λb u q _ _ _=>#[ _,k b u q]
 free:=λb u q n _=>aB (hB (hW (fv q) c))▸n
 there:=λb u q _=>#[u,k b u q]
 nV:=λb xs q=>aB Qcs▸q
 fK:=λb u xs q=>aB Qcs▸q
 nW:=λb ps q=>#[#[],by rw[aB Qcs,q];simp]
theorem Un.write(d:tf (H x))(he:Qpn)(k:∀b u,b≠e->h.get? b=some u->h'.get? b=some u)(c:∃u,h'.get? e=some u):Un fs ex H Qoo h h':=by
 have f:∀b,H b=none->b≠x:=λb n z=>by subst z;rw[n]at d;exact d
 have hb:∀b,H b=none->b≠e:=λb n z=>by simp_all
 have hm:∀b u,H b=some u->¬ tf (some u)->b≠x:=λb u q nm z=>by simp_all
 refine#[λb u q n _ _=>k b u (hb b n) q,λb u q n _ _=>#[ _,k b u (hb b n) q],λb u q n _=>aB (f b n)▸n,λb u q _=>?_,
  λb xs q=>aB QlN▸q,λb u xs q=>aB QlN▸q,λb ps q=>#[#[],by rw[aB QlN,q];simp]]
 by_cases a:b=e
 .subst a;exact c
 .exact#[u,k b u a q]
end
noncomputable def Dv(h:Heap)(H:Hp):BN:=(List.range h.objs.size).filter λa=>(H a).isSome
def BI(h:Heap)(H:Hp):Heap:=hideAll h (Dv h H)
def MH(h:Heap)(H:Hp):(BI h H).objs.size=h.objs.size:=hideAll_size _ _
theorem QW{o:Obj}(e:h.get? b=some o)(n:H b=none):(BI h H).get? b=some o:=
 nz _ e λhm=>by
  have q:=(hY.1 hm).2;simp_all
theorem W0{o:Obj}(e:(BI h H).get? b=some o):h.get? b=some o/\H b=none:=by
 have a:=nu _ e;refine#[a,?_];cases q:H b with
 | none=>rfl
 | some x=>
  have hm:b∈Dv h H:=hY.2 #[gh.2 (fv a),by simp[q]];have z:(BI h H).get? b=none:=vw _ hm;simp_all
abbrev _root_.At:=List (Addr×Obj)
noncomputable def W2(g h:Heap)(L:Addr):At:=(List.range h.objs.size).filterMap λa=>if a=L\/(g.get? a).isSome=true then none else(h.get? a).map λo=>(a,o)
def rest(g h:Heap)(L d:Addr):At:=(W2 g h L).filter λp=>decide (p.1≠d)
abbrev _root_.BS:=Str->Do
structure Mod(K:Frag)(mg:BS)(base:Heap):Prop where
 WG:K.In base
 glob:base.Ns mainGlobals mg
 blt:∃mb,base.Ns builtinsNs mb/\∀x:Str,x≠"__name__"->mb x=bootBuiltins x
 nolimit:base.NoLimit
abbrev _root_.AT:=List Str
abbrev _root_.BB:=Value->Shared->Prop
abbrev _root_.Co:=List Env
structure Cx where
 prog:Program
 w:World
 K:Frag
 mg:Str->Do
 base:Heap
 A:Around
 N:AT
 eI:Shared
 iB:Hp
 env:Env
 outer:Co
 stack:Co
 ex:BN
 fn:Str->Bool
 calm:Bool
 pn:At
 xe:Value->Shared->Prop
noncomputable def nF(l:Co):BN:=l.filterMap (·.frame)
abbrev Cx.fs(X:Cx):BN:=nF X.outer
def QX(sc:Scope)(x:Str):Prop:=sc.names.lookup x=some .local\/sc.names.lookup x=some .cell\/sc.names.lookup x=some .free
def Loc(sc:Scope)(x:Str):Prop:=sc.names.lookup x=some .local\/sc.names.lookup x=some .cell
def Look(env:Env)(h:Heap)(m:BS)(x:Str)(u:Value):Prop:=
 (env.kindOf x=some .local/\m x=some u)\/((env.kindOf x=some .cell\/env.kindOf x=some .free)/\∃c,env.cells.lookup x=some c/\h.IsCell c (some u))
structure Cx.Ok(X:Cx):Prop where
 mod:Mod X.K X.mg X.base
 kind:X.env.scope.kind=.function
 glob:X.env.globals=mainGlobals
 blt:X.env.builtins=builtinsNs
 above:X.eI.heap.objs.size<=X.env.locals
 inj:∀x y c,X.env.cells.lookup x=some c->X.env.cells.lookup y=some c->x=y
 has:∀x,(X.env.kindOf x=some .cell\/X.env.kindOf x=some .free)->∃c,X.env.cells.lookup x=some c
 mI:∀x c,X.fn x=true->X.env.cells.lookup x=some c->X.eI.heap.objs.size<=c
 hd:X.calm=true->X.A.handled=none
 frames:X.A.frames=some X.stack
 oe:X.stack=X.outer\/(X.stack=X.env::X.outer/\X.env.frame=some X.env.locals)
 uu:∀b∈X.ex,b≠X.env.locals/\∀x c,X.env.cells.lookup x=some c->c≠b
 bs:∀b o,X.base.get? b=some o->X.eI.heap.get? b=some o/\X.iB b=none
 QY:X.base.objs.size<=X.eI.heap.objs.size
 Ho:∀b o,X.base.get? b=some o->b∉X.ex
 MJ:∀b∈X.ex,b∉X.fs
 rR:X.eI.heap.FunFrames X.base X.outer
 WH:∀b∈X.fs,X.iB b=none
structure Inv(X:Cx)(pins:At)(U:QgA)(H:Hp)(s:Qb):Prop where
 ok:X.Ok
 os:s.os=X.eI.os
 bare:AllBare s.gens
 base:Un X.fs X.ex X.iB H X.eI.heap s.heap
 loc:∃m,s.heap.Ns X.env.locals m/\∀(i:Nat) (x:Str) (v:V),X.N[i]? = some x->U[i]? = some Qa1->QX X.env.scope x->∃u,RelV v u/\Look X.env s.heap m x u
 cell:∀x c,X.env.cells.lookup x=some c->∃v,s.heap.IsCell c v
 free:H X.env.locals=none
 jA:∀x c,X.env.cells.lookup x=some c->H c=none
 pin:∀p∈X.pn++pins,s.heap.get? p.1=some p.2/\H p.1=none/\p.1≠X.env.locals/\p.1∉X.fs/\∀v,p.2.data ≠ .cell v
 bW:nU X.prog X.w H s.heap
 len:U.length=X.N.length
variable{X:Cx}{pins:At}{U:QgA}{s:Qb}
theorem Cx.Ok.Po(ok:X.Ok){o:Obj}(e:X.base.get? b=some o):b∉X.fs:=λhb=>by
 have:=(ok.rR.mem hb).1;grind
theorem Inv.bs(I:QK):∀b o,X.base.get? b=some o->s.heap.get? b=some o/\H b=none:=λb o e=>
 #[I.base.keep b o (I.ok.bs b o e).1 (I.ok.bs b o e).2 (I.ok.Po e) Qw9,I.base.free b o (I.ok.bs b o e).1 (I.ok.bs b o e).2 Qw9]
theorem Inv.bk(I:QK):∀b o,X.base.get? b=some o->s.heap.get? b=some o:=λb o e=>(I.bs b o e).1
theorem Inv.mod(I:QK):Mod X.K X.mg X.base:=I.ok.mod
theorem Inv.lJ(I:QK):X.K.In s.heap:=I.ok.mod.WG.keeps I.bk
theorem Inv.lt(I:QK):X.env.locals<s.heap.objs.size:=let ⟨_,hn,_⟩:=I.loc;hn.lt
theorem Inv.sz(I:QK):X.eI.heap.objs.size<=s.heap.objs.size:=gr I.ok.above (gz I.lt)
theorem Inv.Pm(I:QK)(h:Qwr):a∉X.fs:=λhb=>by
 obtain⟨_,o,b,_⟩:=I.ok.rR.mem hb;exact absurd (hW (fv b) (gr I.sz h)) (oI _)
theorem Inv.lj(I:QK):∀x c,X.env.cells.lookup x=some c->c≠X.env.locals:=λx c e z=>by
 obtain⟨v,o,b,hd⟩:=I.cell x c e;obtain⟨m,⟨o',es,ep,d,a,_⟩,_⟩:=I.loc;grind
theorem Inv.rR(I:QK):s.heap.FunFrames X.base X.outer:=by
 have all:∀(l:Co),(∀b∈nF l,b∈X.fs)->X.eI.heap.FunFrames X.base l->s.heap.FunFrames X.base l:=by
  intro l
  induction l with
  | nil=>intro _ _;trivial
  | cons env r d=>
   intro c h;obtain⟨i,⟨L,o,hf,hn,g,hd⟩,f⟩:=h;have a:=c L (by unfold nF;rw[kR,hf];exact eu);obtain⟨sl,e⟩:=I.base.slot L o g (I.ok.WH L a) a λz=>I.ok.MJ L z a;exact#[i,#[L,_,hf,hn,e,hd],d (λb hb=>c b (by unfold nF;rw[kR,hf];exact eE _ hb)) f]
 exact all _ (λ_ hb=>hb) I.ok.rR
theorem Inv.stack(I:QK):s.heap.FunFrames X.base X.stack:=by
 obtain e|⟨e,hf⟩:=I.ok.oe
 .rw[e];exact I.rR
 .rw[e];obtain⟨m,hn,_⟩:=I.loc;refine .cons (by rw[I.ok.kind];decide) hf hn ?_ I.rR;exact vu (gr I.ok.QY I.ok.above)
theorem Inv.xK(I:QK):∀b∈nF X.stack,b∈X.env.locals::X.fs:=λb hb=>by
 obtain e|⟨e,hf⟩:=I.ok.oe
 .rw[e]at hb;exact eE _ hb
 .rw[e]at hb;unfold nF at hb;rw[kR,hf]at hb;exact hb
theorem Inv.rS(I:QK):∀b∈nF X.stack,H b=none:=λb hb=>by
 obtain e|hb:=eg.1 (I.xK b hb)
 .rw[e];exact I.free
 .obtain⟨_,o,a,_⟩:=I.ok.rR.mem hb;exact I.base.free b o a (I.ok.WH b hb) λz=>I.ok.MJ b z hb
variable{t':Nat}
theorem Inv.step{g':QnE}{E:Drawn}{ch:BN}(I:QK)
  (t:∀b∈ch,Qhs/\b≠X.env.locals/\(∀x c,X.env.cells.lookup x=some c->c≠b)/\∀p∈X.pn++pins,p.1≠b)
  (keep:∀b o,b≠X.env.locals->b∉X.fs->b∉ch->s.heap.get? b=some o->H b=none->h'.get? b=some o)
  (slot:∀b o,b≠X.env.locals->b∈X.fs->b∉ch->s.heap.get? b=some o->H b=none->∃sl,h'.get? b=some {o with slots:=sl}) (free:∀b o,b∉ch->s.heap.get? b=some o->H b=none->H' b=none)
  (there:∀b o,b∉ch->s.heap.get? b=some o->∃o',h'.get? b=some o')
  (nV:∀b xs,H b=some Qa2->H' b=some Qa2) (fK:∀b o u,H b=some QdL->H' b=some QdL) (nW:∀b ps,H b=some (.WD ps)->∃more,H' b=some QmW)
  (ns:∀m,s.heap.Ns X.env.locals m->h'.Ns X.env.locals m) (bW:Qms) (D:AllBare g') :
  Inv X pins U H' {s with heap:=h',gens:=g',drawn:=E,toks:=t'}:=by
 have j:∀b o,X.eI.heap.get? b=some o->b≠X.env.locals:=λb o e=>hB Qp6;have g:∀b o,X.eI.heap.get? b=some o->b∉X.ex->b∉ch:=λb o e a hb=>by
  rcases(t b hb).1 with z|z
  .exact a z
  .exact absurd (hW (fv e) z) (oI _)
 have cellK:∀x c,X.env.cells.lookup x=some c->∀v,s.heap.IsCell c v->h'.IsCell c v:=λx c e v ⟨o,h,hd⟩=>by
  have f:c∉ch:=λz=>(t c z).2.2.1 x c e rfl;by_cases B:c∈X.fs
  .obtain⟨sl,q⟩:=slot c o (I.lj x c e) B f h Qn0;exact#[_,q,hd]
  .exact#[o,keep c o (I.lj x c e) B f h Qn0,hd]
 refine#[I.ok,I.os,D,#[λb o e n hb a=>?_,λb o e n hb a=>?_,λb o e n a=>?_,λb o e a=>?_,λb xs e=>nV b xs (I.base.nV b xs e),λb o xs e=>fK b o xs (I.base.fK b o xs e),λb ps e=>?_],?_,λx c e=>?_,?_,λx c e=>?_,λp A=>?_,bW,I.len]
 .exact keep b o (j b o e) hb Qjn (I.base.keep b o e n hb a) Qly
 .obtain⟨sl,e1⟩:=I.base.slot b o e n hb a;obtain⟨y,e2⟩:=slot b _ (j b o e) hb Qjn e1 Qly;exact#[y,e2]
 .obtain⟨o',e1⟩:=I.base.there b o e a;exact free b o' Qjn e1 Qly
 .obtain⟨o',e1⟩:=I.base.there b o e a;exact there b o' Qjn e1
 .obtain⟨m1,e1⟩:=I.base.nW b ps e;obtain⟨m2,e2⟩:=nW b _ e1;exact#[m1++m2,by rw[e2,Array.append_assoc]]
 .obtain⟨m,hn,C⟩:=I.loc;refine#[m,ns m hn,λi x v e1 e2 e3=>?_];obtain⟨u,r,l⟩:=C i x v e1 e2 e3;refine#[u,r,?_];obtain l|⟨k,c,e,z⟩:=l
  .exact .inl l
  .exact .inr #[k,c,e,cellK x c e _ z]
 .obtain⟨v,z⟩:=I.cell x c e;exact#[v,cellK x c e v z]
 .obtain⟨m,⟨o,_,_,h,_⟩,_⟩:=I.loc;exact free _ o (λz=>(t _ z).2.1 rfl) h I.free
 .obtain⟨v,o,h,hd⟩:=I.cell x c e;exact free c o (λz=>(t c z).2.2.1 x c e rfl) h Qn0
 .obtain⟨e,n,ne,nf,d⟩:=I.pin p A;have f:p.1∉ch:=λz=>(t p.1 z).2.2.2 p A rfl;exact#[keep p.1 p.2 ne nf f e n,free p.1 p.2 f e n,ne,nf,d]
theorem Inv.un(I:QK)(u:Un X.fs [] H H' s.heap h')(bW:Qms):Inv X pins U H' {s with heap:=h',toks:=t'}:=by
 obtain⟨m,⟨o,es,ep,d,r⟩,_⟩:=id I.loc;obtain⟨sl,h⟩:=u.any d I.free WA;exact I.step (ch:=[]) (λ_ z=>nomatch z) (λb o _ hb _ e n=>u.keep b o e n hb WA) (λb o _ hb _ e n=>u.slot b o e n hb WA) (λb o _ e n=>u.free b o e n WA) (λb o _ e=>u.there b o e WA) u.nV u.fK u.nW (λi hm=>by
  obtain⟨o',a,c,f,g⟩:=hm;rw[d]at f;cases f;exact#[_,a,c,h,g]) bW I.bare
theorem Inv.call{g':QnE}{q:Drawn}{ch:BN}(I:QK)(u:Un QhS ch H H' s.heap h')(bW:Qms)(l:AllBare g')
  (i:∀b∈ch,Qhs/\b≠X.env.locals/\(∀x c,X.env.cells.lookup x=some c->c≠b)/\∀p∈X.pn++pins,p.1≠b) :
  Inv X pins U H' {s with heap:=h',gens:=g',drawn:=q,toks:=t'}:=by
 obtain⟨m,⟨o,es,ep,h,r⟩,_⟩:=id I.loc;obtain⟨sl,d⟩:=u.any h I.free λz=>(i _ z).2.1 rfl;exact I.step i (λb o d hb a e n=>u.keep b o e n (λz=>(eg.1 (I.xK b z)).elim d hb) a) (λb o _ _ a e n=>u.any e n a) (λb o a e n=>u.free b o e n a) (λb o a e=>u.there b o e a) u.nV u.fK u.nW (λt hm=>by
  obtain⟨o',f,g,j,k⟩:=hm;rw[h]at j;cases j;exact#[_,f,g,d,k]) bW l
theorem Inv.turned{it:Addr}(I:QK)(k:∀b o,b≠it->s.heap.get? b=some o->h'.get? b=some o)(hn:H it=none)(f:it≠X.env.locals)
  (h1:it∈X.ex\/X.eI.heap.objs.size<=it) (i:∀x c,X.env.cells.lookup x=some c->c≠it) (h:∀p∈X.pn++pins,p.1≠it):Inv X pins U H {s with heap:=h',toks:=t'}:=by
 have d:∀b u,H b=some u->b≠it:=λb u e z=>by grind
 refine I.step (ch:=[it]) (λb hb=>?_) (λb o _ _ a e _=>k b o (λz=>a (by simp[z])) e) (λb o _ _ a e _=>#[ _,k b o (λz=>a (by simp[z])) e]) Quk
  (λb o a e=>#[o,k b o (λz=>a (by simp[z])) e]) Qu0 QuF (λb ps e=>#[#[],‹_› ]) (λm hm=>?_) (λb u e=>?_) I.bare
 .have e:=by simpa using hb
  subst e;exact#[h1,f,i,h]
 .obtain⟨o,es,ep,g,r⟩:=hm;exact#[o,es,ep,k _ o (i8 f) g,r]
 .refine(I.bW b u e).qV (λc v a q=>k c v ?_ q) QbI λ_ _ q=>q;obtain z|z:=a
  .rw[z];exact d b u e
  .exact d c _ z
theorem Inv.tok(I:QK)(t:Nat):Inv X pins U H {s with toks:=t}:=I.un Un.refl I.bW
theorem Inv.kept(I:QK)(k:∀b u,s.heap.get? b=some u->h'.get? b=some u):Inv X pins U H {s with heap:=h',toks:=t'}:=I.un (Un.kept k) (I.bW.kept k)
theorem Inv.laid(I:QK)(k:∀b u,s.heap.get? b=some u->h'.get? b=some u)(c:Qwr)(new:fJ X.prog X.w Qa8 h' a o) :
  Inv X pins U Qa8 {s with heap:=h',toks:=t'}:=I.un (Un.laid k c (I.bW.fresh c)) (I.bW.laid k c new)
theorem Inv.write(I:QK)(c:tf (H x))(he:Qpn)(k:∀b u,b≠e->s.heap.get? b=some u->h'.get? b=some u)(a:∃u,h'.get? e=some u)
  (new:fJ X.prog X.w Qoo h' x o):Inv X pins U Qoo {s with heap:=h',toks:=t'}:=I.un (Un.write c he k a) (I.bW.write c he k a new)
theorem Inv.wm{a:At}(I:QK)(h:∀p∈a,s.heap.get? p.1=some p.2/\H p.1=none/\p.1≠X.env.locals/\p.1∉X.fs/\∀v,p.2.data ≠ .cell v):Inv X a U H s:=
 #[I.ok,I.os,I.bare,I.base,I.loc,I.cell,I.free,I.jA,λp b=>(eB.1 b).elim (λz=>I.pin p (e6 _ z)) (h p),I.bW,I.len]
variable{i:Nat}
def xM{N:AT}(c:N.Nodup){j:Nat}{x:Str}(a:N[i]? = some x)(b:N[j]? = some x):i=j:=by
 obtain⟨h1,e1⟩:=hH.1 a;obtain⟨d,e2⟩:=hH.1 b;exact(List.getElem_inj c).1 (e1.trans e2.symm)
abbrev _root_.Dx:=Unit->Shared->Prop
variable{M:Model}{A:Qaj}{E:BB}{v:V}{u:Value}{Q:Dx}
abbrev _root_.EN:=List Keyword
abbrev _root_.AB(X:Cx)(p:Pos)(e:Expr):Prop:=((backTo p Qu1).all QeI&&(backToKw p Qep).all Qes&&decide ([e].length+([]:EN).length+Qei<30))=true
abbrev _root_.CC:=List Expr
abbrev _root_.AC(X:Cx)(e:Expr)(es:CC):Prop:=starEach Qau X.env=(false,eval e X.env)::starEach es X.env
abbrev _root_.AD(x:Str):Prop:=QtO=false
abbrev _root_.AE(x:Str):Prop:=Qso=false
abbrev _root_.AL(X:Cx)(p:Pos)(es:CC):Prop:=(backTo p Qk5).any (·.1)=false
abbrev _root_.AM(X:Cx)(y:Str):Prop:=X.fn y=true\/X.env.scope.names.lookup y=some .local
abbrev _root_.AN(X:Cx)(e:Expr):Prop:=∀x,foldedSetIterable e X.env x=pure x
abbrev _root_.AR(X:Cx)(e d:Expr):Prop:=starEach [e,d] X.env=[(false,eval e X.env),(false,eval d X.env)]
abbrev _root_.AS(X:Cx)(e:Expr)(f:Str):Prop:=attributeBase e f X.env QfN=eval e X.env
def MK{x:Str}(I:QK)(hN:QaX)(hi:X.N[i]? = some x)(l:Qc4)(r:Qcw)
  (h:∀s',Inv X pins QeB H s'->(∃a,Heap.SameBut a s.heap s'.heap/\(a=X.env.locals\/X.env.cells.lookup x=some a))->Q () s') (hf:Qc5:=by first|exact .inl rfl|exact .inr rfl|assumption):wpAny M A Qul Q E s:=by
 obtain⟨m,hn,Z⟩:=id I.loc;have Y:(X.env.scope.kind == .class || (X.env.scope.kind == .module&&X.env.locals != X.env.globals))=false:=by rw[I.ok.kind];rfl
 have B:i<U.length:=by rw[I.len];exact(hH.1 hi).1
 have lj:=I.lj;have tracked:∀{a:Addr} {h':Heap},(∃o,s.heap.get? a=some o/\H a=none)->Heap.SameBut a s.heap h'->nU X.prog X.w H h':=λ{a h'} ha f b ob e=>by
  obtain⟨_,_,K⟩:=ha;refine(I.bW b ob e).qV (λc L g q=>(f.2 c ?_).trans q) QbI λ_ _ q=>q;rintro rfl;obtain rfl|g:=g
  .rw[K]at e;cases e
  .rw[K]at g;cases g
 obtain t|t:=l
 .refine wpAny_storeName_local t hn (λh' V f=>?_) Y;obtain⟨oL,_,_,T,_⟩:=id hn;refine h _ #[I.ok,I.os,I.bare,#[λb o e n hb l=>?_,λb o e n hb l=>?_,I.base.free,λb o e l=>?_,I.base.nV,I.base.fK,I.base.nW],#[_,V,λj y v' e1 e2 e3=>?_],λy c e=>?_,I.free,I.jA,λp S=>?_,tracked #[oL,T,I.free] f,by simpa using I.len] #[_,f,.inl rfl]
  .exact(f.2 b Qod).trans QsM
  .obtain⟨sl,e1⟩:=I.base.slot b o e n hb l;exact#[sl,(f.2 b Qod).trans e1]
  .obtain⟨o',e1⟩:=I.base.there b o e l;exact#[o',(f.2 b Qod).trans e1]
  .by_cases C:j=i
   .subst C;rw[hi]at e1;cases e1;rw[pf B]at e2;cases e2;exact#[u,r,.inl #[t,WA]]
   .rw[so (i8 C)]at e2;obtain⟨P,R,q⟩:=Z j y v' e1 e2 e3;refine#[P,R,?_];obtain⟨k,e⟩|⟨k,c,e,z⟩:=q
    .refine .inl #[k,?_];have:y≠x:=λe=>C (xM hN e1 (e▸hi));simp[this,e]
    .exact .inr #[k,c,e,z.sameBut f (lj y c e)]
  .obtain⟨L,z⟩:=I.cell y c e;exact#[L,z.sameBut f (lj y c e)]
  .obtain⟨e,n,ne,nf,d⟩:=I.pin p S;exact#[(f.2 p.1 ne).trans e,n,ne,nf,d]
 .have D:X.fn x=true:=by
   obtain z|z:=hf
   .exact z
   .rw[z]at t;cases t
  obtain⟨c,g⟩:=I.ok.has x (.inl t);obtain⟨L,z⟩:=I.cell x c g;refine wpAny_storeName_cell I.ok.kind t g z (λh' J f=>?_);obtain⟨oc,F,W⟩:=id z;refine h {s with heap:=h'} #[I.ok,I.os,I.bare,#[λb o e n hb l=>?_,λb o e n hb l=>?_,I.base.free,λb o e l=>?_,I.base.nV,I.base.fK,I.base.nW],#[m,hn.sameBut f (Ne.symm (lj x c g)),λj y v' e1 e2 e3=>?_],λy O e=>?_,I.free,I.jA,λp S=>?_,tracked #[oc,F,I.jA x c g] f,by simpa using I.len] #[c,f,.inr g]
  .exact(f.2 b QkJ).trans QsM
  .obtain⟨sl,e1⟩:=I.base.slot b o e n hb l;exact#[sl,(f.2 b QkJ).trans e1]
  .obtain⟨o',e1⟩:=I.base.there b o e l;exact#[o',(f.2 b QkJ).trans e1]
  .by_cases C:j=i
   .subst C;rw[hi]at e1;cases e1;rw[pf B]at e2;cases e2;exact#[u,r,.inr #[.inl t,c,g,J]]
   .rw[so (i8 C)]at e2;obtain⟨P,R,q⟩:=Z j y v' e1 e2 e3;refine#[P,R,?_];obtain q|⟨k,O,e,z'⟩:=q
    .exact .inl q
    .refine .inr #[k,O,e,z'.sameBut f ?_];rintro rfl;exact C (xM hN e1 (I.ok.inj _ _ _ e g▸hi))
  .by_cases G:O=c
   .subst G;exact#[_,J]
   .obtain⟨w2,z2⟩:=I.cell y O e;exact#[w2,z2.sameBut f G]
  .obtain⟨e,n,ne,nf,d⟩:=I.pin p S;refine#[(f.2 p.1 ?_).trans e,n,ne,nf,d];intro q;rw[q,F]at e;have q':oc=p.2:=gv e;exact d L (by rw[<- q'];exact W)
def rT{x:Str}(I:QK)(b:QaX)(hi:X.N[i]? = some x)(a:Qc4)(r:Qcw)
  (h:∀s',Inv X pins QeB H s'->Q () s') (hf:Qc5:=by first|exact .inl rfl|exact .inr rfl|assumption):wpAny M A Qul Q E s:=
 MK I b hi a r (λs' c _=>h s' c) hf
theorem Inv.JJ{s':Qb}{ch:BN}(I:QK)(a:s'.os=s.os)(u:Un QhS ch H H' s.heap s'.heap)(bW:nU X.prog X.w H' s'.heap)(d:AllBare s'.gens)
  (f:∀b∈ch,Qhs/\b≠X.env.locals/\(∀x c,X.env.cells.lookup x=some c->c≠b)/\∀p∈X.pn++pins,p.1≠b):Inv X pins U H' s':=by
 obtain⟨h',g',g,t',o'⟩:=s';have e:=a;subst e;exact I.call u bW d f
abbrev _root_.Bi:=Option Addr
abbrev XK:=Value->Bi->Hp->Prop
abbrev St:=List (Option V)
abbrev VK:=V->Hp->Prop
abbrev TE:=St->Hp->VK->Prop
abbrev _root_.ET:=Bool->Hp->Prop
abbrev TT:=St->Hp->ET->Prop
abbrev _root_.EQ:=BY->Hp->Prop
abbrev TA:=St->Hp->EQ->Prop
structure Ends where
 nx:St->Hp->Prop
 rt:VK
 bk:St->Hp->Prop:=λ_ _=>False
 ct:St->Hp->Prop:=λ_ _=>False
abbrev TS:=Ends->St->Hp->Prop
def EP(X:Cx)(pins:At)(U:St)(Q:VK)(u:Value)(s':Qb):Prop:=∃v H',Inv X pins U H' s'/\RelV v u/\Q v H'
def TP(X:Cx)(pins:At)(U:St)(Q:ET)(b:Bool)(s':Qb):Prop:=∃H',Inv X pins U H' s'/\Q b H'
def AP(X:Cx)(pins:At)(U:St)(Q:EQ)(us:B0)(s':Qb):Prop:=∃vs H',Inv X pins U H' s'/\Vals vs us/\Q vs H'
def SP(X:Cx)(pins:At)(D:Ends)(f:Flow)(s':Qb):Prop:=
 match f with
 | .next=>∃U' H',Inv X pins U' H' s'/\D.nx U' H'
 | .brk=>∃U' H',Inv X pins U' H' s'/\D.bk U' H'
 | .cont=>∃U' H',Inv X pins U' H' s'/\D.ct U' H'
 | .ret u=>∃v U' H',Inv X pins U' H' s'/\RelV v u/\D.rt v H'
def PE(X:Cx)(e:Expr)(t:TE):Prop:=
 ∀(pins:At) (s:Qb) (U:St) (H:Hp) (Q:VK),Inv X pins U H s->t U H Q->wpAny QE X.A QfN Qbr X.xe s
def PT(X:Cx)(e:Expr)(t:TT):Prop:=
 ∀(pins:At) (s:Qb) (U:St) (H:Hp) (Q:ET),Inv X pins U H s->t U H Q->wpAny QE X.A QtP QeE X.xe s
def PW(X:Cx)(e:Expr)(t:TT):Prop:=
 ∀(whole:Sem Value) (pins:At) (s:Qb) (U:St) (H:Hp) (Q:ET),Inv X pins U H s->t U H Q->wpAny QE X.A Qt3 QeE X.xe s
def PA(X:Cx)(es:CC)(t:TA):Prop:=
 ∀(pos:Pos) (pins:At) (s:Qb) (U:St) (H:Hp) (Q:EQ),Inv X pins U H s->t U H Q->wpAny QE X.A Qsc Qxa X.xe s
def PS(X:Cx)(st:Stmt)(t:TS):Prop:=
 ∀(pins:At) (s:Qb) (U:St) (H:Hp) (D:Ends),Inv X pins U H s->t D U H->wpAny QE X.A Qxb Qi3 X.xe s
abbrev _root_.CS:=List Stmt
def Ko(X:Cx)(st:CS)(t:TS):Prop:=
 ∀(pins:At) (s:Qb) (U:St) (H:Hp) (D:Ends),Inv X pins U H s->t D U H->wpAny QE X.A Qws Qi3 X.xe s
noncomputable def cR{α:Type}{t:Sem α}{Q b:Qu2}(h:wpAny M A t Q E s)(c:∀a s,Q a s->b a s):wpAny M A t b E s:=hF h c λ_ _ x=>x
section
noncomputable def Pl(i:Nat):TE:=λU H Q=>∃v,U[i]? = some Qa1/\Q v H
def tC(v:V):TE:=λ_ H Q=>Q v H
def jo{x:Str}{pos:Pos}(g:X.N[i]? = some x)(hv:Qng)(hd:AD x:=by decide)(iM:AE x:=by decide):PE X Qat (Pl i):=by
 intro pins s U H Q I h;obtain⟨v,e,h⟩:=h;obtain⟨m,hn,f⟩:=I.loc;obtain⟨u,r,l⟩:=f i x v g e hv;have fin:EP X pins U Q u s:=#[v,H,I,r,h];obtain⟨a,hm⟩|⟨a,c,d,b⟩:=l
 .exact wpAny_Name (wpAny_loadName_local I.ok.kind a hn hm fin) hd
 .obtain a|a:=a
  .exact wpAny_Name (wpAny_loadName_cell I.ok.kind a d b fin) hd
  .exact wpAny_Name (wpAny_loadName_free I.ok.kind a d b fin iM) hd
noncomputable def abG{i j pos}:PE X Qlr (tC Qa0):=λ_ _ _ H _ I h=>wpAny_Constant_int #[.int i,H,I.tok _,#[_,rfl],h]
noncomputable def UP{b j pos}:PE X (.Constant (.bool b) j pos) (tC QdU):=λ_ _ _ H _ I h=>Constant_bool #[.bl b,H,I,rfl,h]
noncomputable def abH{j pos}:PE X QtQ (tC .non):=λ_ _ _ H _ I h=>Constant_none #[.non,H,I,rfl,h]
noncomputable def abI{x j pos}:PE X Qls (tC QaL):=λ_ _ _ H _ I h=>Calls.Constant_str #[.str x,H,I.tok _,#[_,rfl],h]
def Gl(X:Cx)(x:Str):Prop:=X.env.kindOf x=some .globalImplicit
def iC{U:St}{x:Str}{pos:Pos}{Q:BB}(I:QK)(a:Qad)(hm:QoG)(h:Q u s)
  (hd:AD x:=by decide):wpAny QE X.A Qvv Q E s:=
 Calls.Name_function_global I.ok.kind a (Calls.loadGlobal_global (I.ok.glob▸I.mod.glob.keeps I.bk) hm h) hd
def qW{U:St}{x:Str}{pos:Pos}{Q:BB}(I:QK)(a:Qad)(hm:QgB)(hv:Qmt)(h:Q u s)
  (hn:QgC:=by decide) (hd:AD x:=by decide):wpAny QE X.A Qvv Q E s:=by
 obtain⟨mb,h1,b⟩:=I.mod.blt;exact Calls.Name_function_global I.ok.kind a (Calls.loadGlobal_builtin (I.ok.glob▸I.mod.glob.keeps I.bk) hm (I.ok.blt▸h1.keeps I.bk) ((b x hn).trans hv) h) hd
def wA{x:Str}{pos:Pos}(a:Qad)(hm:QoG)(r:Qcw)(hd:AD x:=by decide):PE X Qat (tC v):=
 λ_ _ _ H _ I h=>iC I a hm #[v,H,I,r,h] hd
def Kp{x:Str}{pos:Pos}(a:Qad)(hm:QgB)(hv:Qmt)(r:Qcw)(hn:QgC:=by decide)(hd:AD x:=by decide):PE X Qat (tC v):=
 λ_ _ _ H _ I h=>qW I a hm hv #[v,H,I,r,h] hn hd
variable{a b:Expr}{ta tb:TE}{pos:Pos}
def PC(X:Cx)(op:CmpOp)(a b:Expr)(t:TE):Prop:=
 ∀(pins:At) (s:Qb) (U:St) (H:Hp) (Q:VK),Inv X pins U H s->t U H Q →
  wpAny QE X.A (eval a X.env) (λv d=>wpAny QE X.A (eval b X.env) (λu c=>wpAny QE X.A (compareOp op v u) Qbr X.xe c) X.xe d) X.xe s
theorem D9(b:Expr){op:CmpOp}(h:op ≠ .In)(a:op ≠ .NotIn):behindInMarks op b=false:=by
 have e1:(op==CmpOp.In)=false:=by grind
 have e2:QvW=false:=by grind
 cases b<;>simp[behindInMarks,e1,e2]
noncomputable def Pf(ta:TE):TE:=λU H Q=>ta U H λx H1=>Q (.bl (decide (x=.non))) H1
theorem RelV.QZ{x:V}{v:Value}(r:QjT):(v==Value.none)=decide (x=.non):=by
 cases x with
 | non=>cases r;rfl
 | bl _=>cases r;rfl
 | int _=>obtain⟨t,rfl⟩:=r;rfl
 | str _=>obtain⟨t,rfl⟩:=r;rfl
 | Hl _=>obtain⟨t,rfl⟩:=r;rfl
 | flt _=>obtain⟨t,rfl⟩:=r;rfl
 | ref _=>cases r;rfl
 | ty _=>cases r;rfl
def Hq{j pos'}(d:Qby):PC X .Is a (.Constant .none j pos') (Pf ta):=by
 intro pins s U H Q I h;refine cR QuG λv s1 zz=>?_;obtain⟨x,H1,e,b,c⟩:=zz;exact Constant_none (is_none_gen #[.bl _,H1,e,by rw[b.QZ];rfl,c])
noncomputable def tB(t:TE):TT:=λU H Q=>t U H λx H1=>∃c,x=.bl c/\Q c H1
def Q0{op:CmpOp}{t:TE}(h:PC X op a b t)(h1:Qh6:=by first|exact D9 _ Wp Wp|rfl):PE X QhT t:=λpins s U H Q I hw=>wpAny_Compare1 Qum h1
def BJ{op:CmpOp}{t:TE}(h:PC X op a b t)(h1:Qh6:=by first|exact D9 _ Wp Wp|rfl):PT X QhT (tB t):=by
 intro pins s U H Q I hw;refine wpAny_isTrue_Compare1 (cR QlO λv s1 h1=>cR h1 λu s2 g=>cR g λc s3 zz=>?_) h1;obtain⟨x,H1,i,e,f⟩:=zz;obtain⟨d,rfl,q⟩:=f;cases e;exact ky #[H1,i,q]
def abJ{e:Expr}{t:TE}(h:PE X e t)(he:∀whole,isTrue e X.env whole=(do let v ← whole;standAt e.pos;holding [v] Qgc):=by intro _;rfl):PT X e (tB t):=by
 intro pins s U H Q I hw;refine isTrue_plain (cR QlO λv s1 zz=>?_) (he _);obtain⟨x,H1,c,a,b⟩:=zz;obtain⟨d,rfl,q⟩:=b;cases a;exact ky #[H1,c,q]
variable{tA tB':TT}{rest:CC}
noncomputable def Pe(t u:TT):TT:=λU H Q=>t U H λc H1=>if c=true then u U H1 Q else Q false H1
noncomputable def MI(t u:TT):TT:=λU H Q=>t U H λc H1=>if c=true then Q true H1 else u U H1 Q
noncomputable def Pd(t:TT):TT:=λU H Q=>t U H λc H1=>Q (!c) H1
theorem W3(b:QgD):PW X (.BoolOp .And [a] pos) tA:=by
 intro d pins s U H Q I h;refine isTrue_and (cR QuH λc s1 e=>?_);cases c with
 | true=>exact isTrue_and_nil e
 | false=>exact e
theorem abK(b:QgD):PW X (.BoolOp .Or [a] pos) tA:=by
 intro d pins s U H Q I h;refine isTrue_or (cR QuH λc s1 e=>?_);cases c with
 | false=>exact isTrue_or_nil e
 | true=>exact e
theorem abL(g:QgD)(hb:PW X Qsp tB'):PW X QxQ (Pe tA tB'):=by
 intro f pins s U H Q I h;refine isTrue_and (cR Qdl λc s1 zz=>?_);obtain⟨H1,e,d⟩:=zz;cases c with
 | true=>exact hb f pins s1 U H1 Q e d
 | false=>exact#[H1,e,d]
theorem T2(g:QgD)(hb:PW X QsN tB'):PW X QxS (MI tA tB'):=by
 intro f pins s U H Q I h;refine isTrue_or (cR Qdl λc s1 zz=>?_);obtain⟨H1,e,d⟩:=zz;cases c with
 | true=>exact#[H1,e,d]
 | false=>exact hb f pins s1 U H1 Q e d
noncomputable def abM(b:QgD):PT X (.UnaryOp .Not a pos) (Pd tA):=λpins s U H Q I h=>isTrue_not (b pins s U H _ I h)
noncomputable def T1(ta tb:TE):TE:=λU H Q=>ta U H λx H1=>∃c,x=.bl c/\if c=true then tb U H1 Q else Q Qoe H1
noncomputable def Pc(ta tb:TE):TE:=λU H Q=>ta U H λx H1=>∃c,x=.bl c/\if c=true then Q QaV H1 else tb U H1 Q
noncomputable def abN{op}{t:TE}(h:PE X a t):PE X (.BoolOp op [a] pos) t:=λpins s U H Q I hw=>BoolOp_one Qum
theorem abO(g:Qby)(hb:PE X Qsp tb):PE X QxQ (T1 ta tb):=by
 intro pins s U H Q I h;refine BoolOp_and (cR Qdl λv s1 zz=>?_);obtain⟨x,H1,e,f,d⟩:=zz;obtain⟨c,rfl,d⟩:=d;cases f;refine ky ?_;cases c with
 | true=>exact hb pins s1 U H1 Q e d
 | false=>exact#[.bl _,H1,e,rfl,d]
theorem TZ(g:Qby)(hb:PE X QsN tb):PE X QxS (Pc ta tb):=by
 intro pins s U H Q I h;refine BoolOp_or (cR Qdl λv s1 zz=>?_);obtain⟨x,H1,e,f,d⟩:=zz;obtain⟨c,rfl,d⟩:=d;cases f;refine ky ?_;cases c with
 | false=>exact hb pins s1 U H1 Q e d
 | true=>exact#[.bl true,H1,e,rfl,d]
noncomputable def MM(t:TT)(ta tb:TE):TE:=λU H Q=>t U H λc H1=>if c=true then ta U H1 Q else tb U H1 Q
theorem Q5{c:Expr}(g:PT X c tA)(i:Qby)(hb:Qc6):PE X (.IfExp c a b pos) (MM tA ta tb):=by
 intro pins s U H Q I h;refine wpAny_IfExp (cR Qdl λd s1 zz=>?_);obtain⟨H1,f,e⟩:=zz;cases d with
 | true=>exact i pins s1 U H1 Q f e
 | false=>exact hb pins s1 U H1 Q f e
end
def mE(K:Frag)(H:Hp)(a:Addr)(xs:BY):Prop:=
 Rd H a QbJ ∨
  ∃(o:Obj) (its:D1) (n:Nat),K.lookup a=some o/\o.cls=.type "list" /\ o.dict=none/\o.data=.seq its n/\its.size<=sizeLine/\Vals xs its.toList
def lK(K:Frag)(H:Hp)(a:Addr)(xs:BY):Prop:=
 Rd H a Qa2 ∨
  ∃(o:Obj) (its:D1) (n:Nat),K.lookup a=some o/\o.cls=.type "tuple" /\ o.data=.seq its n/\its.size<=sizeLine/\Vals xs its.toList
noncomputable def O3:Value->Option V
 | .none=>some .non
 | .bool b=>some QdU
 | .int i _=>some Qa0
 | .str x _ => some QaL
 | .bytes b _=>some (.Hl b)
 | .float b _=>some (.flt b)
 | .ref a=>some Qah
 | .type n=>some (.ty n)
 | _=>none
theorem RelV.abs{x:V}(r:RelV x u):O3 u=some x:=by
 cases x with
 | non=>cases r;rfl
 | bl _=>cases r;rfl
 | int _=>obtain⟨t,rfl⟩:=r;rfl
 | str _=>obtain⟨t,rfl⟩:=r;rfl
 | Hl _=>obtain⟨t,rfl⟩:=r;rfl
 | flt _=>obtain⟨t,rfl⟩:=r;rfl
 | ref _=>cases r;rfl
 | ty _=>cases r;rfl
theorem RelV.inj{x y:V}(r:RelV x u)(q:Qbz):x=y:=gv (r.abs.symm.trans q.abs)
theorem Vals.inj{ys:BY}(h:Qo2)(q:Vals ys us):xs=ys:=by
 induction h generalizing ys with
 | nil=>cases q;rfl
 | cons r _ i=>cases q with
  | cons a t'=>rw[r.inj a,i t']
variable{U:St}{ys:BY}{K:Frag}
theorem mE.of(h:H a=some QbJ):mE K H a xs:=.inl Qe0
theorem lK.of(h:H a=some Qa2):lK K H a xs:=.inl Qe0
theorem Inv.list(I:QK)(h:mE X.K H a xs):∃its:B0,Vals xs its/\PlainL s.heap a its.toArray/\xs.length<=sizeLine:=by
 obtain h|⟨o,its,n,b,c,hd,f,d,r⟩:=h
 .obtain⟨z,its,n,r,e⟩:=h.ok I.bW;exact#[its,r,#[_,n,e,rfl,rfl,rfl],z]
 .refine#[ _,r,#[o,n,I.lJ a o b,c,hd,‹_› ],?_];have e:=r.length;grind
theorem Inv.tuple(I:QK)(h:lK X.K H a xs):∃its:B0,Vals xs its/\IsTup s.heap a its.toArray/\xs.length<=sizeLine:=by
 obtain h|⟨o,its,n,b,c,f,d,r⟩:=h
 .obtain⟨z,its,r,p⟩:=h.ok I.bW;exact#[its,r,p,z]
 .refine#[ _,r,#[o,I.lJ a o b,c,n,‹_› ],?_];have e:=r.length;grind
theorem Inv.Ea(I:QK)(h:mE X.K H a xs)(h':mE X.K H a ys):xs=ys:=by
 obtain⟨its,r,⟨o,n,e,_,_,d⟩,_⟩:=I.list h;obtain⟨f,g,⟨o',i,b,_,_,c⟩,_⟩:=I.list h';rw[e]at b;cases b;rw[d]at c;injection c with d1 _;have:its=f:=by simp_all
 subst this;exact r.inj g
theorem Inv.ML(I:QK)(h:lK X.K H a xs)(h':lK X.K H a ys):xs=ys:=by
 obtain⟨its,r,⟨o,e,_,n,d⟩,_⟩:=I.tuple h;obtain⟨f,g,⟨o',b,_,i,c⟩,_⟩:=I.tuple h';rw[e]at b;cases b;rw[d]at c;injection c with d1 _;have:its=f:=by simp_all
 subst this;exact r.inj g
abbrev Cx.d7(X:Cx)(E:BB):Cx:={X with xe:=E}
abbrev Cx.MN(X:Cx):Cx:=X.d7 λ_ _=>False
theorem Cx.Ok.d7(ok:X.Ok)(E:BB):(X.d7 E).Ok:=
 #[ok.mod,ok.kind,ok.glob,ok.blt,ok.above,ok.inj,ok.has,ok.mI,ok.hd,ok.frames,ok.oe,ok.uu,ok.bs,ok.QY,ok.Ho,ok.MJ,ok.rR,ok.WH]
theorem Cx.Ok.dQ(ok:(X.d7 E).Ok):X.Ok:=
 #[ok.mod,ok.kind,ok.glob,ok.blt,ok.above,ok.inj,ok.has,ok.mI,ok.hd,ok.frames,ok.oe,ok.uu,ok.bs,ok.QY,ok.Ho,ok.MJ,ok.rR,ok.WH]
theorem Inv.d7(I:QK)(E:BB):Inv Qe1 pins U H s:=#[I.ok.d7 E,I.os,I.bare,I.base,I.loc,I.cell,I.free,I.jA,I.pin,I.bW,I.len]
theorem Inv.dQ(I:Inv Qe1 pins U H s):Inv X pins U H s:=#[I.ok.dQ,I.os,I.bare,I.base,I.loc,I.cell,I.free,I.jA,I.pin,I.bW,I.len]
theorem SP.dQ{D:Ends}{f:Flow}{s':Qb}(h:SP Qe1 pins D f s'):SP X pins D f s':=by
 cases f with
 | next=>obtain⟨U',H',I,q⟩:=h;exact#[U',H',I.dQ,q]
 | brk=>obtain⟨U',H',I,q⟩:=h;exact#[U',H',I.dQ,q]
 | cont=>obtain⟨U',H',I,q⟩:=h;exact#[U',H',I.dQ,q]
 | ret u=>obtain⟨v,U',H',I,r,q⟩:=h;exact#[v,U',H',I.dQ,r,q]
theorem Ko.MN{st:CS}{t:TS}(h:Ko X.MN st t):Ko X st t:=λpins s U H D I hw=>
 hF (h pins s U H D (I.d7 _) hw) (λ_ _ q=>q.dQ) λ_ _ z=>False.elim z
section
variable{st:Stmt}{rest:CS}{t u:TS}{e:Expr}{te:TE}{pos:Pos}
noncomputable def TY:TS:=λD U H=>D.nx U H
def O0(t u:TS):TS:=λD U H=>t {D with nx:=u D} U H
noncomputable def Kq:Ko X [] TY:=λ_ _ U H _ I h=>wpAny_execs_nil #[U,H,I,h]
theorem rV(h1:PS X st t)(a:Ko X rest u):Ko X (st::rest) (O0 t u):=by
 intro pins s U H D I h;refine wpAny_execs_cons (cR (h1 pins s U H _ I h) λf s1 q=>?_);cases f with
 | next=>
  obtain⟨U',H',b,q⟩:=q;exact a pins s1 U' H' D b q
 | ret v=>exact q
 | brk=>exact q
 | cont=>exact q
theorem Inv.quiet(I:QK):interactive X.env=false:=by simp[interactive,I.ok.kind]
noncomputable def TU(te:TE):TS:=λD U H=>te U H λ_ H1=>D.nx U H1
def rW(he:Qc7)(b:QgE:=by rfl):PS X (.Expr e pos) (TU te):=λpins s U H D I h=>wpAny_Expr_any (cR Qdk λv s1 ⟨x,H1,c,d,a⟩=>#[U,H1,c,a]) I.quiet b
noncomputable def OT(te:TE):TS:=λD U H=>te U H D.rt
def Hr(he:Qc7):PS X Qt4 (OT te):=λpins s U H D I h=>wpAny_Return_some (cR Qdk λv s1 ⟨x,H1,c,a,b⟩=>#[x,U,H1,c,a,b])
noncomputable def OR(c:TT)(t u:TS):TS:=λD U H=>c U H λb H1=>if b=true then t D U H1 else u D U H1
theorem TM{c:Expr}{a b:CS}{tc:TT}(g:PT X c tc)(i:Ko X a t)(hb:Ko X b u):PS X (.If c a b pos) (OR tc t u):=by
 intro pins s U H D I h;refine wpAny_If (cR Qdl λd s1 zz=>?_);obtain⟨H1,f,e⟩:=zz;cases d with
 | true=>exact i pins s1 U H1 D f e
 | false=>exact hb pins s1 U H1 D f e
end
abbrev TG:=V->St->Hp->(St->Hp->Prop)->Prop
abbrev n3:=BY->St->Hp->(St->Hp->Prop)->Prop
def PG(X:Cx)(target:Expr)(t:TG):Prop:=
 ∀(pins:At) (s:Qb) (U:St) (H:Hp) (v:V) (u:Value) (Q:Qxc),Inv X pins U H s->RelV v u->t v U H Q →
  wpAny QE X.A (assign target X.env u) (λ_ s'=>∃U' H',Inv X pins U' H' s'/\Q U' H') X.xe s
def wz(X:Cx)(ts:CC)(t:n3):Prop:=
 ∀(pins:At) (s:Qb) (U:St) (H:Hp) (vs:BY) (us:B0) (Q:Qxc),Inv X pins U H s->Vals vs us->t vs U H Q →
  wpAny QE X.A (assignInOrder ((assignEach ts X.env).map (·.2)) us) (λ_ s'=>∃U' H',Inv X pins U' H' s'/\Q U' H') X.xe s
abbrev zi:=V->V->V->Hp->(Hp->Prop)->Prop
def Hm(X:Cx)(t:zi):Prop:=
 ∀(pins:At) (s:Qb) (U:St) (H:Hp) (o i v:V) (ov a u:Value) (Q:Qow),Inv X pins U H s->RelV o ov->RelV i a->RelV v u->t o i v H Q →
  wpAny QE X.A (setItem ov a u) (λ_ s'=>∃H',Inv X pins U H' s'/\Q H') X.xe s
abbrev wq:=V->V->Hp->VK->Prop
def LL(X:Cx)(op:QjU)(t:wq):Prop:=
 ∀(pins:At) (s:Qb) (U:St) (H:Hp) (x y:V) (v u:Value) (Q:VK),Inv X pins U H s->RelV x v->RelV y u->t x y H Q →
  wpAny QE X.A (inplaceOp op v u) Qbr X.xe s
variable{pos:Pos}
noncomputable def Kr(i:Nat):TG:=λv U H Q=>Q QeB H
def wB{x:Str}(b:QaX)(hi:X.N[i]? = some x)(a:Qc4)(hf:Qc5:=by first|exact .inl rfl|exact .inr rfl|assumption):PG X Qat (Kr i):=λpins s U H v u Q I r h=>wpAny_assign_Name (rT I b hi a r (λs' c=>#[_,H,c,h]) hf)
noncomputable def Hk:n3:=λvs U H Q=>vs=[]/\Q U H
noncomputable def Q6(t:TG)(u:n3):n3:=λvs U H Q=>∃v r,vs=v::r/\t v U H λU' H'=>u r U' H' Q
def W4:wz X [] Hk:=by
 intro pins s U H vs us Q I r h;obtain⟨e,h⟩:=h;exact assignInOrder_nil #[U,H,I,h]
variable{es:CC}
def Eb{e:Expr}{t:TG}{u:n3}(h1:PG X e t)(f:wz X es u)
  (d:(assignEach Qau X.env).map (·.2)=assign e X.env::(assignEach es X.env).map (·.2):=by rfl):wz X Qau (Q6 t u):=by
 intro pins s U H vs us Q I r h;obtain⟨v,i,e1,h⟩:=h;subst e1;cases r with
 | cons r b=>
  rw[d];refine assignInOrder_cons (cR (h1 pins s U H _ _ _ I r h) λ_ s1 zz=>?_);obtain⟨a,H1,g,c⟩:=zz;exact f pins s1 a H1 _ _ Q g b c
noncomputable def He(K:Frag)(n:Nat)(t:n3):TG:=λv U H Q=>∃a xs,v=.ref a/\lK K H a xs/\xs.length=n/\t xs U H Q
variable{k:Nat}
def abR{t:n3}{n:Nat}(l:QaH)(h:wz X es t)
  (hn:(assignEach es X.env).length=n:=by rfl) (d:(assignEach es X.env).findIdx? (·.1)=none:=by rfl):PG X (.Tuple es k pos) (He X.K n t):=by
 intro pins s U H v u Q I r hw;obtain⟨a,xs,e1,i,j,hw⟩:=hw;subst e1;cases r;obtain⟨its,c,g,p⟩:=I.tuple i;refine assign_Tuple_tuple Qof g (by simp[hn,<- j,c.length]) d λh' f=>?_;have m:=I.kept (t':=s.toks) λb o e=>f b o Qog e;exact h pins _ U H xs _ Q m (‹_›) hw
noncomputable def OP(to a:TE)(t:zi):TG:=λv U H Q=>to U H λo H1=>a U H1 λi H2=>t o i v H2 λb=>Q U b
def abS{o i:Expr}{to a:TE}{t:zi}(j:PE X o to)(hi:PE X i a)(g:Hm X t)
  (p:∀v,assign QlZ X.env v=(do
   let ov ← holding [v] Qcf
   let iv ← holding [v,ov] (eval i X.env)
   standAt pos
   holding [v,ov,iv] (setItem ov iv v)
   release [v,ov,iv] []):=by intro _;rfl):PG X QlZ (OP to a t):=by
 intro pins s U H v u Q I r h;refine eh (js (cR (j pins s U H _ I h) λov s1 zz=>?_));obtain⟨x,H1,m,c,f⟩:=zz;refine eh (js (cR (hi pins s1 U H1 _ m f) λiv s2 zz=>?_));obtain⟨y,H2,l,b,e⟩:=zz;refine eh (mM (eh (js (cR (g pins s2 U H2 x y v ov iv u _ l c b r e) λ_ s3 zz=>?_))));obtain⟨n,k,d⟩:=zz;exact wpAny_release #[U,n,k,d]
noncomputable def Hd(te:TE)(g:TG):TS:=λD U H=>te U H λx H1=>g x U H1 D.nx
variable{tg:Expr}{te:TE}
def abT{e:Expr}{g:TG}(he:Qc7)(d:PG X tg g)(c:swapsWithSole [tg] e pos.line X.env=pure false:=by rfl)(hw:swappedStores [tg] e X.env=pure none:=by rfl)
  (h1:(assignEach [tg] X.env).map (·.2)=[assign tg X.env]:=by rfl):PS X (.Assign [tg] e pos) (Hd te g):=by
 intro pins s U H D I h;refine wpAny_Assign_stores (cR Qdk λv s1 zz=>?_) c hw;obtain⟨x,H1,f,a,b⟩:=zz;rw[h1];exact cR (d pins s1 U H1 x v _ f a b) λ_ s2 q=>q
def Q7{x:Str}{e:Expr}{pos':Pos}(f:QaX)(hi:X.N[i]? = some x)(c:Qc4)(he:Qc7)(d:Qef:=by rfl)(hf:Qc5:=by first|exact .inl rfl|exact .inr rfl|assumption) :
  PS X Qk2 (Hd te (Kr i)):=by
 intro pins s U H D I h;refine wpAny_Assign_Name (cR Qdk λv s1 zz=>?_) d;obtain⟨y,H1,j,a,b⟩:=zz;exact rT j f hi c a (λs2 g=>#[_,H1,g,b]) hf
noncomputable def ON(i:Nat)(te:TE)(a:wq):TS:=λD U H=>∃x,U[i]? = some (some x)/\te U H λy H1=>a x y H1 λz H2=>D.nx (U.set i (some z)) H2
theorem abU{x:Str}{e:Expr}{op:QjU}{j:wq}{pos':Pos}(F:QaX)(hi:X.N[i]? = some x)(g:Qc4)(he:Qc7)(B:LL X op j)(hf:Qc5:=by first|exact .inl rfl|exact .inr rfl|assumption) :
  PS X (.AugAssign QiX op e pos) (ON i te j):=by
 intro pins s U H D I h;obtain⟨v,e1,h⟩:=h;obtain⟨m,hn,C⟩:=I.loc;have f:QX X.env.scope x:=by obtain k|k:=g;exact .inl k;exact .inr (.inl k)
 obtain⟨u,r,l⟩:=C i x v hi e1 f;refine wpAny_AugAssign_Name ?_;have go:wpAny QE X.A QfN (λw d=>wpAny QE X.A (inplaceOp op u w) (λr b=>wpAny QE X.A (storeName X.env x r) (λ_=>SP X pins D .next) X.xe b) X.xe d) X.xe s:=by
  refine cR Qdk λw s1 zz=>?_;obtain⟨y,H1,K,p,t⟩:=zz;refine cR (B pins s1 U H1 v y u w _ K r p t) λz s2 zz=>?_;obtain⟨L,H2,J,o,q⟩:=zz;exact rT J F hi g o (λs3 G=>#[_,H2,G,q]) hf
 obtain⟨a,hm⟩|⟨a,c,E,n⟩:=l
 .exact wpAny_loadName_local I.ok.kind a hn hm go
 .obtain a|a:=a
  .exact wpAny_loadName_cell I.ok.kind a E n go
  .obtain k|k:=g
   .have:X.env.scope.names.lookup x=some _:=a;simp_all
   .have:X.env.scope.names.lookup x=some _:=a;simp_all
noncomputable def Na(f:Qm2):wq:=λx y H Q=>∃i j,x=.int i/\y=.int j/\Q (.int (f i j)) H
def abV:LL X .Add (Na λi j=>i+j):=by
 intro pins s U H x y v u Q I b a h;obtain⟨i,j,e1,e2,q⟩:=h;subst e1;subst e2;obtain⟨t,rfl⟩:=b;obtain⟨t',rfl⟩:=a;exact iadd_int #[.int _,H,I.tok _,#[_,rfl],q]
def abW(c:TT)(tb:TS):TS:=λD U H=>∃W:Nat->St->Hp->Prop,(∃m,W m U H)/\∀m U H,W m U H →
 c U H λb H1=>if b=true then ∃N:St->Hp->Prop,(∀U' H',N U' H'->∃a,a<m/\W a U' H')/\tb {D with nx:=N,ct:=N,bk:=D.nx} U H1 else D.nx U H1
variable{c:Expr}
theorem Q8{body:CS}{tc:TT}{tb:TS}(o:Qk3)(u:PT X c tc)(hb:Ko X body tb):PS X (.While c body [] pos) (abW tc tb):=by
 intro pins s U H D I h;obtain⟨W,⟨m0,t⟩,turn⟩:=h;refine wpAny_While (codeAny_whileLoop (λn s'=>∃U' H',Inv X pins U' H' s'/\W n U' H') ?_ m0 #[U,H,I,t]);rintro n s1 ⟨d,H1,x,r⟩;refine nc o (cR (u pins s1 d H1 _ x (turn n d H1 r)) λb s2 zz=>?_);obtain⟨H2,q,i⟩:=zz;cases b with
 | true=>
  obtain⟨N,p,i⟩:=i;refine nc o (cR (hb pins s2 d H2 _ q i) λf s3 g=>?_);cases f with
  | next=>
   obtain⟨a,e,m,k⟩:=g;obtain⟨l,hm,j⟩:=p a e k;exact#[l,hm,a,e,m,j]
  | cont=>
   obtain⟨a,e,m,k⟩:=g;obtain⟨l,hm,j⟩:=p a e k;exact#[l,hm,a,e,m,j]
  | brk=>exact g
  | ret v=>exact g
 | false=>
  exact wpAny_execs_nil #[d,H2,q,i]
structure It where
 go:Nat->Hp->Prop
 Ks:Nat->Hp->V->Hp->Prop
 stop:Nat->Hp->Prop
def nX(X:Cx)(pins:At)(H:Hp)(b:Addr):Prop:=
 H b=none/\b≠X.env.locals/\b∉X.fs/\Qhs/\(∀x c,X.env.cells.lookup x=some c->c≠b)/\∀p∈X.pn++pins,p.1≠b
theorem Inv.z6(I:QK)(hb:s.heap.objs.size<=b)(hn:H' b=none):nX X pins H' b:=by
 refine#[hn,Nat.ne_of_gt (hW I.lt hb),I.Pm hb,.inr (gr I.sz hb),λx c e z=>?_,λp a z=>?_]
 .obtain⟨v,q⟩:=I.cell x c e;exact absurd (hW q.lt (z▸hb)) (oI _)
 .exact absurd (hW (fv (I.pin p a).1) (z▸hb)) (oI _)
structure Turn(P:Q2)(w:World)(K:Frag)(tg:Expr)(J:It)(fp:BN)(it:Addr)(tn:Qix):Prop where
 mem:it∈fp
 obj:∀i h,tn i h->∀b∈fp,∃o,h.get? b=some o/\∀v,o.data ≠ .cell v
 keep:∀i h h',tn i h->(∀b∈fp,∀o,h.get? b=some o->h'.get? b=some o)->tn i h'
 item:∀(X:Cx),X.prog=P->X.w=w->X.K=K->X.calm=true->∀(i:Nat) (pins:At) (s:Qb) (U:St) (H:Hp) (E:BB),Inv X pins U H s->(∀b∈fp,nX X pins H b)->tn i s.heap->J.go i H →
  wpAny QcT X.A Qwt (λr s1=>∃u,r=some u ∧
   wpAny QcT X.A Qsd (λ_ s2=>∃x H',Inv X pins U H' s2/\RelV x u/\J.Ks i H x H'/\tn Qai s2.heap/\∀b∈fp,H' b=none) E s1) E s
 done:∀(X:Cx),X.prog=P->X.w=w->X.K=K->X.calm=true->∀(i:Nat) (pins:At) (s:Qb) (U:St) (H:Hp) (E:BB),Inv X pins U H s->(∀b∈fp,nX X pins H b)->tn i s.heap->J.stop i H →
  wpAny QcT X.A Qwt (λr s1=>r=none/\Inv X pins U H s1) E s
 self:∀(A:Qaj) (i:Nat) (s:Qb) (Q:BB) (E:BB),tn i s.heap->Q QdF s->wpAny QcT A (pyIter QdF) Q E s
abbrev TI:=St->Hp->(It->Hp->Prop)->Prop
def LM(X:Cx)(pins:At)(U:St)(tg:Expr)(R:QgF)(a:Value)(s2:Qb):Prop:=
 ∃(it:Addr) (fp:BN) (tn:Qix) (J:It) (H':Hp),a=.ref it/\Inv X pins U H' s2/\Turn X.prog X.w X.K tg J fp it tn/\tn 0 s2.heap/\(∀b∈fp,nX X pins H' b)/\R J H'
def PI(X:Cx)(tg iter:Expr)(a:TI):Prop:=
 ∀(pins:At) (s:Qb) (U:St) (H:Hp) (R:QgF),Inv X pins U H s->a U H R →
  wpAny QE X.A (eval iter X.env) (λv s1=>wpAny QE X.A (pyIter v) Qvw X.xe s1) X.xe s
def AK{it:Addr}{o:Obj}{n:QaS}{vs:D1}(b:s.heap.get? it=some o)(c:o.cls=.type n)(hd:o.data=.fields vs)
  (hn:["enumerate","zip","dict_itemiterator","dict_reverseitemiterator","odict_iterator","itertools.zip_longest","itertools.pairwise"].contains n=false) (a:Q () s):wpAny M A Qsd Q E s:=by
 cases tg<;>first
  | exact fo a
  | (cases u<;>first
    | exact fo a
    | (refine eh (wpAny_load b ?_)
       rw[c,hd];show wpAny M A (if (["enumerate","zip","dict_itemiterator","dict_reverseitemiterator","odict_iterator","itertools.zip_longest","itertools.pairwise"].contains n&&vs[0]? == some _)=true then _ else _) Q E s;rw[cq (by intro h;rw[hn]at h;cases h)];exact fo a))
noncomputable def L9(K:Frag)(a:Addr):It:=
 #[λi H=>∃xs x,mE K H a xs/\xs[i]? = some x,λi H x H'=>H'=H/\∀xs,mE K H a xs->xs[i]? = some x,λi H=>∃xs,mE K H a xs/\xs.length<=i]
noncomputable def LU(K:Frag)(a:Addr):It:=
 #[λi H=>∃xs x,lK K H a xs/\xs[i]? = some x,λi H x H'=>H'=H/\∀xs,lK K H a xs->xs[i]? = some x,λi H=>∃xs,lK K H a xs/\xs.length<=i]
noncomputable def xc(lo:Int)(n:Nat):It:=#[λi _=>i<n,λi H x H'=>H'=H/\x=.int (lo+i),λi _=>n<=i]
theorem MP(a it:Addr):Turn P w K tg (L9 K a) [it] it (λi h=>h.IsListIter it a i) where
 mem:=by simp
 obj:=λi h st b hb=>by
  have e:b=it:=by simpa using hb
  subst e;obtain⟨o,e,c,d⟩:=st;simp_all
 keep:=λi h h' st k=>st.at λo e=>k it WA o e
 item:=by
  intro X m hw n r i pins s U H E I hf st l;subst m hw n;obtain⟨xs,x,f,j⟩:=l;obtain⟨its,g,p,z⟩:=I.list f;obtain⟨u,B,y⟩:=g.get j;obtain⟨f0,f1,f2,f3,f4,q⟩:=hf it WA;refine wpAny_pyNext_list_item st p.isList (x:=u) (by simpa using B) λh' t v=>?_;have D:=I.turned (t':=s.toks) Qrx f0 f1 f3 f4 q;obtain⟨o,e,c,d⟩:=id t;exact#[u,rfl,AK (s:={s with heap:=h'}) e c d Wp #[x,H,D,y,#[rfl,λys A=>by rw[I.Ea A f];exact j],t,λb hb=>(hf b hb).1]]
 done:=by
  intro X m hw n r i pins s U H E I hf st l;subst m hw n;obtain⟨xs,f,j⟩:=l;obtain⟨its,g,p,z⟩:=I.list f;obtain⟨f0,f1,f2,f3,f4,q⟩:=hf it WA;have F:=g.length;exact wpAny_pyNext_list_end (I.ok.hd r) st p.isList WI λh' C=>#[rfl,I.turned (t':=s.toks) Qsr f0 f1 f3 f4 q]
 self:=λ_ _ _ _ _ st h=>wpAny_pyIter_listiter st h
theorem Hs(a it:Addr):Turn P w K tg (LU K a) [it] it (λi h=>h.IsTupleIter it a i) where
 mem:=by simp
 obj:=λi h st b hb=>by
  have e:b=it:=by simpa using hb
  subst e;obtain⟨o,e,c,d⟩:=st;simp_all
 keep:=λi h h' st k=>st.at λo e=>k it WA o e
 item:=by
  intro X m hw n r i pins s U H E I hf st l;subst m hw n;obtain⟨xs,x,f,j⟩:=l;obtain⟨its,g,p,z⟩:=I.tuple f;obtain⟨u,B,y⟩:=g.get j;obtain⟨f0,f1,f2,f3,f4,q⟩:=hf it WA;refine wpAny_pyNext_tuple_item st (p) (x:=u) (by simpa using B) λh' t v=>?_;have D:=I.turned (t':=s.toks) Qrx f0 f1 f3 f4 q;obtain⟨o,e,c,d⟩:=id t;exact#[u,rfl,AK (s:={s with heap:=h'}) e c d Wp #[x,H,D,y,#[rfl,λys A=>by rw[I.ML A f];exact j],t,λb hb=>(hf b hb).1]]
 done:=by
  intro X m hw n r i pins s U H E I hf st l;subst m hw n;obtain⟨xs,f,j⟩:=l;obtain⟨its,g,p,z⟩:=I.tuple f;obtain⟨f0,f1,f2,f3,f4,q⟩:=hf it WA;have F:=g.length;exact wpAny_pyNext_tuple_end (I.ok.hd r) st (p) WI λh' C=>#[rfl,I.turned (t':=s.toks) Qsr f0 f1 f3 f4 q]
 self:=λ_ _ _ _ _ st h=>wpAny_pyIter_tupleiter st h
theorem Ht(it:Addr)(lo:Int)(n:Nat):Turn P w K tg (xc lo n) [it] it (λi h=>IsRangeIter h it (lo+(i:Nat)*1) ((n:Int)-(i:Nat)) 1) where
 mem:=by simp
 obj:=λi h st b hb=>by simp_all
 keep:=λi h h' st k=>k it WA _ st
 item:=by
  intro X f hw g c i pins s U H E I hf st a;subst f hw g;obtain⟨f0,f1,f2,f3,f4,d⟩:=hf it WA;have W:=Walks.range (prog:=X.prog) (w:=X.w) (I.ok.hd c) it lo 1 n;refine W.item i s _ _ a st λv h' tk hv j kk=>?_;obtain⟨t,rfl⟩:=hv;have m:Inv X pins U H {s with heap:=h',toks:=tk}:=I.turned (λb o hb e=>kk b o (by simpa using hb) e) f0 f1 f3 f4 d;refine#[_,rfl,AK j rfl rfl Wp #[.int (lo+i),H,m,#[t,?_],#[rfl,rfl],j,λb hb=>(hf b hb).1]];rw[Int.mul_one]
 done:=by
  intro X f hw g c i pins s U H E I hf st a;obtain⟨f0,f1,f2,f3,f4,d⟩:=hf it WA;exact wpAny_pyNext_range_end (I.ok.hd c) st (by have:n<=i:=a;lia) λh' l=>#[rfl,I.turned (l) f0 f1 f3 f4 d]
 self:=λ_ _ _ _ _ st h=>wpAny_pyIter_rangeiter st h
def TK(K:Frag)(tl:TE):TI:=λU H R=>tl U H λx H1=>∃a,x=.ref a/\(∃xs,mE K H1 a xs)/\R (L9 K a) H1
def OM(K:Frag)(tl:TE):TI:=λU H R=>tl U H λx H1=>∃a,x=.ref a/\(∃xs,lK K H1 a xs)/\R (LU K a) H1
def BK{l:Expr}{tl:TE}(i:PE X l tl):PI X tg l (TK X.K tl):=by
 intro pins s U H R I h;refine cR Ql0 λv s1 zz=>?_;obtain⟨x,H1,c,d,f⟩:=zz;obtain⟨a,e,⟨xs,g⟩,q⟩:=f;subst e;cases d;obtain⟨its,j,p,k⟩:=c.list g;refine wpAny_pyIter_list p.isList ?_;refine#[ _,_,_,_,H1,rfl,c.kept λb o e=>f7 _ e,MP a _,#[_,hX _ rfl,rfl,rfl],λb hb=>?_,q];have e:=by simpa using hb
 subst e;exact c.z6 (eA _) Ql8
def abX{l:Expr}{tl:TE}(i:PE X l tl):PI X tg l (OM X.K tl):=by
 intro pins s U H R I h;refine cR Ql0 λv s1 zz=>?_;obtain⟨x,H1,c,d,f⟩:=zz;obtain⟨a,e,⟨xs,g⟩,q⟩:=f;subst e;cases d;obtain⟨its,j,p,k⟩:=c.tuple g;refine wpAny_pyIter_tuple (p) ?_;refine#[ _,_,_,_,H1,rfl,c.kept λb o e=>f7 _ e,Hs a _,#[_,hX _ rfl,rfl,rfl],λb hb=>?_,q];have e:=by simpa using hb
 subst e;exact c.z6 (eA _) Ql8
theorem Ed{R:QgF}{lo hi:Int}{t u v:Tok}{tk:Nat}(I:QK)(h1:-(2 ^ 62)<=lo)(f:lo<2 ^ 62)(d:-(2 ^ 62)<=hi)(c:hi<2 ^ 62)
  (q:R (xc lo (hi-lo).toNat) H):wpAny QE X.A (pyIter Qb9) Qvw E {s with heap:=s.heap.push {cls:=.type "range",data:=.fields (List.toArray [.int lo t,.int hi u,.int 1 v])},toks:=tk}:=by
 refine wpAny_pyIter_range (IsRange.new ..) (small_one h1 f d c) ?_;have a:Inv X pins U H {s with heap:=s.heap.push {cls:=.type "range",data:=.fields (List.toArray [.int lo t,.int hi u,.int 1 v])},toks:=tk}:=I.kept λb o e=>f7 _ e;refine#[ _,_,_,_,H,rfl,
  a.kept λb o e=>f7 _ e,Ht _ lo _,?_,λb hb=>?_,q]
 .have e1:lo+((0:Nat))*1=lo:=by simp
  have e2:(((hi-lo).toNat))-((0:Nat))=Builtin.Range.rangeSize lo hi 1:=by rw[rangeSize_one];grind
  rw[e1,e2];exact hX _ rfl
 .have e:b=(s.heap.push {cls:=.type "range",data:=.fields (List.toArray [.int lo t,.int hi u,.int 1 v])}).objs.size:=by simp_all
  subst e;exact a.z6 (eA _) Ql9
def TC(ta:TA):TI:=λU H R=>ta U H λvs H1=>∃j:Int,vs=[.int j] /\ -(2 ^ 62)<=j/\j<2 ^ 62/\R (xc 0 j.toNat) H1
def TB(ta:TA):TI:=λU H R=>ta U H λvs H1=>∃i j:Int,vs=[.int i,.int j]/\(-(2 ^ 62)<=i/\i<2 ^ 62 /\ -(2 ^ 62)<=j/\j<2 ^ 62)/\R (xc i (j-i).toNat) H1
variable{p:Pos}
theorem MQ{a:Expr}{ta:TA}(i:Qe5)(hm:Qe6)(k:PA X [a] ta)(g:starEach [a] X.env=[(false,eval a X.env)]:=by rfl):PI X tg (.Call QmA [a] [] pos) (TC ta):=by
 intro pins s U H R I h;refine Call_ (qW I i hm boot_range (r8 (cR (k pos pins s U H _ I h) λus s1 zz=>?_) g rfl));obtain⟨vs,H1,l,d,b⟩:=zz;obtain⟨j,e,b,f,q⟩:=b;subst e;cases d with
 | cons r c=>
  cases c;obtain⟨t,rfl⟩:=r;exact call_range_1 (Ed l We We b f WE)
theorem MR{a b:Expr}{ta:TA}(o:Qe5)(hm:Qe6)(u:PA X [a,b] ta)(w:AR X a b:=by rfl)(f:starEach [b] X.env=[(false,eval b X.env)]:=by rfl) :
  PI X tg (.Call QmA [a,b] [] pos) (TB ta):=by
 intro pins s U H R I h;refine Call_ (qW I o hm boot_range (r8 (cR (u pos pins s U H _ I h) λus s1 zz=>?_) WE (by rw[f];rfl)));obtain⟨vs,H1,v,g,d⟩:=zz;obtain⟨i,j,e,⟨d,n,m,l⟩,q⟩:=d;subst e;cases g with
 | cons r c=>
  cases c with
  | cons k c=>
   cases c;obtain⟨t,rfl⟩:=r;obtain⟨t',rfl⟩:=k;exact call_range_2 (Ed v d n m l q)
def OK(b:TI)(g:TG)(tb:TS):TS:=λD U H=>b U H λJ H1=>∃W:Nat->Nat->St->Hp->Prop,(∃m,W 0 m U H1)/\∀i m U H,W i m U H →
 (J.stop i H/\D.nx U H)\/(J.go i H/\∃N:St->Hp->Prop,(∀U' H',N U' H'->∃a,a<m/\W Qai a U' H')/\∀x H',J.Ks i H x H'->g x U H' λc H2=>tb {D with nx:=N,ct:=N,bk:=D.nx} c H2)
noncomputable def xN(fp:BN)(h:Heap):At:=fp.filterMap λb=>(h.get? b).map λo=>(b,o)
def mF{fp:BN}{o:Obj}(hb:b∈fp)(e:h.get? b=some o):(b,o)∈xN fp h:=o7.2 #[b,hb,by rw[e];rfl]
theorem MS{fp:BN}{p:Addr×Obj}(a:p∈xN fp h):p.1∈fp/\h.get? p.1=some p.2:=by
 obtain⟨b,hb,e⟩:=o7.1 a;cases q:h.get? b with
 | none=>rw[q]at e;cases e
 | some o=>
  rw[q]at e;have c:=gv e;subst c;exact#[hb,q]
theorem Inv.pinned{fp:BN}(I:QK)(hf:∀b∈fp,nX X pins H b)(f:∀b∈fp,∃o,s.heap.get? b=some o/\∀v,o.data ≠ .cell v):Inv X (pins++xN fp s.heap) U H s:=
 I.wm λp c=>(eB.1 c).elim (λz=>I.pin p (e4 _ z)) λz=>by
  obtain⟨hb,e⟩:=MS z;obtain⟨f0,f1,f2,_⟩:=hf p.1 hb;obtain⟨o,a,d⟩:=f p.1 hb;rw[e]at a;cases a;exact#[e,f0,f1,f2,d]
theorem Inv.rX{a:At}(I:Inv X (pins++a) U H s):Inv X pins U H s:=I.wm λp b=>I.pin p (e4 _ (e6 _ b))
def abY{iter:Expr}{body:CS}{O:TI}{g:TG}{tb:TS}(z:Qk3)(P:QaH)(hi:PI X tg iter O)(hg:PG X tg g)(hb:Ko X body tb)
  (hs:QaT:=by intro _;rfl):PS X (.For tg iter body [] pos) (OK O g tb):=by
 intro pins s U H D I h;refine wpAny_For (cR Qer λv s1 h1=>cR h1 λaa s2 h2=>?_) hs;obtain⟨it,fp,tn,J,H2,e,I2,T,F,f2,W,⟨m0,w0⟩,turn⟩:=h2;subst e;have j:∀{H':Hp},(∀b∈fp,H' b=none)->∀b∈fp,nX X pins H' b:=λhn b hb=>#[hn b hb,(f2 b hb).2];refine codeAny_forLoop_any (λn s'=>∃i U' H',Inv X pins U' H' s'/\tn i s'.heap/\(∀b∈fp,H' b=none)/\W i n U' H') ?_ m0 #[0,U,H2,I2,F,λb hb=>(f2 b hb).1,w0];rintro n s3 ⟨i,c,C,R,t,B,w3⟩;obtain⟨stop,qn⟩|⟨go,N,hN,step⟩:=turn i n c C w3
 .refine nc z (cR (T.done X rfl rfl rfl P i pins s3 c C X.xe R (j B) t stop) λr s4 zz=>?_);obtain⟨K,I4⟩:=zz;subst K;exact wpAny_execs_nil #[c,C,I4,qn]
 .refine nc z (cR (T.item X rfl rfl rfl P i pins s3 c C X.xe R (j B) t go) λr s4 zz=>?_);obtain⟨u,K,h4⟩:=zz;subst K;refine nc z (cR h4 λ_ s5 zz=>?_);obtain⟨x,S,I5,r5,V,q,L⟩:=zz;have M:=I5.pinned (j L) (T.obj _ _ q);refine nc z (cR (hg _ s5 c S x u _ M r5 (step x S V)) λ_ s6 zz=>?_);obtain⟨E,H6,I6,q6⟩:=zz;refine nc z (cR (hb _ s6 E H6 _ I6 q6) λf G p=>?_);have again:∀{a:St} {l:Hp},Inv X (pins++xN fp s5.heap) a l G->N a l->∃m,m<n/\∃i U' H',Inv X pins U' H' G/\tn i G.heap/\(∀b∈fp,H' b=none)/\W i m U' H':=λ{a l} k y=>by
   obtain⟨m',hm,Z⟩:=hN a l y;refine#[m',hm,i+1,a,l,k.rX,T.keep _ _ _ q λb hb o e=>(k.pin (b,o) Qh7).1,λb hb=>?_,Z];obtain⟨o,e,d⟩:=T.obj _ _ q b hb;exact(k.pin (b,o) Qh7).2.1
  cases f with
  | next=>obtain⟨a,l,k,y⟩:=p;exact again k y
  | cont=>obtain⟨a,l,k,y⟩:=p;exact again k y
  | brk=>obtain⟨a,l,k,p⟩:=p;exact#[a,l,k.rX,p]
  | ret v=>obtain⟨Y,a,l,k,r7,p⟩:=p;exact#[Y,a,l,k.rX,r7,p]
abbrev R2:=V->V->Hp->VK->Prop
def nG(X:Cx)(f:Qtv)(r:R2):Prop:=
 ∀(pins:At) (s:Qb) (U:St) (H:Hp) (x y:V) (v u:Value) (Q:VK),Inv X pins U H s->RelV x v->RelV y u->r x y H Q →
  wpAny QE X.A (f v u) Qbr X.xe s
def zt(X:Cx)(f:Qwu)(r:Qmn):Prop:=
 ∀(pins:At) (s:Qb) (U:St) (H:Hp) (x:V) (v:Value) (Q:VK),Inv X pins U H s->RelV x v->r x H Q →
  wpAny QE X.A (f v) Qbr X.xe s
def jB(X:Cx)(f:Value)(r:Qma):Prop:=
 ∀(pins:At) (s:Qb) (U:St) (H:Hp) (xs:BY) (us:B0) (Q:VK),Inv X pins U H s->Vals xs us->r xs H Q →
  wpAny QE X.A (call f us) Qbr X.xe s
def OH(X:Cx)(r:V->Hp->ET->Prop):Prop:=
 ∀(pins:At) (s:Qb) (U:St) (H:Hp) (x:V) (v:Value) (Q:ET),Inv X pins U H s->RelV x v->r x H Q →
  wpAny QE X.A Qgc QeE X.xe s
noncomputable def tI(r:R2)(ta tb:TE):TE:=λU H Q=>ta U H λx H1=>tb U H1 λy H2=>r x y H2 Q
noncomputable def Mo(r:Qmn)(ta:TE):TE:=λU H Q=>ta U H λx H1=>r x H1 Q
noncomputable def rI(C:QvX)(g:Int->Int->V):R2:=λx y H Q=>∃i j,x=.int i/\y=.int j/\C i j/\Q QdO H
noncomputable def WK(g:Int->Int->V):R2:=λx y H Q=>∃i j,x=.int i/\y=.int j/\Q QdO H
def rU(g:Int->V):V->Hp->VK->Prop:=λx H Q=>∃i,x=.int i/\Q (g i) H
variable{a b:Expr}{ta tb:TE}{f:Qtv}
def ze(k:Qby)(hb:Qc6){R:V->V->Hp->Prop}(I:QK)
  (h:ta U H λx H1=>tb U H1 λy H2=>R x y H2) {Q:BB}
  (hf:∀v u s2 x y H2,Inv X pins U H2 s2->RelV x v->RelV y u->R x y H2->wpAny QE X.A (f v u) Q X.xe s2) :
  wpAny QE X.A (eval a X.env) (λv d=>wpAny QE X.A (eval b X.env) (λu c=>wpAny QE X.A (f v u) Q X.xe c) X.xe d) X.xe s:=by
 refine cR (k pins s U H _ I h) λv s1 zz=>?_;obtain⟨x,H1,m,g,j⟩:=zz;refine cR (hb pins s1 U H1 _ m j) λu s2 zz=>?_;obtain⟨y,H2,l,e,i⟩:=zz;exact hf v u s2 x y H2 l g e i
variable{r:R2}
noncomputable def uZ{op:QjU}(e:Qvx)(f:Qby)(hb:Qc6):PE X (.BinOp a op b pos) Qjd:=λpins s U H Q I h=>wpAny_BinOp Qp1
def Tx{op:UnaryOp}{r:Qmn}(d:zt X (unaryOp op) r)(e:Qby):PE X (.UnaryOp op a pos) (Mo r ta):=λpins s U H Q I h=>UnaryOp_ (cR (e pins s U H _ I h) λv s1 ⟨x,H1,f,b,c⟩=>d pins s1 U H1 x v Q f b c)
def ub{C:QvX}{g:Qm2}
  (rule:∀(i j:Int) (t u:Tok) (s:Qb) (Q:BB) (E:BB),C i j->Q QxY {s with toks:=s.toks+1}->wpAny QE X.A Qlt Q E s) :
  nG X f (rI C λi j=>.int QdO):=by
 intro pins s U H x y v u Q I b a h;obtain⟨i,j,rfl,rfl,c,q⟩:=h;obtain⟨t,rfl⟩:=b;obtain⟨t',rfl⟩:=a;exact rule i j t t' s _ _ c #[.int _,H,I.tok _,#[_,rfl],q]
def Hc{g:Qm2}
  (rule:∀(i j:Int) (t u:Tok) (s:Qb) (Q:BB) (E:BB),Q QxY {s with toks:=s.toks+1}->wpAny QE X.A Qlt Q E s) :
  nG X f (WK λi j=>.int QdO):=by
 intro pins s U H x y v u Q I b a h;obtain⟨i,j,rfl,rfl,q⟩:=h;obtain⟨t,rfl⟩:=b;obtain⟨t',rfl⟩:=a;exact rule i j t t' s _ _ #[.int _,H,I.tok _,#[_,rfl],q]
def W5{g:QvY}
  (rule:∀(i j:Int) (t u:Tok) (s:Qb) (Q:BB) (E:BB),Q (.bool QdO) s->wpAny QE X.A Qlt Q E s) :
  nG X f QxR:=by
 intro pins s U H x y v u Q I b a h;obtain⟨i,j,rfl,rfl,q⟩:=h;obtain⟨t,rfl⟩:=b;obtain⟨t',rfl⟩:=a;exact rule i j t t' s _ _ #[.bl _,H,I,rfl,q]
def Ha(i j:Int):Prop:=0<j/\j<1073741824
def G6(i j:Int):Prop:=0<=j/\j<=1000000/\i.natAbs<2 ^ 64
def W6(i j:Int):Prop:=(-(2 ^ 64)<i/\i<2 ^ 64)\/(-(2 ^ 64)<j/\j<2 ^ 64)
theorem W6.ok{i j:Int}(h:W6 i j):IntMulOk i j:=by
 obtain⟨h1,a⟩|⟨h1,a⟩:=h
 .exact .of_left QuI
 .exact .of_right QuI
def ab0:nG X QeC (WK λi j=>.int (i+j)):=Hc λ_ _ _ _ _ _ _ q=>add_int q
def ab1:nG X (binaryOp .Sub) (WK λi j=>.int (i-j)):=Hc λ_ _ _ _ _ _ _ q=>sub_int q
def ab2:nG X QvZ (rI W6 λi j=>.int (i*j)):=ub λ_ _ _ _ _ _ _ a q=>mul_int q a.ok
theorem W7:nG X (binaryOp .FloorDiv) (rI Ha λi j=>.int (i / j)):=ub λi j _ _ _ _ _ a q=>by
 have h1:=a.1;have b:=a.2;exact floordiv_int We (by rw[Int.fdiv_eq_ediv_of_nonneg i We];exact q) (.inl (PyProof.noPylong_small We))
theorem ab3:nG X (binaryOp .Mod) (rI (λ_ j=>0<j) λi j=>.int (i % j)):=ub λi j _ _ _ _ _ a q=>mod_int' We (by rw[Int.fmod_eq_emod_of_nonneg i We];exact q)
def ab4:nG X (binaryOp .Pow) (rI G6 λi j=>.int (i ^ j.toNat)):=ub λ_ _ _ _ _ _ _ a q=>pow_int_small a.1 a.2.1 a.2.2 q
def Mn{f:Qwu}{g:Int->Int}
  (rule:∀(i:Int) (t:Tok) (s:Qb) (Q:BB) (E:BB),Q (.int (g i) s.toks) {s with toks:=s.toks+1}->wpAny QE X.A (f QlV) Q E s) :
  zt X f (rU λi=>.int (g i)):=by
 intro pins s U H x v Q I a h;obtain⟨i,rfl,q⟩:=h;obtain⟨t,rfl⟩:=a;exact rule i t s _ _ #[.int _,H,I.tok _,#[_,rfl],q]
def ab5:zt X (unaryOp .USub) (rU λi=>.int (-i)):=Mn λ_ _ _ _ _ q=>neg_int q
noncomputable def zr:V->V->Bool
 | .non,.non=>true | .non,.int _=>true | .int _,.non=>true | .non,.bl _=>true | .bl _,.non=>true | .non,.str _=>true | .str _,.non=>true
 | .int _,.int _=>true | .bl _,.bl _=>true | .str _,.str _=>true | .Hl _,.Hl _=>true
 | .int _,.str _=>true | .str _,.int _=>true | .bl _,.str _=>true | .str _,.bl _=>true
 | _,_=>false
def M3:R2:=λx y H Q=>zr x y=true/\Q (.bl (decide (x=y))) H
def M1:R2:=λx y H Q=>zr x y=true/\Q (.bl (!decide (x=y))) H
def Ku{i j:Int}:decide (V.int i=V.int j)=(i==j):=by
 rw[m4];simp
def Q9{i j:Bool}:decide (V.bl i=V.bl j)=(i==j):=by
 rw[m4];simp
def Kv{i j:Str}:decide (V.str i=V.str j)=(i==j):=by
 rw[m4];simp
theorem Kw{i j:Array UInt8}:decide (V.Hl i=V.Hl j)=(i.toList==j.toList):=by
 rw[m4];simp_all
variable{tc:TE}
def b9{Q:VK}{k a:Bool}(I:QK)(q:Q (.bl k) H)(e:k=a):EP X pins U Q (.bool a) s:=by
 subst e;exact#[.bl k,H,I,rfl,q]
theorem Ra:nG X Qwv M3:=by
 intro pins s U H x y v u Q I c a h;obtain⟨b,q⟩:=h;cases x with
 | non=>
  cases c;cases y with
  | non=>cases a;exact PySem.EqNone.eq_none_none QaI
  | bl j=>cases a;exact PySem.EqNone.eq_none_bool QaI
  | int j=>obtain⟨t',rfl⟩:=a;exact PySem.EqNone.eq_none_int QaI
  | str j=>obtain⟨t',rfl⟩:=a;exact PySem.EqNone.eq_none_str QaI
  | _=>exact absurd (show false=true from b) gq
 | bl i=>
  cases c;cases y with
  | non=>cases a;exact PySem.EqNone.eq_bool_none QaI
  | bl j=>cases a;exact eq_bool (b9 I q Q9)
  | str j=>obtain⟨t',rfl⟩:=a;exact PySem.EqMixed.eq_bool_str QaI
  | _=>exact absurd (show false=true from b) gq
 | int i=>
  obtain⟨t,rfl⟩:=c;cases y with
  | non=>cases a;exact PySem.EqNone.eq_int_none QaI
  | int j=>obtain⟨t',rfl⟩:=a;exact eq_int (b9 I q Ku)
  | str j=>obtain⟨t',rfl⟩:=a;exact PySem.EqMixed.eq_int_str QaI
  | _=>exact absurd (show false=true from b) gq
 | str i=>
  obtain⟨t,rfl⟩:=c;cases y with
  | non=>cases a;exact PySem.EqNone.eq_str_none QaI
  | bl j=>cases a;exact PySem.EqMixed.eq_str_bool QaI
  | int j=>obtain⟨t',rfl⟩:=a;exact PySem.EqMixed.eq_str_int QaI
  | str j=>obtain⟨t',rfl⟩:=a;exact eq_str (b9 I q Kv)
  | _=>exact absurd (show false=true from b) gq
 | Hl i=>
  obtain⟨t,rfl⟩:=c;cases y with
  | Hl j=>obtain⟨t',rfl⟩:=a;exact PySem.W.eq_bytes (b9 I q Kw)
  | _=>exact absurd (show false=true from b) gq
 | _=>cases y<;>exact absurd (show false=true from b) gq
theorem Rb:nG X (compareOp .NotEq) M1:=by
 intro pins s U H x y v u Q I c a h;obtain⟨b,q⟩:=h;cases x with
 | non=>
  cases c;cases y with
  | non=>cases a;exact PySem.EqNone.ne_none_none QaI
  | bl j=>cases a;exact PySem.EqNone.ne_none_bool QaI
  | int j=>obtain⟨t',rfl⟩:=a;exact PySem.EqNone.ne_none_int QaI
  | str j=>obtain⟨t',rfl⟩:=a;exact PySem.EqNone.ne_none_str QaI
  | _=>exact absurd (show false=true from b) gq
 | bl i=>
  cases c;cases y with
  | non=>cases a;exact PySem.EqNone.ne_bool_none QaI
  | bl j=>cases a;exact ne_bool (b9 I q (congrArg not Q9))
  | str j=>obtain⟨t',rfl⟩:=a;exact PySem.EqMixed.ne_bool_str QaI
  | _=>exact absurd (show false=true from b) gq
 | int i=>
  obtain⟨t,rfl⟩:=c;cases y with
  | non=>cases a;exact PySem.EqNone.ne_int_none QaI
  | int j=>obtain⟨t',rfl⟩:=a;exact ne_int (b9 I q (congrArg not Ku))
  | str j=>obtain⟨t',rfl⟩:=a;exact PySem.EqMixed.ne_int_str QaI
  | _=>exact absurd (show false=true from b) gq
 | str i=>
  obtain⟨t,rfl⟩:=c;cases y with
  | non=>cases a;exact PySem.EqNone.ne_str_none QaI
  | bl j=>cases a;exact PySem.EqMixed.ne_str_bool QaI
  | int j=>obtain⟨t',rfl⟩:=a;exact PySem.EqMixed.ne_str_int QaI
  | str j=>obtain⟨t',rfl⟩:=a;exact ne_str (b9 I q (congrArg not Kv))
  | _=>exact absurd (show false=true from b) gq
 | Hl i=>
  obtain⟨t,rfl⟩:=c;cases y with
  | Hl j=>obtain⟨t',rfl⟩:=a;exact PySem.W.ne_bytes (b9 I q (congrArg not Kw))
  | _=>exact absurd (show false=true from b) gq
 | _=>cases y<;>exact absurd (show false=true from b) gq
def Kx:nG X (compareOp .Lt) (WK λi j=>.bl (decide (i<j))):=W5 λ_ _ _ _ _ _ _ q=>lt_int q
def Ky:nG X (compareOp .LtE) (WK λi j=>.bl (decide (i<=j))):=W5 λ_ _ _ _ _ _ _ q=>le_int q
def X2:nG X (compareOp .Gt) (WK λi j=>.bl Qns):=W5 λ_ _ _ _ _ _ _ q=>gt_int q
def X1:nG X (compareOp .GtE) (WK λi j=>.bl (decide (j<=i))):=W5 λ_ _ _ _ _ _ _ q=>ge_int q
def MT:nG X Qww (λx y H Q=>∃i j,x=.str i/\y=.str j/\Q (.bl (!(Builtin.Str.occurrences j i 0 j.length 1).isEmpty)) H):=by
 intro pins s U H x y v u Q I b a h;obtain⟨i,j,rfl,rfl,q⟩:=h;obtain⟨t,rfl⟩:=b;obtain⟨t',rfl⟩:=a;exact in_str (b9 I q rfl)
def BL:nG X Qu3 (λx y H Q=>∃i j,x=.str i/\y=.str j/\Q (.bl (!(!(Builtin.Str.occurrences j i 0 j.length 1).isEmpty))) H):=by
 intro pins s U H x y v u Q I b a h;obtain⟨i,j,rfl,rfl,q⟩:=h;obtain⟨t,rfl⟩:=b;obtain⟨t',rfl⟩:=a;exact notIn_str (b9 I q rfl)
variable{op:CmpOp}
theorem jS(b:Expr)(h:op ≠ .In:=by decide)(a:op ≠ .NotIn:=by decide):behindInMarks op b=false:=by
 have e1:(op==CmpOp.In)=false:=by grind
 have e2:QvW=false:=by grind
 cases b<;>simp[behindInMarks,e1,e2]
noncomputable def pP(e:QgG)(f:Qby)(hb:Qc6)(hm:Qh6):PE X QhT Qjd:=λpins s U H Q I h=>wpAny_Compare1 Qp1 hm
noncomputable def JI(t:TE):TT:=λU H Q=>t U H λx H'=>∃k,x=.bl k/\Q k H'
def pQ(m:QgG)(n:Qby)(hb:Qc6)(hm:Qh6):PT X QhT (JI Qjd):=by
 intro pins s U H Q I h;refine wpAny_isTrue_Compare1 (cR (n pins s U H _ I h) λv s1 ⟨x,H1,q,g,l⟩=>cR (hb pins s1 U H1 _ q l) λu s2 ⟨y,H2,p,f,j⟩=>
  cR (m pins s2 U H2 x y v u _ p g f j) λc s3 ⟨z,t,o,d,k,e,i⟩=>?_) hm
 subst e;cases d;exact ky #[t,o,i]
noncomputable def Rc(r c:R2)(ta tb tc:TE):TE:=λU H Q=>ta U H λx H1=>tb U H1 λy H2=>r x y H2 λz a=>∃k,z=.bl k ∧
 (if k=true then tc U a λb d=>c y b d Q else Q Qoe a)
def Rf{f:CmpOp}{i:R2}(C:QgG)(L:Qvy)(E:Qby)(hb:Qc6)(D:PE X c tc)
  (hm:Qun:=by with_unfolding_all rfl):PE X Qss Qv0:=by
 intro pins s U H Q I h;refine Compare_chain (cR (E pins s U H _ I h) λv s1 ⟨x,H1,J,t,B⟩=>chain_link (cR (hb pins s1 U H1 _ J B) λu s2 ⟨y,H2,G,g,A⟩=>
  cR (C pins s2 U H2 x y v u _ G t g A) λd s3 ⟨z,m,l,q,k,e,j⟩=>?_)) hm
 subst e;cases q;refine ky ?_;cases k with
 | false=>exact ite_ff #[.bl _,m,l,rfl,j]
 | true=>exact ite_tt (chain_last (cR (D pins s3 U m _ l j) λo s4 ⟨n,K,F,p,w⟩=>L pins s4 U K y n u o Q F g p w))
def Rg{f:CmpOp}{i:R2}(E:QgG)(R:Qvy)(G:Qby)(hb:Qc6)(F:PE X c tc)
  (hm:Qun:=by with_unfolding_all rfl):PT X Qss (JI Qv0):=by
 intro pins s U H Q I h;refine isTrue_chain (cR (G pins s U H _ I h) λv s1 ⟨x,H1,N,w,D⟩=>test_link (cR (hb pins s1 U H1 _ N D) λu s2 ⟨y,H2,M,g,C⟩=>
  cR (E pins s2 U H2 x y v u _ M w g C) λd s3 ⟨z,m,l,t,k,e,j⟩=>?_)) hm
 subst e;cases t;refine ky ?_;cases k with
 | false=>
  obtain⟨T,J,q'⟩:=j;cases J;exact ite_ff #[m,l,q']
 | true=>
  refine ite_tt (test_last (cR (F pins s3 U m _ l j) λo s4 zz=>?_));obtain⟨n,P,L,q,B⟩:=zz;refine cR (R pins s4 U P y n u o _ L g q B) λV s5 zz=>?_;obtain⟨S,O,K,p,k2,e2,A⟩:=zz;subst e2;cases p;exact ky #[O,K,A]
def HE(K:Frag)(x:V)(H:Hp)(k:Bool):Prop:=
 match x with
 | .non=>k=false
 | .bl b=>k=b
 | .int i=>k=(i != 0)
 | .str y => y.length <= sizeLine /\ k = ((y.length : Int) != 0)
 | .Hl y=>y.size<=sizeLine/\k=((y.size:Int) != 0)
 | .ref p=>(∃xs,mE K H p xs/\k=!xs.isEmpty)\/(∃xs,lK K H p xs/\k=!xs.isEmpty)\/∃aU,H p=some Qcq/\k=!aU.isEmpty
 | _=>False
def Hu{κ:Type}{aU:QbL}{vs:Qe7}(r:QdY):(!vs.isEmpty)=!aU.isEmpty:=by
 cases r<;>rfl
def xO{its:B0}(r:Vals xs its):(!its.toArray.isEmpty)=!xs.isEmpty:=by
 cases r<;>simp
def qY:(sizeLine:Nat)<2 ^ 63:=by decide
theorem ab7:OH X (λx H Q=>∃k,HE X.K x H k/\Q k H):=by
 intro pins s U H x v Q I c h;obtain⟨k,e,q⟩:=h;have o:=qY;have n:sizeLine=16777216:=gc;cases x with
 | non=>
  cases c;have a:k=false:=e;subst a;exact truthy_none #[H,I,q]
 | bl b=>
  cases c;have a:k=b:=e;subst a;exact ky #[H,I,q]
 | int i=>
  obtain⟨t,rfl⟩:=c;have a:k=(i != 0):=e;subst a;exact PySem.P.truthy_int #[H,I,q]
 | str y=>
  obtain⟨t,rfl⟩:=c;obtain⟨j,a⟩:y.length<=sizeLine/\k=((y.length:Int) != 0):=e;subst a;exact PySem.P.truthy_str We #[H,I.tok _,q]
 | Hl y=>
  obtain⟨t,rfl⟩:=c;obtain⟨j,a⟩:y.size<=sizeLine/\k=((y.size:Int) != 0):=e;subst a;exact PySem.W.truthy_bytes We #[H,I.tok _,q]
 | ref p=>
  cases c;have a:(∃xs,mE X.K H p xs/\k=!xs.isEmpty)\/(∃xs,lK X.K H p xs/\k=!xs.isEmpty)\/∃aU,H p=some Qcq/\k=!aU.isEmpty:=e;obtain⟨xs,d,a⟩|⟨xs,d,a⟩|⟨aU,d,a⟩:=a
  .subst a;obtain⟨its,r,f,g⟩:=I.list d;have hlen:=r.length;exact wpAny_truthy_list f.isList (by simp only[sv];lia) #[H,I.tok _,by rw[xO r];exact q]
  .subst a;obtain⟨its,r,f,g⟩:=I.tuple d;have hlen:=r.length;exact truthy_tuple f (by simp only[sv];lia) #[H,I.tok _,by rw[xO r];exact q]
  .subst a;obtain⟨g,l,vs,r,m⟩:aU.length<=sizeLine/\(p==sysModules)=false/\∃vs,KV aU vs/\s.heap.DictOf Qxd p vs:=I.bW p _ d;have hlen:aU.length=vs.length:=Paired.length r;exact wpAny_truthy_dict l m We #[H,I.tok _,by rw[Hu r];exact q]
 | _=>exact(show False from e).elim
def Rh(d:Qby)(he:∀whole,isTrue a X.env whole=(do let v ← whole;standAt a.pos;holding [v] Qgc)) :
  PT X a (λU H Q=>ta U H λx H'=>∃k,HE X.K x H' k/\Q k H'):=λpins s U H Q I h=>isTrue_plain (cR QuG λv s1 ⟨x,H1,e,b,c⟩=>ab7 pins s1 U H1 x v Q e b c) (he _)
def Hv:nG X QeC (λx y H Q=>∃i j,x=.str i/\y=.str j/\i.length+j.length<=sizeLine/\Q (.str (i++j)) H):=by
 intro pins s U H x y v u Q I b a h;obtain⟨i,j,rfl,rfl,c,q⟩:=h;obtain⟨t,rfl⟩:=b;obtain⟨t',rfl⟩:=a;exact add_str (λt' tk=>#[.str _,H,I.tok _,#[_,rfl],q]) c
theorem vals1{x:V}(r:Vals [x] us):∃u,us=[u]/\RelV x u:=by
 cases r with
 | cons b a=>cases a;exact#[_,rfl,b]
theorem vals2{x y:V}(r:Vals [x,y] us):∃u a,us=[u,a]/\RelV x u/\RelV y a:=by
 cases r with
 | cons e d=>
  cases d with
  | cons c b=>cases b;exact#[_,_,rfl,e,c]
def Ri:jB X (.builtin "abs") (λxs H Q=>∃i,xs=[.int i]/\Q QqT H):=by
 intro pins s U H xs us Q I r h;obtain⟨i,rfl,q⟩:=h;obtain⟨u,rfl,t,rfl⟩:=vals1 r;exact call_abs_int λu tk=>#[.int _,H,I.tok _,#[_,rfl],q]
def MV(b:QaH):jB X Qvz (λxs H Q=>∃i j,xs=[.int i,.int j]/\Q QqO H):=by
 intro pins s U H xs us Q I r h;obtain⟨i,j,rfl,q⟩:=h;obtain⟨u,c,rfl,⟨t,rfl⟩,⟨t',rfl⟩⟩:=vals2 r;refine max_two_ints (I.ok.hd b) λh' tk k=>#[_,H,I.kept k,?_,q];by_cases a:j > i
 .rw[ee a,ee a];exact#[_,rfl]
 .rw[cq a,cq a];exact#[_,rfl]
def MX(b:QaH):jB X QvA (λxs H Q=>∃i j,xs=[.int i,.int j]/\Q QqP H):=by
 intro pins s U H xs us Q I r h;obtain⟨i,j,rfl,q⟩:=h;obtain⟨u,c,rfl,⟨t,rfl⟩,⟨t',rfl⟩⟩:=vals2 r;refine min_two_ints (I.ok.hd b) λh' tk k=>#[_,H,I.kept k,?_,q];by_cases a:j<i
 .rw[ee a,ee a];exact#[_,rfl]
 .rw[cq a,cq a];exact#[_,rfl]
def MY:jB X Qnt (λxs H Q=>(∃i,xs=[.int i]/\Q Qa0 H)\/∃k,xs=[.bl k]/\Q (.int (if k then 1 else 0)) H):=by
 intro pins s U H xs us Q I r h;obtain⟨i,rfl,q⟩|⟨k,rfl,q⟩:=h
 .obtain⟨u,rfl,t,rfl⟩:=vals1 r;exact call_int_int #[.int i,H,I,#[_,rfl],q]
 .obtain⟨u,rfl,a⟩:=vals1 r;cases a;exact call_int_bool #[.int _,H,I.tok _,#[_,rfl],q]
def BO:jB X Qxe (λxs H Q=>∃i,xs=[.int i]/\i.natAbs.log2<1920/\Q Qyc H):=by
 intro pins s U H xs us Q I r h;obtain⟨i,rfl,a,q⟩:=h;obtain⟨u,rfl,t,rfl⟩:=vals1 r;exact PySem.P.str_of_int a #[.str _,H,I.tok _,#[_,rfl],q]
structure MZ(h:Heap)(x dx C:Addr)(mA:BS):Prop where
 obj:h.get? x=some Qnr
 ns:h.Ns1 dx mA
 ne:dx≠x
variable{dx:Addr}
theorem AO{mA:BS}(n:h.Ns1 dx mA):∃od,h.get? dx=some od/\∀name,lookIn name od=some (mA name):=by
 obtain⟨o,es,ep,d,hd,f,_,hm⟩:=n;refine#[o,d,λname=>?_];have e:=hm name;unfold nsFind findBy at e;rw[<- Array.find?_toList]at e;unfold lookIn;rw[hd];dsimp;split
 .simp_all
 .have a:es.toList.any (·.refKey)=false:=by
   rw[u6];intro y c;obtain⟨z,t,b⟩:=f y (Array.mem_toList_iff.1 c);simp[DictEntry.refKey,b]
  have g:¬ es.toList.any (·.refKey)=true:=by rw[a];simp_all
  rw[cq g];simp_all
variable{C:Addr}
theorem MZ.look{mA:BS}(I:MZ h x dx C mA):∃od,PySem.W.InstAt h x Qnr C (some od)/\∀name,lookIn name od=some (mA name):=
 let ⟨od,a,b⟩:=AO I.ns
 #[od,#[I.obj,rfl,rfl,a],b]
variable{prog:Q2}{f:Addr}{mA:BS}{name:Str}{v:Value}
def get_map{expr:Bool}{Q:BB}(X:QdZ)(I:Qv1)(d:plainGet K C name=true)(c:hasDictIn K C=true)
  (e:findIn K QU name=some none) (hv:mA name=some v) (a:handedIn v=true) (h:Q v {s with toks:=s.toks+1}) :
  wpAny Qab A (getAttr Qa9 name expr) Q E s:=by
 obtain⟨od,J,b⟩:=I.look;exact PySem.W.get_value X J (PySem.W.plainGet_of d).1 (PySem.W.findObj_own c e rfl (by rw[b,hv])) a h
theorem W8{ns:AT}(X:QdZ)(I:Qv1)
  (k:QqK) (l:plainOver K C=true) (j:takerIn K C name=some none) (m:hasDictIn K C=true)
  (hw:PySem.Within mA ns) (hsz:Qwx)
  (h:∀h',MZ h' x dx C (λy=>if y=name then some v else mA y)->Heap.SameBut dx s.heap h'->Q () {s with heap:=h',toks:=s.toks+2}) :
  wpAny Qab A (setAttr Qa9 name v) Q E s:=by
 obtain⟨od,J,r⟩:=I.look;refine PySem.W.set_plain X J k (PySem.W.osa_open X J l j λb=>?_);obtain⟨cd,n,e⟩:=PySem.W.any_some m;have i:=I.obj;refine eh (fo (eh (eh (wpAny_loadPart i (eh (PySem.W.Looks.here (PySem.W.looks_clsIn X n) ?_))))));rw[e];refine fo (eh (fo (eh ?_)));refine wpAny_nsSet1 I.ns λh' a g=>?_;obtain⟨q,o,p,c,d,f⟩:=a.count (PySem.Within.cons name v hw);refine eh (wpAny_lookBehind c (d▸pastItsLine_dict (gr f WF)) ?_);exact fo (h _ #[(g.2 _ (i8 I.ne)).trans I.obj,a,I.ne] g)
abbrev _root_.Db:=List (Str×Value)
noncomputable def Rj{R:Qh8}{vs:B0}{kw:Db}(X:QdZ)(hm:makesIn K C=true)
  (hi:findIn K QU "__init__" = some QcN) (hf:typeIn K Qaq=some (.type "function"))
  (h:codeAny Qab (A.under (.builtin "type.__call__" #[.ref C::vs,kw])) (.call Qaq #[.ref QcH::vs,kw]) (PySem.W.InitBack QcH R)
   {s with heap:=(s.heap.push emptyDict).push Qsl}) :
  codeAny Qab A (.call QU #[vs,kw]) R s:=PySem.W.make_core (PySem.W.makes_of X hm) (PySem.W.looks_findIn X hi) (λself=>PySem.W.bind_fn X self hf) Qay h
noncomputable def kU(f:Str)(v:V):CA->CA
 | []=>[(f,v)]
 | (g,x)::r=>if g=f then(g,v)::r else(g,x)::kU f v r
theorem u9(f g:Str)(v:V):∀fs:CA,(kU f v fs).lookup g=if g=f then some v else fs.lookup g
 | []=>by
  show List.lookup g [(f,v)]=_;by_cases h:g=f
  .have hb:=ip.2 h;simp[List.lookup,hb,ee h]
  .have hb:=kP.2 h;simp[List.lookup,hb,cq h]
 | (k,x)::r=>by
  have b:=u9 f g v r;rw[show kU f v _=(if k=f then(k,v)::r else(k,x)::kU f v r) from rfl];by_cases a:k=f
  .rw[ee a];by_cases h:g=k
   .have hb:=ip.2 h;simp[List.lookup,hb,ee (h.trans a)]
   .have hb:=kP.2 h;simp[List.lookup,hb,cq (λe:g=f=>h (e.trans a.symm))]
  .rw[cq a];by_cases h:g=k
   .simp_all
   .have hb:=kP.2 h;simp[List.lookup,hb];exact b
theorem tU(f:Str)(v:V):∀fs:CA,f∈(kU f v fs).map (·.1)/\∀g,g∈fs.map (·.1)->g∈(kU f v fs).map (·.1)
 | []=>#[by simp[kU],λg h=>by simp at h]
 | (k,x)::r=>by
  obtain⟨i1,i2⟩:=tU f v r;rw[show kU f v _=(if k=f then(k,v)::r else(k,x)::kU f v r) from rfl];grind
theorem vd(f:Str)(v:V):∀fs:CA,(kU f v fs).length<=fs.length+1
 | []=>by simp[kU]
 | (k,x)::r=>by
  have a:=vd f v r;rw[show kU f v _=(if k=f then(k,v)::r else(k,x)::kU f v r) from rfl];grind
theorem tS.some_of{v:V}{o:Do}(r:tS Qa1 o):∃u,o=some u/\RelV v u:=by
 cases o with
 | none=>exact(r).elim
 | some u=>exact#[u,rfl,r]
theorem AQ{v:V}(r:Qcw):handedIn u=true:=by
 cases v with
 | non=>cases (r);rfl
 | bl b=>cases (r);rfl
 | int i=>obtain⟨t,e⟩:=(r);cases e;rfl
 | str x=>obtain⟨t,e⟩:=(r);cases e;rfl
 | Hl b=>obtain⟨t,e⟩:=(r);cases e;rfl
 | flt b=>obtain⟨t,e⟩:=(r);cases e;rfl
 | ref a=>cases (r);rfl
 | ty n=>cases (r);rfl
variable{a:Addr}{fs:CA}
def Kz(bW:Qbk)(e:Qn1):∃mA,MZ h a dx C mA/\(∀f,tS QnD (mA f))/\PySem.Within mA (fs.map (·.1))/\fs.length<=1000/\H dx=some Qgk:=by
 obtain⟨d,z,ne,b,mA,n,r,q⟩:=(bW a _ e);exact#[mA,#[b,n,ne],r,q,z,d]
structure Hw(K:Frag)(C:Addr):Prop where
 pg:plainGet K C Str.empty=true
 hd:hasDictIn K C=true
 po:plainOver K C=true
 sa:findIn K QU "__setattr__" = some (some Qhp)
theorem Hw.get(c:Hw K C)(f:Str):plainGet K C f=true:=c.pg
def cu(K:Frag)(C:Addr)(f:Str):Prop:=findIn K QU f=some none
theorem cu.X0{f:Str}(n:cu K C f):takerIn K C f=some none:=by
 unfold takerIn;rw[n];rfl
structure Meth(K:Frag)(C:Addr)(m:Str)(f:Addr):Prop where
 at_:findIn K QU m=some QcN
 fn:isFn K Qaq=true
 kp:keepIn K Qaq=true
variable{f:Str}{v:V}
def Hx{b:Bool}{Q:BB}(I:QK)(e:Qn1)(c:Hw X.K C)(n:Qo3)(l:fs.lookup f=some v)
  (h:∀u s',Inv X pins U H s'->RelV v u->Q u s'):wpAny QE A (getAttr Qah f b) Q E s:=by
 obtain⟨mA,O,r,_,_,_⟩:=Kz I.bW e;obtain⟨u,g,d⟩:=tS.some_of (l▸r f);exact get_map I.lJ O (c.get f) c.hd n g (AQ d) (h u _ QdH d)
theorem Hy{y:V}(I:QK)(e:Qn1)(c:Hw X.K C)(n:Qo3)(v:fs.length<1000)(l:Qbz)
  (h:∀s',Inv X pins U (upd H a Qt6) s'->Q () s'):wpAny QE A (setAttr Qah f u) Q E s:=by
 obtain⟨mA,O,r,i,_,j⟩:=Kz I.bW e;have m:(fs.map (·.1)).length<=sizeLine:=by rw[ed,gc];lia
 refine W8 I.lJ O c.sa c.po n.X0 c.hd i m λh' d k=>h _ ?_;have hd:∃o,h'.get? dx=some o:=let ⟨o,_,_,t,_⟩:=d.ns;#[o,t];refine I.write (e▸True.intro) (.inr j) (λb q hb z=>(k.2 b hb).trans z) hd ?_;refine#[ aB O.ne▸j,?_,O.ne,d.obj,_,d.ns,λg=>?_,λg p=>?_]
 .have:=vd f y fs;lia
 .rw[u9];by_cases q:g=f
  .rw[ee q,ee q];exact l
  simp_all
 .by_cases q:g=f
  .rw[q];exact(tU f y fs).1
  .refine(tU f y fs).2 g (i g λz=>p ?_);grind
theorem Inv.made(I:QK):Inv X pins U (upd (upd H s.heap.objs.size (.own QcH)) QcH (.ins C s.heap.objs.size []))
  {s with heap:=(s.heap.push emptyDict).push Qsl}:=by
 have e1:(s.heap.push _).get? _=some emptyDict:=hX _ rfl;have e2:=by
  have:=hX (s.heap.push emptyDict) (o:=instObj C s.heap.objs.size) rfl
  rwa [Heap.size_push]at this
 have e3:(s.heap.push _).Ns _ _:=#[ _,#[],_,e1,rfl,(λe he=>absurd he WA),λ_=>rfl];have c:=I.laid (o:=.own QcH) (t':=s.toks) Quo (eA _) #[_,e1];refine c.laid Quo (Nat.le_of_eq (Heap.size_push _ _)) ?_;have ne:s.heap.objs.size≠s.heap.objs.size+1:=hB (l6 _);refine#[by rw[aB ne,aR],fT _,ne,e2,_,(Heap.Ns1.of_empty e3).at λo q=>f7 _ q,λ_=>True.intro,λy a=>absurd rfl a]
noncomputable def KC{env:Env}{e:Expr}{Q:BB}(hb:attributeBase e f env (eval e env)=eval e env)
  (h:wpAny Qab A (eval e env) (λo a=>wpAny Qab A (getAttr o f true) Q E a) E s):wpAny Qab A (eval QfA env) Q E s:=
 Attribute_any_ h (by rw[arm_eval_Attribute,hb])
def RI(K:Frag)(ta:TE)(f:Str):TE:=λU H Q=>ta U H λx H1=>∃a C dx fs v,x=.ref a/\H1 a=some Qlk/\Hw K C/\cu K C f/\fs.lookup f=some v/\Q v H1
def RF(K:Frag)(ta tv:TE)(f:Str):TS:=λD U H=>tv U H λy H1=>ta U H1 λx H2=>∃a C dx fs,x=.ref a/\H2 a=some Qlk/\Hw K C/\cu K C f/\fs.length<1000 ∧
 D.nx U (upd H2 a Qt6)
variable{o e value:Expr}{pos':Pos}{tv:TE}
def Rk(he:PE X e ta)(hb:QjV):PE X QfA (RI X.K ta f):=by
 intro pins s U H Q I h;refine KC hb (cR Qdk λu s1 zz=>?_);obtain⟨x,H1,j,b,a,C,dx,fs,v,ex,g,c,n,l,q⟩:=zz;subst ex;obtain rfl:u=Value.ref a:=b;exact Hx j g c n l λk s2 i d=>#[v,H1,i,d,q]
def ab9(i:PE X o ta)(hv:PE X value tv)(g:swapsWith value (some (.Attribute o f pos')) pos.line X.env=pure false):PS X (.Assign [.Attribute o f pos'] value pos) (RF X.K ta tv f):=by
 intro pins s U H D I h;refine plainObj_wpAny_Assign_Attribute (cR Qup λu s1 zz=>?_) g;obtain⟨y,H1,p,b,q⟩:=zz;refine cR (i pins s1 U H1 _ p q) λov s2 zz=>?_;obtain⟨x,H2,m,d,a,C,dx,fs,ex,j,c,n,l,e⟩:=zz;subst ex;obtain rfl:ov=Value.ref a:=d;exact Hy m j c n l b λs3 k=>#[U,_,k,e]
structure dJ(k:Nat)(A:Qaj):Prop where
 hd:A.handled=none
 dp:A.depth+3*k+5<recursionLimit
 un:A.units+16*k+200<cLine
theorem dJ.mono{j:Nat}(r:dJ k A)(h:j<=k):dJ j A:=#[r.hd,by have:=r.dp;lia,by have:=r.un;lia]
theorem dJ.deeper(r:dJ Qaf A)(env:Env):dJ k (A.deeper env):=
 #[r.hd,by have:=r.dp;show A.depth+1+3*k+5<_;lia,by have:=r.un;show A.units+3+16*k+200<_;lia]
def Hz{kw:Db}:(A.under Qkg).depth=A.depth+1:=rfl
def HB{kw:Db}:(A.under Qkg).units=A.units+1:=rfl
theorem dJ.make(r:dJ Qaf A)(C:Addr)(us:B0)(kw:Db):dJ k Qv2:=
 #[r.hd,by have:=r.dp;rw[Hz];lia,by have:=r.un;rw[HB];lia]
theorem dJ.depth(r:dJ k A):A.depth<recursionLimit:=by have:=r.dp;lia
theorem dJ.units(r:dJ k A):A.units+64<cLine:=by have:=r.un;lia
noncomputable def HA:TA:=λ_ H Q=>Q [] H
noncomputable def XX(ta:TE)(tr:TA):TA:=λU H Q=>ta U H λx H1=>tr U H1 λxs H2=>Q (x::xs) H2
variable{t:TA}
noncomputable def cQ:PA X [] HA:=λ_ _ _ _ H Q I h=>Calls.spliced_nil #[[],H,I,.nil,h]
def bI(i:Qc7)(g:PA X es t)(f:Qax:=by rfl):PA X Qau (XX te t):=by
 intro pos pins s U H Q I h;rw[f];show wpAny _ _ (spliced ((false,eval e _)::backTo pos _)) _ _ s;refine Calls.spliced_cons (cR Ql0 λu s1 zz=>?_);obtain⟨x,H1,k,b,d⟩:=zz;refine cR (g pos pins s1 U H1 _ k d) λus s2 zz=>?_;obtain⟨xs,H2,j,a,c⟩:=zz;exact#[ _,H2,j,.cons b a,c]
def RE(t:TA):TE:=λU H Q=>t U H λxs H1=>xs.length<=sizeLine/\∀p,H1 p=none->Q Qbi (upd H1 p Qa2)
def Rq(t:TA):TE:=λU H Q=>t U H λxs H1=>xs.length<=sizeLine/\∀p,H1 p=none->Q Qbi (upd H1 p QbJ)
def acd{x1}(h:PA X es t):PE X (.Tuple es x1 pos) (RE t):=by
 intro pins s U H Q I c;refine wpAny_Tuple_spliced (cR Qtw λus s1 zz=>?_);obtain⟨xs,H1,a,r,z,q⟩:=zz;refine#[ r.length▸z,?_];have hf:=a.bW.fresh (eA _);refine#[.ref _,_,a.laid QfC (eA _) ?_,rfl,q _ hf];exact#[z,us,r,#[_,hX _ rfl,rfl,_,rfl]]
def ace(h:PA X es t):PE X Qnu (Rq t):=by
 intro pins s U H Q I c;refine wpAny_List_spliced (cR Qtw λus s1 zz=>?_);obtain⟨xs,H1,a,r,z,q⟩:=zz;refine#[ r.length▸z,?_];have hf:=a.bW.fresh (eA _);refine#[.ref _,_,a.laid QfC (eA _) ?_,rfl,q _ hf];exact#[z,us,0,r,hX _ rfl]
abbrev Sp:=BY->Hp->VK->XK->Prop
abbrev M0:=Co->Hp->Shared->XK->Value->Shared->Prop
structure HC(P:Q2)(w:World)(K:Frag)(mg:BS)(base:Heap)(A:Qaj)(outer:Co)(s:Qb)(H:Hp):Prop where
 frames:A.frames=some outer
 mod:Mod K mg base
 bs:∀b o,base.get? b=some o->s.heap.get? b=some o/\H b=none
 QY:base.objs.size<=s.heap.objs.size
 rR:s.heap.FunFrames base outer
 WH:∀b∈nF outer,H b=none
 bW:nU P w H s.heap
 bare:AllBare s.gens
def CE(outer:Co)(P:Q2)(w:World)(H:Hp)(s:Qb)(Q:VK)(u:Value)(s':Qb):Prop:=
 ∃v H',s'.os=s.os/\AllBare s'.gens/\Un (nF outer) [] H H' s.heap s'.heap/\nU P w H' s'.heap/\RelV v u/\Q v H'
def CR(CX:M0)(outer:Co)(P:Q2)(w:World)(H:Hp)(s:Qb)(Q:VK)(E:XK)(r:Result)(s':Qb):Prop:=
 match r with
 | .ok (.ret u)=>CE outer P w H s Q u s'
 | .ok _=>False
 | .error e=>CX outer H s E e s'
structure eX(P:Q2)(w:World)(K:Frag)(mg:BS)(base:Heap)(CX:M0)(k:Nat)(f:Addr)(fd:QaG)(ps:AT)(sp:Sp):Prop where
 len:∀vs H Q E,sp vs H Q E->vs.length=ps.length
 run:∀(A:Qaj) (outer:Co) (s:Qb) (H:Hp) (args:Args) (us:B0) (vs:BY) (Q:VK) (E:XK),dJ k A->HC P w K mg base A outer s H->BindsTo s fd args QcS->Vals vs us->sp vs H Q E →
  codeAny QcT A (.call Qaq args) (CR CX outer P w H s Q E) s
variable{mg:BS}{base:Heap}{CX:M0}{ps:AT}
theorem eX.imp{f:Addr}{fd:QaG}{sp a:Sp}(F:eX P w K mg base CX k f fd ps sp)
  (h:∀vs H Q E,a vs H Q E->sp vs H Q E):eX P w K mg base CX k f fd ps a:=
 #[λvs H Q E q=>F.len vs H Q E (h _ _ _ _ q),λA outer s H args us vs Q E c he hb hv b=>F.run A _ s H args us vs Q E c he hb hv (h _ _ _ _ b)]
theorem HC.make{outer:Co}(e:QsO)(C:Addr)(us:B0)(kw:Db) :
  HC P w K mg base Qv2 outer s H:=#[by first|exact e.frames|(simpa using e.frames),e.mod,e.bs,e.QY,e.rR,e.WH,e.bW,e.bare]
variable{s':Qb}
theorem Inv.W9(I:QK):HC X.prog X.w X.K X.mg X.base X.A X.stack s H:=
 #[I.ok.frames,I.ok.mod,I.bs,gr I.ok.QY I.sz,I.stack,I.rS,I.bW,I.bare]
theorem Inv.after{Q:VK}(I:QK)(h:CE X.stack X.prog X.w H s Q u s'):EP X pins U Q u s':=by
 obtain⟨v,H',os,bare,un,bW,r,q⟩:=h;obtain⟨c,g,d,t,a⟩:=s';obtain rfl:a=s.os:=os;exact#[v,H',I.call un bW bare (λb z=>absurd z WA),r,q]
noncomputable def KJ(sp:Sp)(HD:BY)(E:XK)(t:TA):TE:=λU H Q=>t U H λvs H1=>sp Qjs H1 Q E
def XT(C:Addr)(sp:Sp)(HD:BY)(E:XK)(t:TA):TE:=λU H Q=>t U H λvs H1=>∀x dx,H1 x=none->H1 dx=none->dx≠x →
 sp Qyd (upd (upd H1 dx Qf9) x (.ins C dx [])) QrI E
def Binds(K:Frag)(fd:QaG)(ps:AT)(ds:B0):Prop:=
 ∀(s:Qb) (us:B0),K.In s.heap->(us++ds).length=ps.length->BindsTo s fd #[us,[]] (ps.zip (us++ds))
theorem Binds.all{fd:QaG}(h:∀us:B0,us.length=ps.length->bindArgs fd #[us,[]]=pure QcS):Binds K fd ps []:=λs us _ a=>by
 rw[f6]at a ⊢;exact .of_eq (h us a)
def Passes(CX:M0)(X:Cx)(E:XK):Prop:=∀(pins:At) (U:St) (H:Hp) (s:Qb) (e:Value) (s':Qb),Inv X pins U H s->CX X.stack H s E e s'->X.xe e s'
section
variable{f:Addr}{fd:QaG}{sp:Sp}{HD:BY}{ds:B0}{E:XK}{x:Str}
def Rl{Q:VK}{vs:BY}(F:Qfo)(d:Qcx)(hb:QgH)(hd:QgI)(c:QgJ)
  (I:QK) (r:Qo4) (h:sp Qjs H Q E):wpAny QE X.A (call Qaq us) Qbr X.xe s:=by
 have b:=r.append hd;have g:=b.length▸F.len _ _ _ _ h;refine kq (mN (F.run X.A _ s H _ _ _ Q E d I.W9 (hb s us I.lJ g) b h) λr s' a=>?_);cases r with
 | error e=>exact c pins U H s e s' I a
 | ok fl=>
  cases fl with
  | ret u=>exact I.after a
  | next=>exact False.elim a
  | brk=>exact False.elim a
  | cont=>exact False.elim a
def wC(F:Qfo)(d:Qcx)(i:Qad)(hm:Qd0)(g:Qd1)(hb:QgH)(hd:QgI)(c:QgJ)
  (j:QgK) (b:AD x:=by decide) (he:Qax:=by rfl) (hpl:QaU:=by rfl) :
  PE X Qhy (KJ sp HD E t):=by
 intro pins s U H Q I h;refine nt (iC I i hm ?_ b);refine we I.ok.mod.WG g (cR (j pos pins s U H _ I h) λus s1 zz=>?_) he hpl;obtain⟨vs,H1,a,r,q⟩:=zz;refine#[a.lJ,?_];exact Rl F d hb hd c a r q
def Rm(F:Qfo)(c:Qcx)(e:Qad)(hm:Qd0)(d:Qd1)(hb:QgH)(hd:QgI)(b:QgJ)
  (a:AD x:=by decide):PE X (.Call (.Name x p) [] [] pos) (KJ sp HD E HA):=by
 intro pins s U H Q I h;refine nt (iC I e hm ?_ a);exact PySem.W.callWith_K0 I.lJ d (Rl F c hb hd b I .nil h)
structure Mk(K:Frag)(C f:Addr):Prop where
 makes:makesIn K C=true
 init:findIn K QU "__init__" = some QcN
 fn:isFn K Qaq=true
 kp:keepIn K QU=true
def Rn{Q:VK}{vs:BY}(M:Mk X.K C f)(F:Qfo)(l:Qi9)(hb:QgH)(hd:QgI)
  (j:QgJ) (I:QK) (r:Qo4)
  (h:∀x dx,H x=none->H dx=none->dx≠x->sp Qyd (upd (upd H dx Qf9) x (.ins C dx [])) QrI E) :
  wpAny QE X.A (call QU us) Qbr X.xe s:=by
 have d:=h _ _ (I.bW.fresh (kv _)) Qdo (hB (l6 _));have b:=Inv.made (C:=C) I;have c:Vals (V.ref QcH::Qjs) _:=.cons rfl (r.append hd);have m:=by
  have e:=c.length;rw[F.len _ _ _ _ d]at e;exact e.symm
 refine kq (Rj I.lJ M.makes M.init (ip.1 M.fn) (mN (F.run _ _ _ _ _ _ _ _ E (l.make C us [])
  (b.W9.make C us []) (hb _ _ b.lJ m) c d) λr s' a=>?_))
 cases r with
 | error e=>exact j pins U _ _ e s' b a
 | ok fl=>
  cases fl with
  | ret u=>
   obtain⟨v,H',n,g,ev,i⟩:=b.after a;subst ev;exact#[g,#[V.ref _,H',n,rfl,i]]
  | next=>exact False.elim a
  | brk=>exact False.elim a
  | cont=>exact False.elim a
def KD(M:Mk X.K C f)(F:Qfo)(d:Qi9)(g:Qad)(hm:Qnv)(hb:QgH)(hd:QgI)(c:QgJ)
  (i:QgK) (b:AD x:=by decide) (he:Qax:=by rfl) (hpl:QaU:=by rfl) :
  PE X Qhy (XT C sp HD E t):=by
 intro pins s U H Q I h;refine nt (iC I g hm ?_ b);refine we I.ok.mod.WG M.kp (cR (i pos pins s U H _ I h) λus s1 zz=>?_) he hpl;obtain⟨vs,H1,a,r,q⟩:=zz;refine#[a.lJ,?_];exact Rn M F d hb hd c a r q
end
structure cX(N P:AT)(sc:Scope):Prop where
 kind:sc.kind=.function
 co:sc.isCoroutine=false
 gen:sc.isGenerator=false
 nd:N.Nodup
 pre:N.take P.length=P
 par:∀x∈P,sc.names.lookup x=some .local\/sc.names.lookup x=some .cell
 acf:∀y∈sc.names,y.2 ≠ .free
theorem AU{kindOf:Qid}{x:Str}:∀{binds:Db} {m:BS},(∀v,(x,v)∉binds)->bindL kindOf binds m x=m x
 | [],_,_=>rfl
 | (n,v)::r,m,h=>by
  unfold bindL;rw[AU λw hw=>h w Qo5];split
  .have:x≠n:=by rintro rfl;exact h v eu
   simp[this]
  .rfl
theorem AV{kindOf:Qid}{x:Str}:∀{binds:Db} {m:BS},(∀v,(x,v)∉binds)->bindC kindOf binds m x=m x
 | [],_,_=>rfl
 | (n,v)::r,m,h=>by
  unfold bindC;rw[AV λw hw=>h w Qo5];split
  .rfl
  .have:x≠n:=by rintro rfl;exact h v eu
   simp[this]
theorem AW{kindOf:Qid}{x:Str}{v:Value}:∀{P:AT} {vs:B0} {i:Nat} {m:BS},P.Nodup->P[i]? = some x->vs[i]? = some v->kindOf x=some .local →
  bindL kindOf (P.zip vs) m x=some v
 | [],_,_,_,_,h,_,_=>by simp at h
 | _::_,[],_,_,_,_,h,_=>by simp at h
 | p::P,w::vs,0,m,nd,h1,b,a=>by
  simp at h1 b;subst h1;subst b;show bindL _ ((p,w)::P.zip vs) m p=_;unfold bindL;rw[AU λv hv=>(iu.1 nd).1 (List.of_mem_zip hv).1,ee a];simp
 | p::P,w::vs,i+1,m,nd,h1,b,a=>by
  unfold bindL;exact AW (iu.1 nd).2 (‹_›) (‹_›) a
theorem AX{kindOf:Qid}{x:Str}{v:Value}:∀{P:AT} {vs:B0} {i:Nat} {m:BS},P.Nodup->P[i]? = some x->vs[i]? = some v->kindOf x≠some .local →
  bindC kindOf (P.zip vs) m x=some v
 | [],_,_,_,_,h,_,_=>by simp at h
 | _::_,[],_,_,_,_,h,_=>by simp at h
 | p::P,w::vs,0,m,nd,h1,b,a=>by
  simp at h1 b;subst h1;subst b;show bindC _ ((p,w)::P.zip vs) m p=_;unfold bindC;rw[AV λv hv=>(iu.1 nd).1 (List.of_mem_zip hv).1,cq a];simp
 | p::P,w::vs,i+1,m,nd,h1,b,a=>by
  unfold bindC;exact AX (iu.1 nd).2 (‹_›) (‹_›) a
noncomputable def start(N:AT)(vs:BY):St:=vs.map some++List.replicate (N.length-vs.length) none
def kE(CX:M0)(P:Q2)(w:World)(K:Frag)(mg:BS)(base:Heap)(N:AT)(qual:Str)(scope:Scope)(f:Addr)(cd:Value)(A:Qaj)(outer:Co)(s:Qb)(H:Hp)(E:XK):Cx where
 prog:=P
 w:=w
 K:=K
 mg:=mg
 base:=base
 A:=A.deeper Qkv
 N:=N
 eI:=s
 iB:=H
 env:=envOfC qual scope s.heap.objs.size f cd
 outer:=outer
 stack:=envOfC qual scope s.heap.objs.size f cd::outer
 ex:=[]
 calm:=true
 fn:=λ_=>true
 pn:=[]
 xe:=λe s'=>wpAny QcT (A.deeper Qkv) (leaving Qkv e) (λ_ a=>CX outer H s E e a) (λb a=>CX outer H s E b a) s'
def Ef{sc:Scope}{n:Nat}{x:Str}(h:sc.names.lookup x=some .cell):∃c,(cellsFrom n sc.names []).lookup x=some c:=by
 have q:=cellsFrom_some _ n [] Qe0;exact Option.isSome_iff_exists.1 q
theorem M4{N:AT}{qual:Str}{scope:Scope}{f:Addr}{cd:Value}{outer:Co}{s1:Qb}{E:XK}{vs:BY}
  (S:cX N ps scope) (hd:QnO) (e0:QsO) (C:vs.length=ps.length) (r:Qo4)
  (x:InCallC s s.heap.objs.size (bindL (envOfC qual scope s.heap.objs.size f cd).kindOf QcS λ_=>none) (cellsFrom QcH scope.names []) (bindC (envOfC qual scope s.heap.objs.size f cd).kindOf QcS λ_=>none) s1) :
  Inv (kE CX P w K mg base N qual scope f cd A outer s H E) [] (start N vs) H s1:=by
 have hpl:ps.length<=N.length:=by have:=congrArg List.length S.pre;rw[hO]at this;lia
 obtain⟨h1,tk,rfl,o⟩:=x.done;have d:∀b:Addr,b∉(kE CX P w K mg base N qual scope f cd A outer s H E).ex:=λb z=>absurd (show b∈([]:BN) from z) WA;refine#[#[e0.mod,S.kind,rfl,rfl,eA _,λy z c h1 a=>?_,λy j=>?_,λy c _ h=>?_,λ_=>hd,Around.frames_deeper e0.frames,.inr #[rfl,rfl],λb z=>absurd z (d b),e0.bs,e0.QY,λb _ _=>d b,λb z=>absurd z (d b),e0.rR,e0.WH],
  rfl,e0.bare,Un.kept o,#[_,x.toInCall.ns,λi y v h1 a D=>?_],λy c h=>#[_,x.cell y c h],e0.bW.fresh (eA _),λy c h=>?_,λp l=>absurd (show p∈([]:At) from l) WA,e0.bW.kept o,?_]
 .exact name_of_addr x.apart (nv h1) (nv a)
 .obtain j|j:=j
  .exact Ef j
  .exact absurd rfl (S.acf _ (nv j))
 .exact gz QuJ
 .have hi:i<vs.length:=by
   unfold start at a;by_cases hi:i<vs.length
   .exact hi
   .rw[List.getElem?_append_right (by simpa using hi)]at a;rw[List.getElem?_replicate]at a;split at a<;>cases a
  have B:vs[i]? = some v:=by
   unfold start at a;rw[List.getElem?_append_left (by simpa using hi),List.getElem?_map]at a;simp_all
  obtain⟨u,m,t⟩:=r.get B;have l:ps[i]? = some y:=by
   rw[<- S.pre,vi We];exact h1
  have g:ps.Nodup:=by rw[<- S.pre];exact S.nd.sublist (List.take_sublist _ _)
  refine#[u,t,?_];obtain k|k:=S.par y (ff l)
  .exact .inl #[k,AW g l m k]
  .obtain⟨c,e⟩:=Ef (n:=s.heap.objs.size+1) k;refine .inr #[.inl k,c,e,?_];have q:=x.cell y c e;rw[AX g l m (by show scope.names.lookup y≠_;rw[k];decide)]at q;exact q
 .exact e0.bW.fresh (gz QuJ)
 .unfold start;show _=N.length;grind
abbrev _root_.Cc:=Array Do
theorem Rp{f:Addr}{qual:Str}{params:Arguments}{body:CS}{scope:Scope}{dV kV doc pm dO ct oc:Value}{an od:Bi}
  {BP:Cc} {N:AT} {sp:Sp} (lk:K.lookup f=some #[oc,od,.func Qqc,BP]) (iM:Qmo) (S:cX N ps scope)
  (len:∀vs H Q E,sp vs H Q E->vs.length=ps.length)
  (p:∀(A:Qaj) (outer:Co) (s:Qb) (H:Hp) (vs:BY) (Q:VK) (E:XK),dJ k (A.deeper (envOfC qual scope s.heap.objs.size f dO))->sp vs H Q E →
   ∃t,Ko (kE CX P w K mg base N qual scope f dO A outer s H E) body t/\t {nx:=λ_ H'=>Q .non H',rt:=Q} (start N vs) H) :
  eX P w K mg base CX Qaf f Qqc ps sp:=by
 refine#[len,λA outer s H args us vs Q E d e0 hb r h=>?_];have m:=len _ _ _ _ h;have g:=e0.mod.WG.keeps λb o e=>(e0.bs b o e).1;have lim:=e0.mod.nolimit.keeps λb o e=>(e0.bs b o e).1;have z:∀y∈ps.zip us,scope.names.lookup y.1=some _\/(scope.names.lookup y.1=some _/\((cellsFrom QcH _ []).lookup y.1).isSome=true):=λ⟨n,v⟩ i=>by
  obtain q|q:=S.par n (List.of_mem_zip i).1
  .exact .inl q
  .exact .inr #[q,cellsFrom_some _ _ _ (.inl q)]
 refine codeAny_call_function d.depth (g _ _ lk) rfl S.co S.gen rfl (PySem.W.codeRec_of g iM) (hb _ _ _ _ ?_);refine wpAny_newFunctionEnv_cells S.kind z λenv he s1 x=>?_;subst he;refine#[lim.keeps x.toInCall.keep,codeAny_func ?_];obtain⟨t,j,l⟩:=p A _ s H vs Q E (d.deeper _) h;have I:Inv (kE CX P w K mg base N qual _ f dO A _ s H E) [] _ H s1:=M4 S d.hd e0 m r x;refine hF (j [] s1 _ H _ I l) (λfl s' a=>?_) λe s' a=>a;have fin:∀{U':St} {H':Hp} {v:V} {u:Value},Inv (kE CX P w K mg base N qual scope f dO A _ s H E) [] U' H' s'->RelV v u->Q v H'->CE outer P w H s Q u s':=
  λ{U' H' v u} J c q=>#[v,H',J.os,J.bare,J.base,J.bW,c,q]
 cases fl with
 | ret u=>
  obtain⟨v,U',H',J,c,q⟩:=a;exact fin J c q
 | next=>
  obtain⟨U',H',J,q⟩:=a;exact fin (v:=V.non) J rfl q
 | brk=>
  obtain⟨_,_,_,q⟩:=a;simp_all
 | cont=>
  obtain⟨_,_,_,q⟩:=a;exact False.elim q
section
variable{x:Str}{id T:QaS}{r:Qma}
noncomputable def D0(r:Qma)(t:TA):TE:=λU H Q=>t U H λvs H1=>r vs H1 Q
def iD(f:jB X QeD r)(d:Qad)(hm:QgB)(hv:bootBuiltins x=some QeD)(g:QgK)(hn:QgC:=by decide)(c:AD x:=by decide)
  (he:Qax:=by rfl) (hpl:QaU:=by rfl):PE X Qhy (D0 r t):=by
 intro pins s U H Q I h;refine nt (qW I d hm hv ?_ hn c);refine PyProof.Rows.callWith_builtin1 (cR Qtx λus s1 zz=>?_) he hpl;obtain⟨vs,H1,i,a,b⟩:=zz;exact f pins s1 U H1 vs us Q i a b
def jM(f:jB X Qjt r)(d:Qad)(hm:QgB)(hv:bootBuiltins x=some Qjt)(g:QgK)(hn:QgC:=by decide)(c:AD x:=by decide)
  (he:Qax:=by rfl) (hpl:QaU:=by rfl):PE X Qhy (D0 r t):=by
 intro pins s U H Q I h;refine nt (qW I d hm hv ?_ hn c);refine r8 (cR Qtx λus s1 zz=>?_) he hpl;obtain⟨vs,H1,i,a,b⟩:=zz;exact f pins s1 U H1 vs us Q i a b
end
end L2
namespace HT
open PySem PyProof.Rows
variable{prog:Q2}{w:World}{A:Qaj}{E:BB}{s:Qb}
theorem Xa{t b:Addr}{vs ws:B0}{Q:BB}(g:IsTup s.heap t vs.toArray)(hb:IsTup s.heap b ws.toArray)(hv:vs≠[])
  (h1:ws=[]->Q Qgl s) (i:ws≠[]->Q Qb9 {s with heap:=s.heap.push {cls:=.type "tuple",data:=.seq (vs++ws).toArray}})
  (hsz:vs.length+ws.length<=sizeLine):wpAny Qab A (binaryOp .Add Qgl Qgm) Q E s:=by
 obtain⟨⟨cls,dd,data,sl⟩,c,h,n,hd⟩:=id g;obtain⟨⟨j,a,data2,f⟩,d,k,n2,hd2⟩:=id hb;subst h hd k hd2;have e:vs.toArray++ws.toArray=(vs++ws).toArray:=by simp
 by_cases hw:ws=[]
 .exact concat_meets #[_,c,rfl] #[_,d,rfl] noFill_tuple_add seq_tuple_add PySem.F.slot_tuple_add PySem.F.entry_tuple_add Qr2
   (tuple_addW1 t b _ _ n n2 dd a sl f WE (by simp[hw])) #[c,d,h1 hw]
 .refine concat_meets #[_,c,rfl] #[_,d,rfl] noFill_tuple_add seq_tuple_add PySem.F.slot_tuple_add PySem.F.entry_tuple_add Qr2
   (tuple_addW2 t b _ _ n n2 dd a sl f WE WE (‹_›)) #[c,d,?_]
  rw[e];exact i hw
abbrev _root_.Bz:=Option Int
noncomputable def iO(n d:Nat):Bz->Nat
 | none=>d
 | some v=>if v<0 then(v+(n:Int)).toNat else min v.toNat n
def Rr(n d:Nat):iO n d none=d:=rfl
def Xb(n d k:Nat):iO n d Qxf=min k n:=rfl
theorem KH(v:Int)(n d:Nat):(if v<0 then max (v+(n:Int)) 0 else min v (n:Int))=((iO n d Qa1:Nat):Int):=by
 show(if v<0 then max _ 0 else min v _)=(((if v<0 then(v+n).toNat else min _ n)));grind
def HF(lo hi:Bz)(n:Nat):Builtin.Slice.sliceAdjust lo hi 1 (n:Int)=(((iO n 0 lo:Nat):Int),((iO n n hi:Nat):Int)):=by
 refine Prod.ext ?_ ?_
 .cases lo with
  | none=>rfl
  | some v=>exact KH v n 0
 .cases hi with
  | none=>rfl
  | some v=>exact KH v n n
theorem HG(i j:Nat):Builtin.Slice.slicePlaces (i:Int) (j:Int) 1=j-i:=by
 unfold Builtin.Slice.slicePlaces;grind
theorem xP{v:Value}{o:Bz}{Q:Bz->Shared->Prop}(p:IsPart v o)(h:Q o s):wpAny Qab A (Builtin.Slice.slicePartIndex v) Q E s:=by
 cases p with
 | none=>exact slicePart_none h
 | int i t=>exact slicePart_int h
def tV{sl:Addr}{d c:Value}{lo hi:Bz}{n:Nat}{Q:Int×Int×Nat->Shared->Prop}(f:s.heap.IsSliceOf sl d c .none)(e:IsPart d lo)(pu:IsPart c hi)
  (h:Q (((iO n 0 lo:Nat):Int),1,iO n n hi-iO n 0 lo) s):wpAny Qab A (Builtin.Slice.sliceApplied Qju (pure (n:Int))) Q E s:=by
 obtain⟨os,a,g,b⟩:=id f;refine wpAny_bind (wpAny_bind (wpAny_field a b (x:=d) rfl (wpAny_bind (wpAny_field a b (x:=c) rfl (wpAny_bind (wpAny_field a b rfl (wpAny_pure ?_)))))));refine wpAny_bind (slicePart_none ?_);refine wpAny_bind (xP e (wpAny_bind (xP pu (wpAny_bind (wpAny_pure ?_)))));show wpAny _ _ (match Builtin.Slice.sliceAdjust lo hi 1 _ with|(lo,hi)=>pure (lo,(1:Int),Builtin.Slice.slicePlaces lo hi 1)) _ _ s;rw[HF lo hi n];show wpAny _ _ (pure _) _ _ s;rw[HG];exact wpAny_pure h
theorem Rt(xs:D1)(i k:Nat):((List.range k).filterMap λ(m:Nat)=>xs[((i:Int)+(m:Int)*1).toNat]?).toArray=((xs.toList.drop i).take k).toArray:=by
 have e:(λ(m:Nat)=>xs[(i+(m:Int)*1).toNat]?)=λm=>xs[i+m]?:=by
  funext m;grind
 rw[e];have:=pick_run xs i k;rw[List.filterMap_map]at this;have e2:((λx=>xs[x]?)∘λx=>i+x)=λm=>xs[i+m]?:=rfl;rw[e2]at this;rw[this]
theorem rY{t sl:Addr}{items:D1}{g f:Value}{lo hi:Bz}{Q:BB}(a:IsTup s.heap t items)(i:s.heap.IsSliceOf sl g f .none)(k:IsPart g lo)(pu:IsPart f hi)
  (hw:¬ (iO items.size 0 lo=0/\iO items.size items.size hi=items.size))
  (h:Q Qb9 {s with heap:=s.heap.push {cls:=.type "tuple",data:=.seq ((items.toList.drop Ql1).take Qfn).toArray}})
  (hsz:items.size<=sizeLine):wpAny Qab A (getItem Qgl Qju) Q E s:=by
 have e:sizeOk (.seq ((items.toList.drop Ql1).take Qfn).toArray):=by
  show((items.toList.drop Ql1).take Qfn).toArray.size<=sizeLine;rw[List.size_toArray,List.length_take,List.length_drop,Array.length_toList];lia
 obtain⟨os,b,c,l⟩:=id i;have d:s.TypeIs Qju "slice":=#[os,b,c];unfold getItem
 try with_reducible refine wpAny_holding ?_
 first|refine wpAny_bind (wpAny_pure ?_)|skip
 refine wpAny_bind (wpAny_sequenceKey a.typeIs Wp ?_);refine wpAny_bind (wpAny_callSpecial?_slot (name:=Str.ofString "__getitem__") a.typeIs PyProof.Rows.slot_tuple_getitem
  (wpAny_call_entry PyProof.Rows.slot_tuple_getitem a.typeIs entry_tuple_getitem ?_ (args_tuple_getitem _ _)))
 show wpAny _ _ (Builtin.Tuple.tupleItemsOf Qgl >>= _) _ _ s;refine wpAny_bind (tupleItemsOf_ a ?_);refine wpAny_bind (wpAny_typeOf d ?_);rw[if_pos Wp];refine wpAny_bind (tV i k pu ?_);have j:¬ ((((iO items.size 0 lo:Nat):Int)==0&&(1:Int)==1&&Qfn==items.size)=true):=by grind
 show wpAny _ _ (if (((iO items.size 0 lo:Nat):Int)==0&&(1:Int)==1&&Qfn==items.size)=true then _ else _) _ _ s;rw[if_neg j,Rt]
 first
  | exact wpAny_bind (m:=Builtin.Tuple.tupleExact _) (wpAny_newObj_type (wpAny_pure #[_,rfl,wpAny_pure h]) e)
  | exact wpAny_bind (m:=Builtin.Tuple.tupleExact _) _
  | exact wpAny_bind _
  | exact wpAny_bind _
end HT
namespace L2
open PySem PySem.Spec PyProof.Rows
abbrev TO:=St->Hp->(Bz->Hp->Prop)->Prop
def PO(X:Cx)(e:Qd2)(t:TO):Prop:=
 ∀(pins:At) (s:Qb) (U:St) (H:Hp) (Q:Qxg),Inv X pins U H s->t U H Q →
  wpAny QE X.A (evalPart e X.env) (λu s'=>∃o H',Inv X pins U H' s'/\IsPart u o/\Q o H') X.xe s
noncomputable def Xc:TO:=λ_ H Q=>Q none H
noncomputable def XP(t:TE):TO:=λU H Q=>t U H λx H1=>∃i,x=.int i/\Q (some i) H1
variable{X:Cx}{e:Expr}{te:TE}{lo hi:Qd2}{tl th:TO}{pos p2:Pos}
noncomputable def Xd:PO X none Xc:=λpins s U H Q I h=>fo #[none,H,I,.none,h]
def Xe(h:Qc7):PO X (some e) (XP te):=by
 intro pins s U H Q I hw;refine cR QlO λu s1 zz=>?_;obtain⟨x,H1,c,a,b⟩:=zz;obtain⟨i,rfl,q⟩:=b;obtain⟨t,rfl⟩:=a;exact#[ _,H1,c,.int i t,q]
def wt(X:Cx)(r:QkY):Prop:=
 ∀(pins:At) (s:Qb) (U:St) (H:Hp) (x:V) (v b a:Value) (lo hi:Bz) (sl:Addr) (Q:VK),Inv X pins U H s->RelV x v->s.heap.IsSliceOf sl b a .none->IsPart b lo->IsPart a hi->r x lo hi H Q →
  ∃T id,typeLookup Qjt "__getitem__" = pure (some QeD)/\s.TypeIs v T/\wpAny QE X.A (getItem v Qju) Qbr X.xe s
noncomputable def ME(r:QkY)(te:TE)(tl th:TO):TE:=λU H Q=>te U H λx H1=>tl U H1 λl H2=>th U H2 λu a=>r x l u a Q
def xR{r:QkY}(o:wt X r)(he:Qc7)(p:PO X lo tl)(m:PO X hi th):PE X Qhq (ME r te tl th):=by
 intro pins s U H Q I h;refine Subscript_ (cR Qdk λv s1 zz=>?_);obtain⟨x,H1,B,f,j⟩:=zz;refine wpAny_Slice (cR (p pins s1 U H1 _ B j) λc s2 zz=>?_);obtain⟨l,H2,A,k,i⟩:=zz;refine cR (m pins s2 U H2 _ A i) λa s3 zz=>?_;obtain⟨u,d,z,pu,g⟩:=zz;refine fo ?_;have y:Inv X pins U d {s3 with heap:=s3.heap.push {cls:=.type "slice",data:=.fields (List.toArray [c,a,.none])}}:=z.kept λb C q=>f7 _ q;obtain⟨T,id,w,n,t⟩:=o pins _ U d x v c a l u _ Q y f (Heap.IsSliceOf.new ..) k pu g;exact tail_any n w t (rfl)
def M7(xs:BY)(lo hi:Bz):BY:=(xs.drop Qt7).take Qqn
theorem vf(xs:BY)(lo hi:Bz):(M7 xs lo hi).length<=xs.length:=by
 unfold M7;rw[hO,List.length_drop];lia
def PX(K:Frag):V->Bz->Bz->Hp->VK->Prop:=λx lo hi H Q=>∃a xs,x=.ref a/\lK K H a xs ∧
 ¬ (HT.iO xs.length 0 lo=0/\HT.iO xs.length xs.length hi=xs.length)/\∀p,H p=none->Q Qbi (upd H p (.tup (M7 xs lo hi)))
def ach:wt X (PX X.K):=by
 intro pins s U H x v k j lo hi sl Q I e i f pu h;obtain⟨a,xs,rfl,g,hw,q⟩:=h;cases e;obtain⟨its,r,d,c⟩:=I.tuple g;have hlen:its.toArray.size=xs.length:=r.length.symm;refine#[ _,_,Nr.lookup,d.typeIs,?_];refine HT.rY d i f pu (hlen▸hw) ?_ (hlen▸c);rw[hlen];refine#[.ref _,_,I.laid Quq (eA _) ?_,rfl,q _ Qdo];exact#[gr (vf xs lo hi) c,_,(r.drop _).take _,IsTup.new _ _]
def XN(K:Frag):R2:=λx y H Q=>∃a b xs ys,x=.ref a/\y=.ref b/\lK K H a xs/\lK K H b ys/\xs≠[]/\xs.length+ys.length<=sizeLine ∧
 (ys=[]->Q Qah H)/\(ys≠[]->∀p,H p=none->Q Qbi Qty)
variable{xs:BY}
theorem Vals.wF{us:B0}(r:Qo2):us=[]↔xs=[]:=by
 cases r with
 | nil=>simp
 | cons _ _=>simp
theorem BQ:nG X QeC (XN X.K):=by
 intro pins s U H x y v u Q I f e h;obtain⟨a,b,xs,ys,rfl,rfl,l,hb,k,j,i,g⟩:=h;cases f;cases e;obtain⟨its,d,p1,_⟩:=I.tuple l;obtain⟨n,c,p2,_⟩:=I.tuple hb;refine HT.Xa p1 p2 (λz=>k (d.wF.1 z)) (λz=>#[.ref a,H,I,rfl,i (c.wF.1 z)]) (λz=>?_) (by rw[<- d.length,<- c.length];exact j);refine#[.ref _,_,I.laid (λb m q=>f7 _ q) (eA _) ?_,rfl,g (λw=>z (c.wF.2 w)) _ Qdo];exact#[ by simp_all,_,d.append c,IsTup.new _ _]
noncomputable def DX(n:Nat)(i:Int):Option Nat:=if 0<=i then(if i<n then some i.toNat else none) else if -(n:Int)<=i then some (i+n).toNat else none
def mD{α:Type}(xs:QR)(i:Int):Option α:=(DX xs.length i).bind λj=>xs[j]?
theorem wG{n:Nat}{i:Int}{j:Nat}(h:DX n i=some j):seqIndex? i n=some j/\j<n /\ -(n:Int)<=i/\i<n:=by
 unfold DX at h;by_cases h0:0<=i
 .rw[ee h0]at h;by_cases h1:i<n
  .rw[ee h1]at h;have e:=gv h;exact#[by rw[seqIndex_of h0 h1,e],We,We,h1]
  simp_all
 .rw[cq h0]at h;by_cases h1:-n<=i
  .rw[ee h1]at h;have e:=gv h;exact#[by rw[seqIndex_neg We h1,e],We,h1,We]
  simp_all
theorem BR{α:Type}{xs:QR}{i:Int}{v:α}(h:mD xs i=some v):∃j,seqIndex? i xs.length=some j/\xs[j]? = some v/\j<xs.length /\ -(xs.length:Int)<=i/\i<xs.length:=by
 unfold mD at h;cases e:DX _ i with
 | none=>rw[e]at h;cases h
 | some j=>
  rw[e]at h;obtain⟨h1,c,b,a⟩:=wG e;exact#[j,h1,h,c,b,a]
theorem cL{α:Type}{xs:QR}{j:Nat}{v:α}(h:xs[j]? = some v):mD xs (j:Int)=some v:=by
 have a:=(hH.1 h).1;have e:DX xs.length j=some j:=by
  unfold DX;simp_all
 unfold mD;rw[e];exact h
def mG(b:Expr):Prop:=∀o i,subscripted b false o i=operate [o,i] (getItem o i)
def xa(X:Cx)(r:R2):Prop:=
 ∀(value slice:Expr) (pins:At) (s:Qb) (U:St) (H:Hp) (x y:V) (v u:Value) (Q:VK),Inv X pins U H s->RelV x v->RelV y u->r x y H Q →
  subscripted slice false v u=operate [v,u] (getItem v u)->wpAny QE X.A (subscriptTail value slice v u) Qbr X.xe s
def l8(X:Cx)(id:QaS)(r:Qh1):Prop:=
 ∀(pins:At) (s:Qb) (U:St) (H:Hp) (x:V) (xs:BY) (v:Value) (us:B0) (Q:VK),Inv X pins U H s->RelV x v->Vals xs us->r x xs H Q →
  wpAny QE X.A QuK Qbr X.xe s
section
variable{a b:Expr}{ta tb:TE}
noncomputable def AY{r:R2}(f:xa X r)(g:Qby)(hb:Qc6)(e:mG b):PE X (.Subscript a b pos) Qjd:=λpins s U H Q I h=>Subscript_ (ze g hb I h λv u s2 x y H2 i d c q=>f a b pins s2 U H2 x y v u Q i d c q QjO)
def PU(K:Frag):R2:=λx y H Q=>∃p xs i v,x=.ref p/\y=.int i/\mE K H p xs/\mD xs i=some v/\Q v H
def PM(K:Frag):R2:=λx y H Q=>∃p xs i v,x=.ref p/\y=.int i/\lK K H p xs/\mD xs i=some v/\Q v H
def PH:R2:=λx y H Q=>∃z i c,x=.str z/\y=.int i/\z.length<=sizeLine/\mD z.cps.toList i=some c/\Q (.str #[(List.toArray [c])]) H
theorem BU:xa X (PU X.K):=by
 intro value slice pins s U H x y v u Q I d c h b;obtain⟨p,xs,i,z,rfl,rfl,e,he,q⟩:=h;cases d;obtain⟨t,rfl⟩:=c;obtain⟨its,r,a,n⟩:=I.list e;obtain⟨j,h1,l,A,k,g⟩:=BR he;obtain⟨w,B,m⟩:=r.get l;have o:=r.length;have hn:=qY;have fin:EP X pins U Q w s:=#[z,H,I,m,q];by_cases h0:0<=i
 .have f:i.toNat=j:=by
   rw[seqIndex_of h0 g]at h1;grind
  exact item_listR a.isList h0 We WE fin b
 .have f:(i+its.toArray.size).toNat=j:=by
   rw[seqIndex_neg We k]at h1;simp_all
  exact subscriptTail_builtinR a.isList.typeIs slot_list_getitem.lookup
   (wpAny_getItem_list_neg a.isList We WE We WE #[rfl,fin]) b
theorem Ru:xa X (PM X.K):=by
 intro value slice pins s U H x y v u Q I c b h d;obtain⟨p,xs,i,z,rfl,rfl,e,he,q⟩:=h;cases c;obtain⟨t,rfl⟩:=b;obtain⟨its,r,a,k⟩:=I.tuple e;obtain⟨j,h1,f,o,n,m⟩:=BR he;obtain⟨w,A,g⟩:=r.get f;have l:=r.length;have hn:=qY;have fin:EP X pins U Q w s:=#[z,H,I,g,q];exact subscriptTail_builtinR a.typeIs slot_tuple_getitem.lookup
  (getItem_tuple (j:=j) a We We WE WE #[rfl,fin]) d
theorem aci:xa X PH:=by
 intro value slice pins s U H x y v u Q I b a h d;obtain⟨z,i,c,rfl,rfl,k,he,q⟩:=h;obtain⟨t,rfl⟩:=b;obtain⟨t',rfl⟩:=a;obtain⟨j,h1,m,l,g,f⟩:=BR he;have e:z.cps.toList.length=z.length:=rfl;rw[e]at h1 g f;have hn:=qY;exact tail_any (lx s z t) slot_str_getitem.lookup (getItem_str (c:=c) WF WE #[.str #[(List.toArray [c])],H,I.tok _,#[_,rfl],q]) d
noncomputable def HJ(its:B0)(n j:Nat)(u:Value):Obj.mapSeq (·.setIfInBounds j u) {cls:=.type "list",data:=.seq its.toArray n}={cls:=.type "list",data:=.seq (its.set j u).toArray n}:=by
 simp[Obj.mapSeq]
theorem Inv.lst{pins:At}{U:St}{H:Hp}{s:Qb}{p:Addr}(I:QK)(h:H p=some QbJ) :
  ∃(its:B0) (n:Nat),Vals xs its/\s.heap.get? p=some {cls:=.type "list",data:=.seq its.toArray n}/\xs.length<=sizeLine:=by
 obtain⟨z,its,n,r,e⟩:=I.bW p _ h;exact#[its,n,r,e,z]
theorem Inv.acj{pins:At}{U:St}{H:Hp}{s:Qb}{p:Addr}{ys:BY}{its a:B0}{n c:Nat}{f:Obj->Obj}(I:QK)(h:H p=some QbJ)
  (g:s.heap.get? p=some {cls:=.type "list",data:=.seq its.toArray n}) (hf:f {cls:=.type "list",data:=.seq its.toArray n}={cls:=.type "list",data:=.seq a.toArray c}) (r:Vals ys a) (d:QmB) (t:Nat) :
  Inv X pins U (upd H p Qji) {s with heap:=s.heap.update p f,toks:=t}:=by
 have e:(s.heap.update p f).get? p=some {cls:=.type "list",data:=.seq a.toArray c}:=by
  rw[vx f g (by rw[hf]<;>rfl),hf]
 refine I.write (by rw[h];trivial) Qay (λb u hb q=>(Heap.get?_update_other _ _ (i8 hb)).trans q) #[_,e] ?_;exact#[d,a,c,r,e]
def XB:V->V->V->Hp->Qow->Prop:=λo i v H Q=>∃p xs k j,o=.ref p/\i=.int k/\H p=some QbJ/\DX xs.length k=some j/\Q (upd H p (.lst (xs.set j v)))
theorem set_list:Hm X XB:=by
 intro pins s U H o i v ov x u Q I f g e h;obtain⟨p,xs,k,j,rfl,rfl,c,l,q⟩:=h;cases f;obtain⟨t,rfl⟩:=g;obtain⟨its,n,r,a,y⟩:=I.lst c;obtain⟨h1,A,w,m⟩:=wG l;have z:=r.length;have hn:=qY;have d:=
  I.acj c a (HJ its n j u) (r.set e j) WE s.toks
 by_cases h0:0<=k
 .have b:k.toNat=j:=by
   rw[seqIndex_of h0 m]at h1;grind
  exact PySem.W.ki_setAt a h0 We WE (b▸#[_,d,q])
 .have b:(k+its.toArray.size).toNat=j:=by
   rw[seqIndex_neg We w]at h1;simp_all
  exact PySem.W.ki_setBack a We WE We (b▸#[_,d,q])
theorem BV(lo hi:Bz)(n:Nat):(sliceBounds lo hi none n).1=((HT.iO n 0 lo:Nat):Int)/\(sliceBounds lo hi none n).2.1=((HT.iO n n hi:Nat):Int)/\(sliceBounds lo hi none n).2.2=1:=by
 refine#[?_,?_,rfl]
 .cases lo with
  | none=>simp[sliceBounds,HT.iO]
  | some i=>
   simp[sliceBounds,HT.iO,if_true];by_cases h:i<0
   .simp only[h,if_true]<;>lia
   .simp[h]<;>lia
 .cases hi with
  | none=>simp[sliceBounds,HT.iO]
  | some i=>
   simp[sliceBounds,HT.iO,if_true];by_cases h:i<0
   .simp only[h,if_true]<;>lia
   .simp[h]<;>lia
def z7(its:B0)(lo hi:Bz):slicePick its.toArray lo hi none=((its.drop (HT.iO its.length 0 lo)).take (HT.iO its.length its.length hi-HT.iO its.length 0 lo)).toArray:=by
 obtain⟨h1,b,a⟩:=BV lo hi _;unfold slicePick;rw[h1,b,a];simp only[sliceRange_one,pick_run]<;>rfl
def Px(K:Frag):V->Bz->Bz->Hp->VK->Prop:=λx lo hi H Q=>∃a xs,x=.ref a/\mE K H a xs/\∀p,H p=none->Q Qbi (upd H p (.lst (M7 xs lo hi)))
theorem Xf:wt X (Px X.K):=by
 intro pins s U H x v k j lo hi sl Q I d i e pu h;obtain⟨a,xs,rfl,g,q⟩:=h;cases d;obtain⟨its,r,c,f⟩:=I.list g;have hlen:=r.length;refine#[ _,_,slot_list_getitem.lookup,c.isList.typeIs,?_];refine wpAny_getItem_list_slice c.isList i e pu .none WA ?_ WF;rw[z7,<- hlen];refine#[.ref _,_,I.laid Quq (eA _) ?_,rfl,q _ Qdo];exact#[gr (vf xs lo hi) f,_,0,(r.drop _).take _,hX _ rfl]
noncomputable def qD:V->Bool
 | .non=>true
 | .bl _=>true
 | .int _=>true
 | .str _ => true
 | _=>false
noncomputable def Xg:V->V->Bool
 | .non,.non=>true
 | .bl a,.bl b=>a==b
 | .bl a,.int b=>(if a then 1 else 0)==b
 | .int a,.bl b=>a==(if b then 1 else 0)
 | .int a,.int b=>a==b
 | .str a, .str b => a == b
 | _,_=>false
theorem ack{A:Qaj}{s:Qb}{y x:V}{u v:Value}(d:Qbz)(c:QjT)(e:qD y=true)(fx:qD x=true):SeqAt.EqAt A s u v (Xg y x):=by
 cases y with
 | non=>
  cases d;cases x with
  | non=>cases c;exact SeqAt.EqAt.same _
  | bl b=>cases c;exact SeqAt.EqAt.none_bool b
  | int b=>obtain⟨t,rfl⟩:=c;exact SeqAt.EqAt.none_int b t
  | str b=>obtain⟨t,rfl⟩:=c;exact SeqAt.EqAt.none_str b t
  | _=>exact absurd (show false=true from fx) gq
 | bl a=>
  cases d;cases x with
  | non=>cases c;exact SeqAt.EqAt.bool_none a
  | bl b=>cases c;exact SeqAt.EqAt.bool_bool a b
  | int b=>obtain⟨t,rfl⟩:=c;exact SeqAt.EqAt.bool_int a b t
  | str b=>obtain⟨t,rfl⟩:=c;exact SeqAt.EqAt.bool_str a b t
  | _=>exact absurd (show false=true from fx) gq
 | int a=>
  obtain⟨t',rfl⟩:=d;cases x with
  | non=>cases c;exact SeqAt.EqAt.int_none a t'
  | bl b=>cases c;exact SeqAt.EqAt.int_bool a t' b
  | int b=>obtain⟨t,rfl⟩:=c;exact SeqAt.EqAt.int_int a t' b t
  | str b=>obtain⟨t,rfl⟩:=c;exact SeqAt.EqAt.int_str a t' b t
  | _=>exact absurd (show false=true from fx) gq
 | str a=>
  obtain⟨t',rfl⟩:=d;cases x with
  | non=>cases c;exact SeqAt.EqAt.str_none a t'
  | bl b=>cases c;exact SeqAt.EqAt.str_bool a t' b
  | int b=>obtain⟨t,rfl⟩:=c;exact SeqAt.EqAt.str_int a t' b t
  | str b=>obtain⟨t,rfl⟩:=c;exact SeqAt.EqAt.str_str a t' b t
  | _=>exact absurd (show false=true from fx) gq
 | _=>exact absurd (show false=true from e) gq
def my(x:V)(u:Value):Bool:=match u with
 | .none=>Xg .non x
 | .bool b=>Xg QdU x
 | .int i _=>Xg Qa0 x
 | .str z _ => Xg (.str z) x
 | _=>false
theorem Rw{x y:V}{u:Value}(r:Qbz)(f:qD y=true):my x u=Xg y x:=by
 cases y with
 | non=>cases r;rfl
 | bl b=>cases r;rfl
 | int i=>obtain⟨t,rfl⟩:=r;rfl
 | str z=>obtain⟨t,rfl⟩:=r;rfl
 | _=>exact absurd (f) gq
theorem rZ{x:V}:∀{xs:BY} {us:B0},Vals xs us->xs.all qD=true->us.any (my x)=xs.any λy=>Xg y x
 | _,_,.nil,_=>rfl
 | y::xs,u::us,.cons r t,f=>by
  rw[k4,gm]at f;rw[jq,jq,Rw r f.1,rZ t f.2]
theorem nY{A:Qaj}{s:Qb}{x:V}{v:Value}(b:QjT)(fx:qD x=true):∀{xs:BY} {us:B0},Vals xs us->xs.all qD=true->∀u∈us,SeqAt.EqAt A s u v (my x u)
 | _,_,.nil,_=>λu a=>by cases a
 | y::xs,u::us,.cons r t,f=>λc a=>by
  rw[k4,gm]at f;obtain rfl|a:=eg.1 a
  .rw[Rw r f.1];exact ack r b f.1 fx
  .exact nY b fx t f.2 c a
def mx(x:V)(xs:BY):Bool:=xs.any λy=>Xg y x
def Eu(K:Frag)(neg:Bool):R2:=λx y H Q=>∃p xs,y=.ref p/\(mE K H p xs\/lK K H p xs)/\qD x=true/\xs.all qD=true/\Q (.bl (if neg then !mx x xs else mx x xs)) H
theorem pR:nG X Qww (Eu X.K false):=by
 intro pins s U H x y v u Q I c d h;obtain⟨p,xs,rfl,a,fx,fs,q⟩:=h;cases d;obtain a|a:=a
 .obtain⟨its,r,b,e⟩:=I.list a;refine SeqAt.in_listAt _ b.isList QhF #[.bl _,H,I,rfl,?_];rw[show its.toArray.any _=its.any (my x) by simp,rZ r fs];exact q
 .obtain⟨its,r,b,e⟩:=I.tuple a;refine SeqAt.in_tupleAt _ b QhF #[.bl _,H,I,rfl,?_];rw[show its.toArray.any _=its.any (my x) by simp,rZ r fs];exact q
theorem jE:nG X Qu3 (Eu X.K true):=by
 intro pins s U H x y v u Q I c d h;obtain⟨p,xs,rfl,a,fx,fs,q⟩:=h;cases d;obtain a|a:=a
 .obtain⟨its,r,b,e⟩:=I.list a;refine SeqAt.notIn_listAt _ b.isList QhF #[.bl _,H,I,rfl,?_];rw[show its.toArray.any _=its.any (my x) by simp,rZ r fs];exact q
 .obtain⟨its,r,b,e⟩:=I.tuple a;refine SeqAt.notIn_tupleAt _ b QhF #[.bl _,H,I,rfl,?_];rw[show its.toArray.any _=its.any (my x) by simp,rZ r fs];exact q
theorem r6:jB X QmH (λxs H Q=>∃p ys,xs=[.ref p]/\Qst/\Q (.int ys.length) H):=by
 intro pins s U H xs us Q I r h;obtain⟨p,ys,rfl,a,q⟩:=h;obtain⟨u,rfl,d⟩:=vals1 r;cases d;have hn:=qY;obtain a|a:=a
 .obtain⟨its,b,c,e⟩:=I.list a;have hlen:=b.length;exact Calls.call_len_list c.isList (by simp only[sv]<;>lia) #[.int _,H,I.tok _,#[s.toks+1,by simp_all ],q]
 .obtain⟨its,b,c,e⟩:=I.tuple a;have hlen:=b.length;exact len_tuple c (by simp only[sv]<;>lia) #[.int _,H,I.tok _,#[s.toks+1,by simp_all ],q]
theorem BW:jB X QmH (λxs H Q=>∃z,xs=[.str z]/\z.length<=sizeLine/\Q (.int z.length) H):=by
 intro pins s U H xs us Q I r h;obtain⟨z,rfl,a,q⟩:=h;obtain⟨u,rfl,t,rfl⟩:=vals1 r;have hn:=qY;exact len_str We #[.int _,H,I.tok _,#[_,rfl],q]
theorem BX:jB X Qnh (λxs H Q=>∃p ys,xs=[.ref p]/\Qst/\∀l,H l=none->Q (.ref l) Qx8):=by
 intro pins s U H xs us Q I r h;obtain⟨p,ys,rfl,d,q⟩:=h;obtain⟨u,rfl,k⟩:=vals1 r;cases k;have fin:∀(its:Qe8),Vals ys its->ys.length<=sizeLine->∀(h':Heap) (j:Nat),(∀b o',s.heap.get? b=some o'->h'.get? b=some o') →
   h'.get? _=some _->EP X pins U Q _ _:=λits a c h' j kp e=>
  #[.ref _,_,I.laid (t':=s.toks) kp (eA _) (show fJ _ X.w _ h' _ Qji from#[c,its,j,a,e]),rfl,q _ Qdo]
 obtain d|d:=d
 .obtain⟨its,a,f,c⟩:=I.list d;have hlen:=a.length;obtain⟨o,g,i,n,hd⟩:=f.isList;exact call_list_seq p Qay g i hd (fin its a c) WF
 .obtain⟨its,a,f,c⟩:=I.tuple d;have hlen:=a.length;obtain⟨o,g,i,n,hd⟩:=f;exact call_list_seq p Qas g i hd (fin its a c) WF
theorem z8:jB X Qv3 (λxs H Q=>∃p ys,xs=[.ref p]/\((mE X.K H p ys/\∀l,H l=none->Q (.ref l) (upd H l Qjv))\/(lK X.K H p ys/\Q Qbi H))):=by
 intro pins s U H xs us Q I r h;obtain⟨p,ys,rfl,h⟩:=h;obtain⟨u,rfl,i⟩:=vals1 r;cases i;obtain⟨d,q⟩|⟨d,q⟩:=h
 .obtain⟨its,a,c,f⟩:=I.list d;have hlen:=a.length;refine call_tuple_list c.isList (λh' kp=>?_) WF;have g:=I.kept (t':=s.toks) kp;have j:=
   g.laid (t':=s.toks) (λb o e=>f7 _ e) (eA _) (show fJ _ X.w _ _ _ Qjv from#[f,its,a,IsTup.new _ _])
  exact#[.ref _,_,j,rfl,q _ (g.bW.fresh (eA _))]
 .obtain⟨its,a,c,f⟩:=I.tuple d;exact call_tuple_same c #[.ref p,H,I,rfl,q]
def Dd(K:Frag)(T:QaS)(x:V)(H:Hp):Prop:=match x with
 | .str _ => T = "str"
 | .int _=>T="int"
 | .ref p=>(T="list" /\ ∃xs,mE K H p xs)\/(T="tuple" /\ ∃o,K.lookup p=some o/\o.cls=.type "tuple" /\ o.dict=none) ∨
   (T="dict" /\ ((∃aU,H p=some Qcq)\/∃aU ep,H p=some (.dT aU ep)))\/(T="set" /\ ∃S n,H p=some (.set S n))
 | _=>False
theorem aco{pins:At}{U:St}{H:Hp}{s:Qb}{T:QaS}{x:V}{v:Value}(I:QK)(r:QjT)(ty:Dd X.K T x H) :
  s.TypeIs v T/\∀a,v=.ref a->∃f,s.heap.get? a=some f/\f.dict=none:=by
 cases x with
 | str z=>
  obtain⟨t,rfl⟩:=r;cases (ty);exact#[lx s z t,λ_ e=>nomatch e]
 | int i=>
  obtain⟨t,rfl⟩:=r;cases (ty);exact#[typeIs_int s i t,λ_ e=>nomatch e]
 | ref p=>
  cases r;obtain⟨rfl,xs,g⟩|⟨rfl,o,b,h,hd⟩|⟨rfl,b⟩|⟨rfl,S,n,b⟩:=ty
  .obtain⟨its,_,d,_⟩:=I.list g;refine#[d.isList.typeIs,λa e=>?_];obtain⟨o,n,e,c,hd,_⟩:=d;simp_all
  .refine#[#[o,I.lJ p o b,h],λa e=>?_];cases e;exact#[o,I.lJ _ o b,hd]
  .have z:∃o,s.heap.get? p=some o/\o.ExactDict:=by
    obtain⟨aU,b⟩|⟨aU,ep,b⟩:=b
    .obtain⟨_,_,_,_,o,_,_,e,ex,_⟩:=I.bW p _ b;simp_all
    .obtain⟨_,_,_,_,o,_,_,e,ex,_⟩:=I.bW p _ b;simp_all
   obtain⟨o,e,ex⟩:=z;refine#[#[o,e,ex.1],λa e2=>?_];cases e2;exact#[o,e,ex.2.1]
  .obtain⟨o,_,_,_,e,ex,_⟩:=I.bW p _ b;refine#[#[o,e,ex.1],λa e2=>?_];cases e2;exact#[o,e,ex.2.1]
 | _=>exact False.elim ty
noncomputable def MO(K:Frag)(T:QaS)(r:Qh1)(to:TE)(t:TA):TE:=λU H Q=>to U H λx H1=>Dd K T x H1/\t U H1 λxs H2=>r x xs H2 Q
variable{o:Expr}{es:CC}{to:TE}{t:TA}{name:Str}{apos iP:Pos}{T id:QaS}{r:Qh1}
def r9(pa:PlainAttrs T)(slot:Slot T name id)(b:typeOf QeD=pure (.type "method_descriptor"))(hm:l8 X id r)(m:PE X o to)(n:QgK)
  (q:AS X o name:=by rfl)
  (k:((backTo iP Qt8).all QeI&&(backToKw iP Qep).all Qes
   && decide ((e::es).length+([]:EN).length+Qei<30))=true:=by rfl)
  (a:Qlz=true:=by rfl) (l:Qax:=by rfl) (w:AL X iP es:=by rfl) :
  PE X (.Call (.Attribute o name apos) Qau [] iP) (MO X.K T r to t):=by
 intro pins s U H Q I h;refine wpAny_Call_method_late q k a rfl (cR (m pins s U H _ I h) λv s1 zz=>?_);obtain⟨x,H1,f,c,ty,j⟩:=zz;obtain⟨h1,p⟩:=aco f c ty;refine#[T,id,pa,slot,b,h1,p,?_];have d:=n iP pins s1 U H1 _ f j;rw[l]at d ⊢;refine Calls.callWith_builtin (‹_›) (Calls.evalArgs_plain ?_);refine cR d λus s2 zz=>?_;obtain⟨vs,H2,u,g,i⟩:=zz;exact hm pins s2 U H2 x vs v us Q u c g i
end
def LO(X:Cx)(id:QaS)(r:Qh1):Prop:=
 ∀(pins:At) (s:Qb) (U:St) (H:Hp) (x:V) (xs:BY) (v:Value) (us:B0) (Q:VK),Inv X pins U H s->RelV x v->Vals xs us->r x xs H Q →
  wpAny QE X.A QuK Qbr X.xe s
variable{x:V}
theorem Vals.one{us:B0}(h:Vals [x] us):∃u,us=[u]/\RelV x u:=by
 cases h with
 | cons r h=>cases h;exact#[_,rfl,r]
theorem Vals.two{y:V}{us:B0}(h:Vals [x,y] us):∃u v,us=[u,v]/\RelV x u/\RelV y v:=by
 cases h with
 | cons r h=>cases h with
  | cons q h=>cases h;exact#[_,_,rfl,r,q]
variable{pins:At}{U:St}{H:Hp}{s:Qb}{l:Addr}{ys:BY}
theorem Inv.Pt{its a:B0}{n:Nat}{f:D1->D1}{t':Nat}(I:QK)(d:H l=some QbJ)
  (e:s.heap.get? l=some {cls:=.type "list",data:=.seq its.toArray n}) (hf:f its.toArray=a.toArray) (hv:Vals ys a) (b:QmB) :
  Inv X pins U Qx8 {s with heap:=s.heap.update l (Obj.mapSeq f),toks:=t'}:=by
 have q:=PySem.IsL.update e f;rw[hf]at q;refine I.write (d▸trivial) Qay (λg u hb c=>(Heap.get?_update_other _ _ (i8 hb)).trans c) #[_,q] ?_;exact#[b,a,_,hv,q]
theorem Inv.Rx{its:B0}{t':Nat}(I:QK)(hv:Vals ys its)(a:QmB) :
  Inv X pins U (upd H s.heap.objs.size Qji) {s with heap:=s.heap.push {cls:=.type "list",data:=.seq its.toArray},toks:=t'}:=
 I.laid Qur (eA _) #[a,its,0,hv,hX _ rfl]
theorem Inv.fresh(I:QK):H s.heap.objs.size=none:=I.bW.fresh (eA _)
theorem Inv.NO(I:QK)(a:H l=some QbJ):xs.length<=sizeLine/\∃(its:B0) (n:Nat),Vals xs its/\xs.length=its.length/\s.heap.get? l=some {cls:=.type "list",data:=.seq its.toArray n}:=by
 obtain⟨z,its,n,r,e⟩:=I.bW l _ a;exact#[z,its,n,r,r.length,e]
def Xh:V->BY->Hp->VK->Prop:=λx vs H Q=>∃l xs y,x=.ref l/\vs=[y]/\H l=some QbJ/\xs.length<sizeLine/\Q .non (upd H l (.lst (xs++[y])))
theorem tX:LO X "list.append" Xh:=by
 intro pins s U H x vs v us Q I b c h;obtain⟨l,xs,y,rfl,rfl,a,f,q⟩:=h;cases b;obtain⟨u,rfl,d⟩:=c.one;obtain⟨z,its,n,r,g,e⟩:=I.NO a;refine m3 F.slot_list_append #[_,e,rfl] F.entry_list_append (F.args_list_append_2 _ _) (PySem.list_append l _ n u WF) #[e,?_];refine#[.non,_,I.Pt a e WA (r.append (.cons d .nil)) ?_,rfl,q];grind
end L2
namespace Att
open PySem PySem.W PySem.Calls PyProof.Rows
abbrev _root_.BA:=List Int
def vN{P:Params}{h:Heap}:∀(ns:BA) (vs:B0),WellAll P h vs Qu4->IntsAre vs ns:=by
 intro ns
 induction ns with
 | nil=>
  intro vs w;cases w;exact .nil
 | cons n ns c=>
  intro vs w;cases w with
  | cons a b=>
   cases a;exact .cons _ _ (c _ b)
theorem Nb{l:OpenLaw}{n:Nat}(hn:Qop){P:Params}{h:Heap}{args:List WData}{vals:B0}
  (e:l.row.toRowW.claim.pre args=true) (c:WellAll P h vals args) :
  ∃a vs ns,vals=[Value.ref a]/\args=[WData.list Qu4]/\h.get? a=some {cls:=.type "list",data:=.seq vs.toArray}/\IntsAre vs ns/\ns.length<=n:=by
 have uk:=(pre_splitW e).1;have k:=(pre_splitW e).2;obtain⟨d,r,rfl,h1,o⟩:=hasAllW_cons uk;obtain rfl:=hasAllW_nil o;obtain⟨xs,rfl,m⟩:=hasW_list h1;obtain⟨ns,rfl⟩:=items_int m;have hlen:ns.length<=n:=by
  have b:=by
   have b:=(holds_andW k).1;rw[hn]at b;exact b
  have p:=condW_of b (w_not (w_lt w_lit (w_len_list (w_arg rfl))));simp_all
 cases c with
 | cons i g=>
  cases g;cases i with
  | list j f=>exact#[_,_,ns,rfl,rfl,j,vN ns _ f,hlen]
def Nf(l:OpenLaw)(args:List WData):l.row.toRowW.claim.post args (.bool true) args=true:=
 postW_of
  (rfl)
  (w_eq_bool (w_res rfl) w_lit) rfl
def Eg{l:OpenLaw}{n:Nat}{q:Q2}{loose:AT}{p:QmQ}{m:Qmb}{d:DefRec}
  (hn:Qop) (h:Qmh)
  (call:∀(w:World) (eI b:Qb) (mg mb:BS) (c:Addr) (o:Obj) (pm cd doc:Value) (a:Addr) (vs:B0) (ns:BA),
   Ground q loose [] p w eI mg mb b.heap->m w b.heap →
   b.heap.get? c=some o->o.data=.func (docDef d.name d.params d.body d.scope pm cd doc)->b.heap.CodeRec cd d.name->mg d.name=some (.ref c) →
   b.heap.get? a=some {cls:=.type "list",data:=.seq vs.toArray}->IntsAre vs ns->ns.length<=n->b.gens=#[] →
   codeAny (model l.prog w) callerA (.call (.ref c) #[[.ref a],[]]) (λr s'=>r=.ok (.ret (.bool true))/\OldK b.heap s'.heap/\s'.os=b.os/\AllBare s'.gens) b) :
  WalkO q loose p m l.row.toRowW d [] QkZ:=by
 intro w eI b mg mb G Y c o pm cd doc dV kV u hd iM k g x args vals as B j s e v;obtain rfl:dV=.none:=Dflts.none k h;obtain rfl:kV=.none:=Dflts.noKw k;obtain⟨a,vs,ns,rfl,rfl,i,hints,hlen⟩:=Nb hn B e;refine enter_call (codeAny_mono (call w eI b mg mb c o pm cd doc a vs ns G Y u (fd_plain hd) iM g i hints hlen x) λr s' t=>?_);obtain⟨rfl,A,z,y⟩:=t;exact#[.inl #[ _,_,[],rfl,λ_=>rfl,.bool true,Nf l _,λ_=>#[List.Pairwise.nil,λ_ hm=>(nomatch hm)]],A,z,y]
noncomputable def ledger(h:Heap)(L d:Addr):At:=(List.range h.objs.size).filterMap λa=>if a=L\/a=d then none else(h.get? a).map λo=>(a,o)
end Att
namespace L2
open PySem PySem.Spec PyProof.Rows
theorem AZ:∀{vs:B0} {ns:BA},IntsAre vs ns->Vals Qdx vs
 | _,_,.nil=>.nil
 | _,_,.cons n t h=>.cons #[t,rfl] (AZ h)
def n9(H:Hp):Prop:=∀b,H b=none\/∃o xs,H b=some (.ez o QbJ)
variable{P:Q2}{w:World}{a:Addr}{x:Str}
theorem Ry{K:Frag}{mg mb:BS}{CX:M0}{k:Nat}{B:Addr}{fd:QaG}{sp:Sp}{c:Qb}{vs:B0}{ns:BA}
  (M:K.In c.heap) (i:c.heap.Ns mainGlobals mg) (hb:c.heap.Ns builtinsNs mb) (t:∀x:Str,x≠"__name__"->mb x=bootBuiltins x) (E:c.heap.NoLimit) (W:c.gens=#[])
  (y:c.heap.get? a=some {cls:=.type "list",data:=.seq vs.toArray}) (hi:IntsAre vs ns) (J:Qwx) (U:dJ k callerA)
  (F:∀base:Heap,K.In base->base.Ns mainGlobals mg->eX P w K mg base CX k B fd [x] sp) (G:∀(s:Qb) (u:Value),BindsTo s fd #[[u],[]] [(x,u)])
  (G5:∀H:Hp,n9 H->mE K H a Qdx->sp [.ref a] H QlJ λ_ _ _=>False)
  (A:∀H e s',CX [] H c QfD e s'->False) :
  codeAny QcT callerA Qrq QpM c:=by
 have I:=AZ hi;have D:=hi.length;have core:∀H:Hp,n9 H->mE K H a Qdx->nU P w H c.heap->(∀b,H b≠none->b=a)->(H a≠none->K.lookup a=none) →
   codeAny QcT callerA Qrq QpM c:=by
  intro H L X bW hA hK;have N:∀{b:Addr} {o:Obj},c.heap.get? b=some o->H b=none->(BI c.heap H).get? b=some o:=λe n=>QW e n;have l:∀{b:Addr} {o:Obj} {es:QgL} {ep:Nat},c.heap.get? b=some o->o.data=.dict es ep->H b=none:=λ{b o es ep} e d=>by grind
  have f:∀{b:Addr} {m:BS},c.heap.Ns b m->(BI c.heap H).Ns b m:=λ{b m} ⟨o,es,ep,e,d,r⟩=>#[o,es,ep,N e (l e d),d,r];have j:K.In QnP:=λb o e=>N (M b o e) WF;have Y:Mod K mg QnP:=#[j,f i,#[mb,f hb,t],let ⟨T,h1,Z⟩:=E;#[T,f h1,Z]];have e0:HC P w K mg QnP callerA [] c H:=#[rfl,Y,λb o e=>W0 e,Nat.le_of_eq (MH _ _),trivial,λb hb=>absurd (show b∈([]:BN) from hb) WA,bW,.of_eq W];refine mN ((F _ j (f i)).run callerA [] c H #[[.ref a],[]] [.ref a] [.ref a] _ _ U e0 (G c Qah) (.cons rfl .nil) (G5 H L X)) λr s' h=>?_;cases r with
  | error e=>exact(A H e s' h).elim
  | ok fl=>
   cases fl with
   | next=>exact False.elim h
   | brk=>exact False.elim h
   | cont=>exact False.elim h
   | ret u=>
    obtain⟨v,H',os,bare,un,C,R,q⟩:=h;have q':v=.bl true:=q;subst q';obtain rfl:u=Value.bool true:=R;refine#[rfl,OldK.of_keep λb o e=>?_,os,bare];cases q:H b with
    | none=>exact un.keep b o e q (by intro z;exact absurd (show b∈([]:BN) from z) WA) WA
    | some u=>
     obtain z|⟨S,xs,z⟩:=L b
     .rw[q]at z;cases z
     .have O:=un.fK b S _ z;obtain⟨e1,_⟩:=bW b _ z;obtain⟨e2,_⟩:=C b _ O;rw[e]at e1;cases e1;exact e2
 cases p:K.lookup a with
 | some o=>
  have e:=M a o p;rw[y]at e;cases e;refine core (λ_=>none) (λ_=>.inl rfl) (.inr #[_,vs.toArray,_,p,rfl,rfl,rfl,by rw[List.size_toArray,D];exact J,by simpa using I]) (λb u z=>by have g:(none:Option HO)=some u:=z;cases g) (λb z=>absurd rfl z) λz=>absurd rfl z
 | none=>
  refine core (λb=>if b=a then some (.ez {cls:=.type "list",data:=.seq vs.toArray} (.lst Qdx)) else none) (λb=>?_) (.inl (.inr #[{cls:=.type "list",data:=.seq vs.toArray},ee rfl])) (λb u z=>?_) (λb z=>?_) λ_=>p
  .by_cases hb:b=a
   .exact .inr #[_,_,ee hb]
   .exact .inl (cq hb)
  .by_cases hb:b=a
   .have g:=(ee hb).symm.trans z;cases g;subst hb;exact#[y,by rw[ed];exact J,vs,_,I,y]
   .have g:=(cq hb).symm.trans z;cases g
  .by_cases hb:b=a
   .exact hb
   .exact absurd (cq hb) z
def Xj{l:Qm3}{n k:Nat}{q:Q2}{loose:AT}{J:QmQ}{y:Qmb}{d:DefRec}{K:Params->Frag}{CX:World->M0}{sp:World->Sp}
  (hn:Qop) (j:n<=sizeLine) (p:Qmh) (A:dJ k callerA)
  (C:∀(w:World) (h:Heap),y w h->(K w.params).In h)
  (F:∀(w:World) (mg:BS) (i:Addr) (h:Heap),(K w.params).In h->h.Ns mainGlobals mg->mg d.name=some (.ref i) →
   ∃fd:FuncData,(∀(s:Qb) (u:Value),BindsTo s fd #[[u],[]] [(x,u)]) ∧
    ∀base:Heap,(K w.params).In base->base.Ns mainGlobals mg->eX l.prog w Qf3 mg base (CX w) k i fd [x] (sp w))
  (L:∀(w:World) (H:Hp) (a:Addr) (ns:BA),ns.length<=n->n9 H->mE Qf3 H a Qdx->sp w [.ref a] H QlJ λ_ _ _=>False)
  (r:∀(w:World) (H:Hp) (s:Qb) (e:Value) (s':Qb),CX w [] H s QfD e s'->False) :
  PySem.W.WalkO q loose J y l.row.toRowW d [] QkZ:=by
 refine Att.Eg hn p λw eI c mg mb i o pm cd doc a vs ns G Y M hd iM m t hints hlen B=>?_;have z:=C w _ Y;obtain⟨fd,hb,I⟩:=F w mg i _ z G.T.g m;exact Ry z G.T.g G.T.b G.T.builtins G.T.nolimit B t hints (gr hlen j) A I hb (λH E D=>L w H a ns hlen E D) λH e s'=>r w H c e s'
def inClass(s:Stmt)(j:Nat):Stmt:=match s with
 | .ClassDef _ _ _ body _ _ _ _ _ _ _=>body.getD j Qs3
 | _=>.Pass #[0,0,0,0]
def gV(s:Stmt):Arguments:=match s with
 | .FunctionDef _ a _ _ _ _ _ _ _ _=>a
 | _=>{posonlyargs:=[],args:=[],vararg:=none,kwonlyargs:=[],kw_defaults:=[],kwarg:=none,defaults:=[]}
def bX(s:Stmt):CS:=match s with
 | .FunctionDef _ _ b _ _ _ _ _ _ _=>b
 | _=>[]
def aE(s:Stmt):Scope:=match s with
 | .FunctionDef _ _ _ _ _ _ sc _ _ _=>sc
 | _=>{kind:=.function,names:=[],isGenerator:=false,isCoroutine:=false}
noncomputable abbrev pT:M0:=λ_ _ _ _ _ _=>False
noncomputable abbrev E0:XK:=λ_ _ _=>False
variable{X:Cx}
noncomputable def A0:Passes pT X E0:=λ_ _ _ _ _ _ _ h=>h.elim
structure Ng(K:Frag)(x qual:Str)(st:Stmt)(f:Addr)(fd:QaG):Prop where
 ex:∃(dV oc:Value) (od:Bi) (kV doc pm:Value) (an:Bi) (dO ct:Value) (BP:Cc),
  fd=fnOf x qual (gV st) Qba Qan dV kV doc pm an dO ct/\K.lookup f=some #[oc,od,.func fd,BP]/\codeIn K dO qual=true
 kp:keepIn K Qaq=true
variable{K:Frag}
theorem Ng.binds{qual:Str}{st:Stmt}{f:Addr}{fd:QaG}{ps:AT}(F:Qc8)(hd:fd.defaults=.none)
  (h:∀(kV doc pm:Value) (an:Bi) (dO ct:Value) (us:B0),us.length=ps.length->bindArgs Qfl #[us,[]]=pure QcS):Binds K fd ps []:=by
 obtain⟨dV,oc,od,kV,doc,pm,an,dO,ct,BP,rfl,lk,iM⟩:=F.ex;cases (show dV=.none from hd);exact .all (h kV doc pm an dO ct)
def Rz{qual:Str}{st:Stmt}{f:Addr}{oc:Value}{od an:Bi}{BP:Cc}{kV doc pm dO ct:Value}(l:Qq5)
  (c:Qmo) (k:Qiy):Ng K x qual st f Qfl:=#[#[.none,oc,od,kV,doc,pm,an,dO,ct,BP,rfl,l,c],k]
noncomputable def bz{n:Nat}(h:n<=1000):n<sizeLine:=ru h Wp
def HK{A B:Prop}(h:B):if false=true then A else B:=‹_›
def HL{A B:Prop}(h:A):if true=true then A else B:=‹_›
def aA(H H':Hp):Prop:=∀b o,H b=some o->H' b=some o
theorem aA.refl(H:Hp):aA H H:=λ_ _ h=>h
variable{H:Hp}
theorem aA.trans{H1 H2:Hp}(a:aA H H1)(b:aA H1 H2):aA H H2:=λc o h=>b c o (a c o h)
variable{H':Hp}
theorem aA.free(e:QbM){l:Addr}(h:H' l=Option.none):H l=Option.none:=by
 cases q:H l with
 | none=>rfl
 | some o=>
  rw[e l o q]at h;cases h
theorem aA.seq{xs:BY}(e:QbM)(h:mE K H a xs):mE K H' a xs:=by
 rcases h with(h|⟨o,h⟩)|h
 .exact .inl (.inl QdM)
 .exact .inl QtR
 .exact .inr h
section
variable{κ:Type}[DecidableEq κ]
noncomputable def i7(aU:QbL)(k:κ):Option V:=(aU.find? λa=>decide Qgj).map (·.2)
noncomputable def putK(aU:QbL)(k:κ)(v:V):List (κ×V):=
 if Qfs=true then aU.map QpJ else aU++[(k,v)]
def n5{p:κ×V}{r:QbL}{k:κ}(e:p.1=k):i7 (p::r) k=some p.2:=by simp[i7,l5,e]
def lM{p:κ×V}{r:QbL}{k:κ}(e:¬ p.1=k):i7 (p::r) k=i7 r k:=by simp[i7,l5,e]
theorem Eh(k:κ):∀aU:List (κ×V),Qfs=(i7 aU k).isSome
 | []=>rfl
 | p::r=>by
  rw[jq];by_cases e:p.1=k
  .simp only[n5 e,eC e,Bool.true_or,Option.isSome_some]
  .rw[lM e,eP e,Bool.false_or];exact Eh k r
theorem n6(aU:QbL)(k:κ)(v:V):(putK aU k v).length<=aU.length+1:=by
 unfold putK;split
 .rw[ed];lia
 .rw[fg,hq,List.length_nil];lia
theorem tS.lN{o:QgM}{u:Do}(r:tS o u):o.isSome=u.isSome:=by
 cases o with
 | none=>cases u with
  | none=>rfl
  | some _=>exact(show False from r).elim
 | some _=>cases u with
  | none=>exact(show False from r).elim
  | some _=>rfl
theorem KV.val{aU:QbL}{vs:Qe7}(r:QdY)(k:κ):tS Qo6 (valueAt vs k):=by
 unfold KV at r
 induction r with
 | nil=>exact True.intro
 | @cons p q ps qs h t c=>
  obtain⟨h1,d⟩:=h;by_cases e:p.1=k
  .have a:q.1=k:=h1.symm.trans e;have b:valueAt QjP k=some q.2:=by simp[valueAt,l5,a]
   rw[n5 e,b];exact d
  .have a:¬ q.1=k:=λz=>e QmI;have b:valueAt QjP k=valueAt qs k:=by simp[valueAt,l5,a]
   rw[lM e,b];exact c
theorem KV.any{aU:QbL}{vs:Qe7}(r:QdY)(k:κ):Qfs=vs.any λa=>decide Qgj:=by
 unfold KV at r
 induction r with
 | nil=>rfl
 | cons h t b=>rw[jq,jq,b,h.1]
theorem KV.i5{aU:QbL}{vs:Qe7}(r:QdY)(k:κ){y:V}{u:Value}(b:Qbz) :
  KV Qqe (vs.map λa=>if a.1=k then(a.1,u) else a):=by
 unfold KV at r ⊢
 induction r with
 | nil=>exact .nil
 | @cons p q ps qs h t c=>
  rw[eM,eM];refine .cons ?_ c;obtain⟨h1,d⟩:=h;by_cases e:p.1=k
  .rw[ee e,ee QvB];exact#[h1,b]
  .rw[cq e,cq QxW];exact#[h1,d]
theorem KV.put{aU:QbL}{vs:Qe7}(r:QdY)(k:κ){y:V}{u:Value}(a:Qbz):KV (putK aU k y) (stored vs k u):=by
 unfold putK stored;rw[r.any k];by_cases e:(vs.any λb=>decide (b.1=k))=true
 .rw[ee e,ee e];exact r.i5 k a
 .rw[cq e,cq e];exact Paired.snoc r #[rfl,a]
theorem KV.length{aU:QbL}{vs:Qe7}(r:QdY):aU.length=vs.length:=Paired.length r
end
variable{u:Value}
theorem A1{k:Key}(r:RelV (kV k) u):(fF P w).is k u=true:=by
 cases k with
 | inl i=>obtain⟨t,e⟩:=(show ∃t,u=Value.int i t from r);subst e;exact D7 P w i t
 | inr x=>obtain⟨t,e⟩:=(show ∃t,u=Value.str x t from r);subst e;exact D8 P w x t
theorem A2{P:Q2}{w:World}:∀{ks:EO} {us:B0},Vals QuL us->ItemsAre QcW ks us
 | [],_,r=>by rw[List.map_nil]at r;cases r;exact .nil
 | k::ks,_,r=>by
  rw[eM]at r;cases r with
  | cons h t=>exact .cons (A1 h) (A2 t)
abbrev KT(H:Hp):Bn->List Qfz->Prop:=Paired λp q=>p.1=q.1/\H q.2.1=some Qvu/\RelV p.2 q.2.2
variable{aU:Bn}{xs:List Qfz}
theorem KT.val(r:QjW)(k:EO):tS Qo6 ((atKey xs k).map (·.2)):=by
 induction r with
 | nil=>exact True.intro
 | @cons p q ps qs h t c=>
  obtain⟨h1,_,d⟩:=h;by_cases e:p.1=k
  .have a:q.1=k:=h1.symm.trans e;have b:atKey QjP k=some q.2:=by simp[atKey,l5,a]
   rw[n5 e,b];exact d
  .have a:¬ q.1=k:=λz=>e QmI;have b:atKey QjP k=atKey qs k:=by simp[atKey,l5,a]
   rw[lM e,b];exact c
variable{y:V}
theorem KT.i5(r:QjW)(k:EO)(c:Qbz) :
  KT H Qqe (xs.map (putAt k u)):=by
 induction r with
 | nil=>exact .nil
 | @cons p q ps qs h t d=>
  rw[eM,eM];refine .cons ?_ d;obtain⟨h1,b,f⟩:=h;unfold putAt;by_cases e:p.1=k
  .rw[ee e,ee QvB];exact#[h1,b,c]
  .rw[cq e,cq QxW];exact#[h1,b,f]
theorem KT.put(r:QjW)(k:EO){b:Addr}(hb:H b=some QmC)(a:Qbz) :
  KT H (putK aU k y) (storedH xs k b u):=by
 have e:(aU.any λc=>decide (c.1=k))=(atKey xs k).isSome:=by
  rw[Eh,(r.val k).lN,Option.isSome_map]
 unfold putK storedH;rw[e];by_cases q:(atKey xs k).isSome=true
 .rw[ee q,ee q];exact r.i5 k a
 .rw[cq q,cq q];exact Paired.snoc r #[rfl,hb,a]
theorem KT.keeps(r:QjW)(a:∀b ys,H b=some Qjv->H' b=some Qjv):KT H' aU xs:=
 Paired.zp r λ_ _ z=>#[z.1,a _ _ z.2.1,z.2.2]
variable{h:Heap}
noncomputable def KI{u:HO}(ok:Qbk)(e:Rd H a u):fJ P w H h a u:=e.ok ok
def Ei{aU:Cn}(ok:Qbk)(e:Rd H a Qcq):aU.length<=sizeLine/\QbX=false/\∃vs,KV aU vs/\h.DictOf QcW a vs:=
 show fJ P w H h a Qcq from KI ok e
def RA{aU:Cn}(ok:Qbk)(e:Qn2):aU.length<=sizeLine/\QbX=false/\∃vs,KV aU vs/\h.DictOf QcW a vs:=Ei ok (.inl e)
def xT{ks:EO}(ok:Qbk)(e:H a=some Qye):(tupleKind QcW).is h ks a:=by
 obtain⟨_,its,r,o,h1,c,n,b⟩:=(show fJ P w H h a Qye from ok a _ e);exact#[o,its.toArray,n,h1,c,b,by simpa using A2 r]
def Ej(ok:Qbk)(e:∃en,Rd H a Qjo):aU.length<=sizeLine/\QbX=false ∧
  ∃xs,KT H aU xs/\h.DictOfH Qmm a xs:=by
 obtain⟨z,y,xs,r,o,es,ep,h1,j,i,g,f⟩:=(show fJ P w H h a (.dT aU e.choose) from KI ok e.choose_spec);refine#[z,y,xs,r,o,es,ep,h1,j,i,g,λx b=>?_,f.1];have all:∀{l:Bn} {m:List Qfz},KT H l m->∀x∈m,(tupleKind QcW).is h x.1 x.2.1:=by
  intro l m q
  induction q with
  | nil=>intro x b;exact nomatch b
  | @cons p q ps qs c t d=>
   intro x b;obtain e|b:=eg.1 b
   .subst e;exact xT ok (by rw[<- c.1];exact c.2.1)
   .exact d x b
 exact all r x b
def Xy{en:Nat}(ok:Qbk)(e:H a=some Qjo):aU.length<=sizeLine/\QbX=false ∧
  ∃xs,KT H aU xs/\h.DictOfH Qmm a xs:=Ej ok #[_,.inl e]
def vO(H:Hp)(a:Addr)(y:V)(r:QgM):Prop:=
 (∃aU k,Rd H a Qcq/\y=kV k/\r=i7 aU k)\/∃aU k b,(∃en,Rd H a Qjo)/\y=.ref b/\H b=some QmC/\r=i7 aU k
def RB(H:Hp)(a:Addr)(y v:V)(H':Nat->Hp):Prop:=
 (∃aU k,H a=some Qcq/\y=kV k/\aU.length<sizeLine/\H'=λ_=>upd H a (.dK QnQ)) ∨
 ∃aU k b,(∃en,H a=some Qjo)/\y=.ref b/\H b=some QmC/\aU.length<sizeLine/\H'=λen=>upd H a (.dT QnQ en)
theorem vO.k{aU:Cn}{k:Key}(e:Qn2):vO H a (kV k) Qo6:=.inl #[aU,k,.inl e,rfl,rfl]
theorem RB.k{aU:Cn}{k:Key}{v:V}(e:Qn2)(b:aU.length<sizeLine):RB H a (kV k) v (λ_=>upd H a (.dK QnQ)):=.inl #[aU,k,e,rfl,b,rfl]
variable{pins:At}{U:St}{s:Qb}{v:V}{r:Value}{o:QgM}{A:Qaj}{E:BB}
theorem Inv.big(I:QK):sysModules<s.heap.objs.size:=by
 have h:mainGlobals<s.heap.objs.size:=(I.mod.glob.keeps I.bk).lt;exact Nat.lt_trans Wp h
variable{Q:BB}
def Nh(j:QiZ)(I:QK)(g:vO H a y Qa1)(i:Qbz)(h:∀c s',Inv X pins U H s'->RelV v c->Q c s') :
  wpAny QE A (getItem Qah u) Q E s:=by
 obtain⟨aU,k,e,d,l⟩|⟨aU,k,b,e,d,n,l⟩:=g
 .subst d;obtain⟨z,hd,vs,rel,dd⟩:=Ei I.bW e;obtain⟨c,hw,f⟩:=tS.some_of (v:=v) (o:=valueAt vs k) (by rw[l];exact rel.val k);exact wpAny_getItem_of (A1 i) dd.mapOf hw (h c _ QdH f)
 .subst d;cases (show u=Value.ref b from i);obtain⟨z,hd,xs,rel,dd⟩:=Ej I.bW e;obtain⟨c,hw,f⟩:=tS.some_of (v:=v) (o:=(atKey xs k).map (·.2)) (by rw[l];exact rel.val k);obtain⟨p,m,q⟩:=jK.1 hw;refine wpAny_getItem_heap (wb j) (xT I.bW n) dd m ?_;rw[q];exact h c _ QdH f
def NN(f:QiZ)(I:QK)(g:Qo7)(d:Qbz)(h:∀s',Inv X pins U H s'->Q (.bool o.isSome) s') :
  wpAny QE A (compareOp .In u Qah) Q E s:=by
 obtain⟨aU,k,e,c,l⟩|⟨aU,k,b,e,c,i,l⟩:=g
 .subst c;obtain⟨z,hd,vs,rel,dd⟩:=Ei I.bW e;refine wpAny_in_of (A1 d) hd dd.mapOf ?_;rw[<- (rel.val k).lN,<- l];exact h _ QdH
 .subst c;cases (show u=Value.ref b from d);obtain⟨z,hd,xs,rel,dd⟩:=Ej I.bW e;refine wpAny_in_heap (wb f) (xT I.bW i) hd dd ?_;have q:=(rel.val k).lN;rw[Option.isSome_map]at q;rw[<- q,<- l];exact h _ QdH
def Xk(f:QiZ)(I:QK)(g:Qo7)(d:Qbz)(h:∀s',Inv X pins U H s'->Q (.bool (!o.isSome)) s') :
  wpAny QE A (compareOp .NotIn u Qah) Q E s:=by
 obtain⟨aU,k,e,c,l⟩|⟨aU,k,b,e,c,i,l⟩:=g
 .subst c;obtain⟨z,hd,vs,rel,dd⟩:=Ei I.bW e;refine wpAny_notIn_of (A1 d) hd dd.mapOf ?_;rw[<- (rel.val k).lN,<- l];exact h _ QdH
 .subst c;cases (show u=Value.ref b from d);obtain⟨z,hd,xs,rel,dd⟩:=Ej I.bW e;refine wpAny_notIn_heap (wb f) (xT I.bW i) hd dd ?_;have q:=(rel.val k).lN;rw[Option.isSome_map]at q;rw[<- q,<- l];exact h _ QdH
noncomputable def BZ{h':Heap}{t':Nat}{c:HO}(I:QK)(d:tf (H a))(f:Heap.SameBut a s.heap h')(he:∃q,h'.get? a=some q)(new:fJ X.prog X.w (upd H a c) h' a c) :
  Inv X pins U (upd H a c) {s with heap:=h',toks:=t'}:=
 I.write (x:=a) (e:=a) d Qay (λb q hb z=>(f.2 b hb).trans z) he new
noncomputable def RC{h':Heap}{aU:Cn}{vs:List (Key×Value)}(z:aU.length<=sizeLine)(hd:QbX=false)(rel:QdY)(dd:h'.DictOf QcW a vs) :
  fJ P w H' h' a Qcq:=#[z,hd,vs,rel,dd]
theorem Ni{H':Nat->Hp}{Q:Dx}(B:QiZ)(I:QK)(g:RB H a y v H')(p:Qbz)(t:RelV v r)(h:∀en s',Inv X pins U (H' en) s'->Q () s') :
  wpAny QE A (setItem Qah u r) Q E s:=by
 obtain⟨aU,k,e,n,l,o⟩|⟨aU,k,b,e,n,x,l,o⟩:=g
 .subst n o;obtain⟨z,hd,vs,rel,dd⟩:=RA I.bW e;have i:vs.length<=sizeLine:=by rw[<- rel.length];exact z
  have m:(putK aU k v).length<=sizeLine:=by have:=n6 aU k v;lia
  refine wpAny_setItem_pairs (hsz:=i) (A1 p) dd λh' f j=>h 0 _ ?_;have he:∃q,h'.get? a=some q:=let ⟨q,_,_,d,_⟩:=f;#[q,d];exact BZ I (by rw[e];exact True.intro) j he (RC m hd (rel.put k t) f)
 .subst n o;cases (show u=Value.ref b from p);obtain⟨en,e⟩:=e;obtain⟨z,hd,xs,rel,dd⟩:=Xy I.bW e;have i:xs.length<=sizeLine:=by rw[<- Paired.length rel];exact z
  have m:(putK aU k v).length<=sizeLine:=by have:=n6 aU k v;lia
  refine wpAny_setItem_heap (hsz:=i) (wb B) (xT I.bW x) dd λh' f j=>?_;obtain⟨q,es,ep,d,G,F,D,_,C⟩:=f;refine h ep _ ?_;refine BZ I (by rw[e];exact True.intro) j #[q,d] #[m,hd,_,(rel.put k x t).keeps λc ys ec=>?_,q,es,ep,d,G,F,D,C,rfl];rw[aB (US ec e (λz=>nomatch z))];exact ec
def HM(i:Expr):Prop:=∀ov a,subscripted i false ov a=operate [ov,a] (getItem ov a)
def B3{prog:Q2}{env:Env}{value slice:Expr}{pos:Pos}{T id:QaS}
  (k:typeLookup Qjt "__getitem__" = pure (some QeD)) (j:HM slice)
  (h:wpAny Qab A (eval value env) (λo d=>wpAny Qab A (eval slice env) (λi a=>a.TypeIs o T/\wpAny Qab A (getItem o i) Q E a) E d) E s) :
  wpAny Qab A (eval (.Subscript value slice pos) env) Q E s:=by
 refine Subscript_ (hF h (λo d f=>hF f (λi a b=>?_) λ_ _ x=>x) λ_ _ x=>x);obtain⟨g,b⟩:=b;unfold subscriptTail;refine eh ?_;rw[getitemInPython_of_ne g.not_modules];refine eh (wpAny_specialOf g k ?_);have fin:wpAny Qab A (subscripted slice false o i) (λr c=>wpAny Qab A (letTemporaryGo value o r >>= λ_=>pure r) Q E c) E a:=by
  rw[j o i];exact wpAny_operating (hF b (λr c e=>eh (wpAny_letTemporaryGo (fo e))) λ_ _ x=>x)
 first
  | exact fo (eh fin)
  | exact eh (fo (eh fin))
  | exact eh fin
def Ek(I:QK)(g:Qo7):s.TypeIs Qah "dict":=by
 obtain⟨aU,k,e,_,_⟩|⟨aU,k,b,e,_,_,_⟩:=g
 .obtain⟨_,_,vs,_,dd⟩:=Ei I.bW e;exact dd.typeIs
 .obtain⟨_,_,xs,_,dd⟩:=Ej I.bW e;exact dd.typeIs
noncomputable def Xt(td ty:TE):TE:=λU H Q=>td U H λx H1=>ty U H1 λy H2=>∃a v,x=.ref a/\vO H2 a y Qa1/\Q v H2
noncomputable def NM(ty td:TE):TE:=λU H Q=>ty U H λy H1=>td U H1 λx H2=>∃a o,x=.ref a/\vO H2 a y o/\Q (.bl o.isSome) H2
noncomputable def Xm(ty td:TE):TE:=λU H Q=>ty U H λy H1=>td U H1 λx H2=>∃a o,x=.ref a/\vO H2 a y o/\Q (.bl (!o.isSome)) H2
noncomputable def Xl(td ty tv:TE):TS:=λD U H=>tv U H λv H1=>td U H1 λx H2=>ty U H2 λy c=>∃a b,x=.ref a/\RB c a y v b/\∀en,D.nx U (b en)
variable{o i value:Expr}{pos pos':Pos}{td ty tv:TE}
def Xn(j:QiJ)(l:QjX)(hi:Qd3)(k:HM i):PE X QlZ (Xt td ty):=by
 intro pins s U H Q I h;refine B3 x2.lookup k (cR (l pins s U H _ I h) λu s1 zz=>?_);obtain⟨x,H1,p,d,f⟩:=zz;refine cR (hi pins s1 U H1 _ p f) λr s2 zz=>?_;obtain⟨y,H2,b,c,a,v,ex,g,e⟩:=zz;subst ex;obtain rfl:u=Value.ref a:=d;exact#[Ek b g,Nh j b g c λq s3 n m=>#[v,H2,n,m,e]]
def acq(f:QiJ)(hi:Qd3)(j:QjX):PC X .In i o (NM ty td):=by
 intro pins s U H Q I h;refine cR Qer λn s1 zz=>?_;obtain⟨y,H1,m,b,e⟩:=zz;refine cR Qt9 λu s2 zz=>?_;obtain⟨x,H2,l,c,a,ov,ex,g,d⟩:=zz;subst ex;obtain rfl:u=Value.ref a:=c;exact NN f l g b λs3 k=>#[.bl ov.isSome,H2,k,rfl,d]
def Nj(f:QiJ)(hi:Qd3)(j:QjX):PC X .NotIn i o (Xm ty td):=by
 intro pins s U H Q I h;refine cR Qer λn s1 zz=>?_;obtain⟨y,H1,m,b,e⟩:=zz;refine cR Qt9 λu s2 zz=>?_;obtain⟨x,H2,l,c,a,ov,ex,g,d⟩:=zz;subst ex;obtain rfl:u=Value.ref a:=c;exact Xk f l g b λs3 k=>#[.bl (!ov.isSome),H2,k,rfl,d]
def Xo(k:QiJ)(m:QjX)(hi:Qd3)(hv:PE X value tv)(l:swapsWith value (some (.Subscript o i pos')) pos.line X.env=pure false) :
  PS X (.Assign [.Subscript o i pos'] value pos) (Xl td ty tv):=by
 intro pins s U H D I h;refine wpAny_Assign_Subscript (cR Qup λr s1 zz=>?_) l;obtain⟨v,H1,t,d,j⟩:=zz;refine cR (m pins s1 U H1 _ t j) λu s2 zz=>?_;obtain⟨x,H2,q,c,f⟩:=zz;refine cR (hi pins s2 U H2 _ q f) λz s3 zz=>?_;obtain⟨y,B,p,b,a,w,ex,g,e⟩:=zz;subst ex;obtain rfl:u=Value.ref a:=c;exact Ni k p g b d λen s4 n=>#[U,w en,n,e en]
noncomputable def RD(h:Heap)(hb:sysModules<h.objs.size):fJ P w H (h.push {cls:=.type "dict",data:=.dict #[]}) h.objs.size (.dK []):=
 #[fT _,kP.2 (i8 (hB hb)),[],.nil,Heap.DictOf.new h]
def acr:TE:=λ_ H Q=>∀p,H p=none->Q Qbi Qir
def RG:PE X Qv4 acr:=λpins s U H Q I h=>
 wpAny_Dict_empty #[.ref s.heap.objs.size,_,I.laid (a:=s.heap.objs.size) (o:=.dK []) (t':=s.toks) Qur (eA _) (RD s.heap I.big),rfl,h _ Qdo]
structure M2(X:Cx)(o:Expr)(m:Str)(apos:Pos)(e f:Expr)(iP:Pos):Prop where
 base:attributeBase o m X.env Qcf=eval o X.env
 q0:((backTo iP Qus).all QeI&&(backToKw iP Qep).all Qes
  && decide (([e,f]:CC).length+([]:EN).length+Qei<30))=true
 line:Qlz=true
 trees:backTo iP Qus=[(false,eval e X.env),(false,eval f X.env)]
end L2
namespace L3
open PySem PySem.Spec PyProof.Rows L2
inductive D where
 | non|bl (b:Bool)|int (i:Int)|str (x:Str)
 | tup (ds:List D)|lst (ds:List D)|ins (c:Str) (fs:List (Str×D))|iY (aU:List (Key×D))
 | dct (aU:List (EO×D))
 | any
 | val (v:V)
 | B4 (w:World) (ds es:List D)
abbrev _root_.BC:=List D
abbrev _root_.CI:=List (Key×D)
inductive T where
 | sh (d:D)|tup (ts:List T)|lst (ts:List T)|ins (c:Str) (fs:List (Str×T))|iY (aU:CI)|dct (aU:List (EO×T))
 | pin (x:Addr) (t:T)
 | B4 (w:World) (ds es:BC)
abbrev _root_.B1:=List (Str×T)
abbrev _root_.B2:=List T
abbrev _root_.Cl:=List (EO×T)
abbrev _root_.Da:=List (EO×D)
abbrev _root_.EU:=List (Str×D)
mutual
def T.ez:T->D
 | .sh d=>d
 | .tup ts=>.tup (fK ts)
 | .lst ts=>.lst (fK ts)
 | .ins c fs=>.ins c (vP fs)
 | .iY aU=>.iY aU
 | .dct aU=>.dct (y4 aU)
 | .pin _ t=>t.ez
 | .B4 w ds es=>.B4 w ds es
def T.fK:B2->BC
 | []=>[]
 | t::ts=>t.ez::T.fK ts
def T.vP:B1->EU
 | []=>[]
 | (x,t)::fs=>(x,t.ez)::T.vP fs
def T.y4:Cl->Da
 | []=>[]
 | (x,t)::fs=>(x,t.ez)::T.y4 fs
end
mutual
def D.uk(w:World):D->Int
 | .int i=>hashInt i
 | .str x => hashStr w x
 | .tup ds=>reduceHash (Builtin.Tuple.tupleHashOf (D.Hn w ds))
 | _=>0
def D.Hn(w:World):BC->BA
 | []=>[]
 | d::ds=>d.uk w::D.Hn w ds
end
def LS(w:World)(a:Addr)(ds:BC)(vs us:BY)(h:Heap):Prop:=
 QbX=false/\∃(xs:List (D×Addr×Value)) (o:Obj) (es:QgL) (ep:Nat),h.get? a=some o/\o.ExactDict/\o.data=.dict es ep/\es.toList=xs.map (λx=>#[x.1.uk w,.ref x.2.1,x.2.2])/\xs.map (·.1)=ds/\xs.map (λx=>V.ref x.2.1)=vs/\Vals us (xs.map λx=>x.2.2)
abbrev _root_.BM:=Str->Addr
variable(K:Frag)(CL:BM)
mutual
inductive bK(Z:Hp):D->V->Prop where
 | non:bK Z .non .non
 | bl (b:Bool):bK Z QdU QdU
 | int (i:Int):bK Z Qa0 Qa0
 | str (x:Str):bK Z QaL QaL
 | any (v:V):bK Z .any v
 | val (v:V):bK Z QcU v
 | tup {a:Addr} {vs:BY} {ds:BC}:lK K Z a vs->aL Z ds vs->bK Z QdI Qah
 | lst {a:Addr} {vs:BY} {ds:BC}:mE K Z a vs->aL Z ds vs->bK Z QbZ Qah
 | ins {a dx:Addr} {c:Str} {gs:CA} {fs:EU}:Z a=some QfF->sd Z fs gs->bK Z QeW Qah
 | iY {a:Addr} {gs:Cn} {fs:CI}:Z a=some Qgn->b6 Z fs gs->bK Z (.iY fs) Qah
 | dct {a:Addr} {gs:Bn} {fs:Da} {en:Nat}:Rd Z a Qoq->nI Z fs gs->bK Z (.dct fs) Qah
 | B4 {a:Addr} {w:World} {vs us:BY} {ds es:BC}:Z a=some Qtz->aL Z ds vs->aL Z es us->bK Z (.B4 w ds es) Qah
inductive aL(Z:Hp):BC->BY->Prop where
 | nil:aL Z [] []
 | cons {d:D} {v:V} {ds:BC} {vs:BY}:bK Z d v->aL Z ds vs->aL Z (d::ds) QaW
inductive sd(Z:Hp):EU->CA->Prop where
 | nil:sd Z [] []
 | cons {x:Str} {d:D} {v:V} {ds:EU} {vs:CA}:bK Z d v->sd Z ds vs->sd Z ((x,d)::ds) ((x,v)::vs)
inductive b6(Z:Hp):CI->Cn->Prop where
 | nil:b6 Z [] []
 | cons {x:Key} {d:D} {v:V} {ds:CI} {vs:Cn}:bK Z d v->b6 Z ds vs->b6 Z ((x,d)::ds) ((x,v)::vs)
inductive nI(Z:Hp):Da->Bn->Prop where
 | nil:nI Z [] []
 | cons {x:EO} {d:D} {v:V} {ds:Da} {vs:Bn}:bK Z d v->nI Z ds vs->nI Z ((x,d)::ds) ((x,v)::vs)
end
mutual
inductive bL(H Z:Hp):T->V->BN->Prop where
 | sh {d:D} {v:V}:bK K CL Z d v->bL H Z QhA v []
 | tup {a:Addr} {vs:BY} {ts:B2} {fp:BN}:Z a=some (.tup vs)->aS H Z ts vs fp->bL H Z (.tup ts) Qah fp
 | lst {a:Addr} {vs:BY} {ts:B2} {fp:BN}:H a=some (.lst vs)->aS H Z ts vs fp->bL H Z (.lst ts) Qah (a::fp)
 | ins {a dx:Addr} {c:Str} {gs:CA} {fs:B1} {fp:BN}:H a=some QfF->cZ H Z fs gs fp->bL H Z QeW Qah (a::fp)
 | iY {a:Addr} {gs:Cn} {aU:CI}:H a=some Qgn->b6 K CL Z aU gs->bL H Z QmX Qah [a]
 | dct {a:Addr} {gs:Bn} {aU:Cl} {fp:BN} {en:Nat}:H a=some Qoq->fP H Z aU gs fp->bL H Z (.dct aU) Qah (a::fp)
 | pin {x:Addr} {t:T} {fp:BN}:bL H Z t Qa9 fp->bL H Z (.pin x t) Qa9 fp
 | B4 {a:Addr} {w:World} {vs us:BY} {ds es:BC}:H a=some Qtz->aL K CL Z ds vs->aL K CL Z es us->bL H Z (.B4 w ds es) Qah [a]
inductive aS(H Z:Hp):B2->BY->BN->Prop where
 | nil:aS H Z [] [] []
 | cons {t:T} {v:V} {ts:B2} {vs:BY} {fp gp:BN}:bL H Z t v fp->aS H Z ts vs gp->aS H Z Qb2 QaW QcZ
inductive cZ(H Z:Hp):B1->CA->BN->Prop where
 | nil:cZ H Z [] [] []
 | cons {x:Str} {t:T} {v:V} {ts:B1} {vs:CA} {fp gp:BN}:bL H Z t v fp->cZ H Z ts vs gp->cZ H Z ((x,t)::ts) ((x,v)::vs) QcZ
inductive fP(H Z:Hp):Cl->Bn->BN->Prop where
 | nil:fP H Z [] [] []
 | cons {x:EO} {t:T} {v:V} {ts:Cl} {vs:Bn} {fp gp:BN}:bL H Z t v fp->fP H Z ts vs gp->fP H Z ((x,t)::ts) ((x,v)::vs) QcZ
end
abbrev _root_.Ap:=List (Option T)
inductive d8(H Z:Hp):Ap->L2.St->BN->Prop where
 | nil:d8 H Z [] [] []
 | skip {o:QgM} {δ:Ap} {U:L2.St} {fp:BN}:d8 H Z δ U fp->d8 H Z (none::δ) (o::U) fp
 | cons {t:T} {v:V} {δ:Ap} {U:L2.St} {fp gp:BN}:bL K CL H Z t v fp->d8 H Z δ U gp->d8 H Z (some t::δ) (some v::U) QcZ
variable{K:Frag}{CL:BM}{H H':Hp}{a:Addr}
theorem Rd.mono{u:HO}(e:QbM)(h:Rd H a u):Rd H' a u:=h.imp QjO λ⟨o,q⟩=>#[o,e _ _ q]
variable{xs:BY}
theorem aA.DY(e:QbM)(h:lK K H a xs):lK K H' a xs:=by
 rcases h with(h|⟨o,h⟩)|h
 .exact .inl (.inl QdM)
 .exact .inl QtR
 .exact .inr h
variable{Z:Hp}{vs:BY}
theorem aL.ind{P:BC->BY->Prop}(n:P [] [])(c:∀{d:D} {v:V} {ds:BC} {vs:BY},bK K CL Z d v->aL K CL Z ds vs->P ds vs->P (d::ds) QaW){ds:BC}(h:QiT):P ds vs:=
 aL.rec (motive_1:=λ_ _ _=>True) (motive_3:=λ_ _ _=>True) (motive_4:=λ_ _ _=>True) (motive_5:=λ_ _ _=>True)
  trivial Qa6 Qa6 Qa6 Qa6 Qa6 Qal Qal Qal Qal Qal Qlh n Qeo trivial QaK trivial QaK trivial QaK h
theorem b6.ind{P:CI->Cn->Prop}(n:P [] [])(c:∀{x:Key} {d:D} {v:V} {ds:CI} {vs:Cn},bK K CL Z d v->b6 K CL Z ds vs->P ds vs->P ((x,d)::ds) ((x,v)::vs)){ds:CI}{vs:Cn}(h:b6 K CL Z ds vs):P ds vs:=
 b6.rec (motive_1:=λ_ _ _=>True) (motive_2:=λ_ _ _=>True) (motive_3:=λ_ _ _=>True) (motive_5:=λ_ _ _=>True)
  trivial Qa6 Qa6 Qa6 Qa6 Qa6 Qal Qal Qal Qal Qal Qlh trivial QaK trivial QaK n Qeo trivial QaK h
theorem nI.ind{P:Da->Bn->Prop}(n:P [] [])(c:∀{x:EO} {d:D} {v:V} {ds:Da} {vs:Bn},bK K CL Z d v->nI K CL Z ds vs->P ds vs->P ((x,d)::ds) ((x,v)::vs)){ds:Da}{vs:Bn}(h:nI K CL Z ds vs):P ds vs:=
 nI.rec (motive_1:=λ_ _ _=>True) (motive_2:=λ_ _ _=>True) (motive_3:=λ_ _ _=>True) (motive_4:=λ_ _ _=>True) (motive_5:=λd v _=>P d v)
  trivial Qa6 Qa6 Qa6 Qa6 Qa6 Qal Qal Qal Qal Qal Qlh trivial QaK trivial QaK trivial QaK n Qeo h
variable{ts:B2}{fp:BN}
theorem aS.ind{P:B2->BY->BN->Prop}(n:Qo8)(c:∀{t:T} {v:V} {ts:B2} {vs:BY} {fp gp:BN},bL K CL H Z t v fp->aS K CL H Z ts vs gp->P ts vs gp->P Qb2 QaW QcZ)(h:aS K CL H Z ts vs fp):P ts vs fp:=
 aS.rec (motive_1:=λ_ _ _ _=>True) (motive_3:=λ_ _ _ _=>True) (motive_4:=λ_ _ _ _=>True)
  (λ_=>trivial) Qal Qal Qal Qev Qal Qev Qal n Qeo trivial QaK trivial QaK h
theorem cZ.ind{P:B1->CA->BN->Prop}(n:Qo8)(c:∀{x:Str} {t:T} {v:V} {ts:B1} {vs:CA} {fp gp:BN},bL K CL H Z t v fp->cZ K CL H Z ts vs gp->P ts vs gp->P ((x,t)::ts) ((x,v)::vs) QcZ){ts:B1}{vs:CA}(h:cZ K CL H Z ts vs fp):P ts vs fp:=
 cZ.rec (motive_1:=λ_ _ _ _=>True) (motive_2:=λ_ _ _ _=>True) (motive_4:=λ_ _ _ _=>True)
  (λ_=>trivial) Qal Qal Qal Qev Qal Qev Qal trivial QaK n Qeo trivial QaK h
theorem fP.ind{P:Cl->Bn->BN->Prop}(n:Qo8)(c:∀{x:EO} {t:T} {v:V} {ts:Cl} {vs:Bn} {fp gp:BN},bL K CL H Z t v fp->fP K CL H Z ts vs gp->P ts vs gp->P ((x,t)::ts) ((x,v)::vs) QcZ){ts:Cl}{vs:Bn}(h:fP K CL H Z ts vs fp):P ts vs fp:=
 fP.rec (motive_1:=λ_ _ _ _=>True) (motive_2:=λ_ _ _ _=>True) (motive_3:=λ_ _ _ _=>True)
  (λ_=>trivial) Qal Qal Qal Qev Qal Qev Qal trivial QaK trivial QaK n Qeo h
variable{Z':Hp}
theorem bK.mono(e:Qb3){d:D}{v:V}(h:Qd4):bK K CL Z' d v:=
 bK.rec
  .non .bl .int .str .any .val (λh _ r=>.tup (aA.DY e h) r) (λh _ r=>.lst (e.seq h) r) (λh _ r=>.ins QdM r) (λh _ r=>.iY QdM r) (λh _ r=>.dct (Rd.mono e h) r) (λh _ _ r q=>.B4 QdM r q) .nil QhU .nil QhU .nil QhU .nil QhU h
theorem aL.mono(e:Qb3){d:BC}{v:BY}(h:aL K CL Z d v):aL K CL Z' d v:=aL.ind (P:=λd v=>aL K CL Z' d v) .nil Qry h
theorem b6.mono(e:Qb3){d:CI}{v:Cn}(h:b6 K CL Z d v):b6 K CL Z' d v:=b6.ind (P:=λd v=>b6 K CL Z' d v) .nil Qry h
variable{t:T}
theorem bL.mono(e:Qb3){v:V}(k:∀a∈fp,H' a=H a)(h:QgN):bL K CL H' Z' t v fp:=
 bL.rec (motive_2:=λt v fp _=>(∀a∈fp,H' a=H a)->aS K CL H' Z' t v fp) (motive_3:=λt v fp _=>(∀a∈fp,H' a=H a)->cZ K CL H' Z' t v fp) (motive_4:=λt v fp _=>(∀a∈fp,H' a=H a)->fP K CL H' Z' t v fp)
  (λh _=>.sh (h.mono e)) (λh _ r k=>.tup QdM (r k)) (λh _ r k=>.lst ((k _ eu).trans h) Qem) (λh _ r k=>.ins ((k _ eu).trans h) Qem) (λh f k=>.iY ((k _ eu).trans h) (b6.mono e f)) (λh _ r k=>.dct ((k _ eu).trans h) Qem) (λ_ r k=>.pin (r k)) (λh f g k=>.B4 ((k _ eu).trans h) (aL.mono e f) (aL.mono e g)) QbA Qke QbA Qke QbA Qke h k
theorem aS.mono(e:Qb3){t:B2}{v:BY}(k:∀a∈fp,H' a=H a)(h:Qwy):aS K CL H' Z' t v fp:=aS.ind (P:=λt v fp=>(∀a∈fp,H' a=H a)->aS K CL H' Z' t v fp) QbA Qkd h k
theorem cZ.mono(e:Qb3){t:B1}{v:CA}(k:∀a∈fp,H' a=H a)(h:cZ K CL H Z t v fp):cZ K CL H' Z' t v fp:=cZ.ind (P:=λt v fp=>(∀a∈fp,H' a=H a)->cZ K CL H' Z' t v fp) QbA Qkd h k
theorem fP.mono(e:Qb3){t:Cl}{v:Bn}(k:∀a∈fp,H' a=H a)(h:fP K CL H Z t v fp):fP K CL H' Z' t v fp:=fP.ind (P:=λt v fp=>(∀a∈fp,H' a=H a)->fP K CL H' Z' t v fp) QbA Qkd h k
theorem bL.there{v:V}(h:QgN):∀a∈fp,∃o,H a=some o:=
 bL.rec (motive_3:=λt v fp _=>∀a∈fp,∃o,H a=some o) (motive_4:=λt v fp _=>∀a∈fp,∃o,H a=some o)
  (λ_ a b=>absurd b fw) (λ_ _ r=>r) (λh _ r a b=>(eg.1 b).elim (λq=>#[_,q▸h]) (r a)) (λh _ r a b=>(eg.1 b).elim (λq=>#[_,q▸h]) (r a)) (λh _ a b=>(eg.1 b).elim (λq=>#[_,q▸h]) QtA) (λh _ r a b=>(eg.1 b).elim (λq=>#[_,q▸h]) (r a)) (λ_ r=>r) (λh _ _ a b=>(eg.1 b).elim (λq=>#[_,q▸h]) QtA) Qh5 Qks Qh5 Qks Qh5 Qks h
theorem aS.there{t:B2}{v:BY}(h:Qwy):∀a∈fp,∃o,H a=some o:=aS.ind (P:=λ_ _ fp=>∀a∈fp,∃o,H a=some o) Qh5 (λr _ i a b=>(eB.1 b).elim Qoh (i a)) h
theorem bL.ez(e:Qb3){v:V}(k:∀a∈fp,Z' a=H a)(h:QgN):bK K CL Z' t.ez v:=
 bL.rec (motive_2:=λt v fp _=>(∀a∈fp,Z' a=H a)->aL K CL Z' _ v) (motive_3:=λt v fp _=>(∀a∈fp,Z' a=H a)->sd K CL Z' _ v) (motive_4:=λt v fp _=>(∀a∈fp,Z' a=H a)->nI K CL Z' _ v)
  (λh _=>by exact h.mono e) (λh _ r k=>by exact .tup (lK.of QdM) (r k)) (λh _ r k=>by exact .lst (mE.of ((k _ eu).trans h)) Qem) (λh _ r k=>by exact .ins ((k _ eu).trans h) Qem) (λh f k=>by exact .iY ((k _ eu).trans h) (b6.mono e f)) (λh _ r k=>by exact .dct (.inl ((k _ eu).trans h)) Qem) (λ_ r k=>by rw[T.ez];exact r k) (λh f g k=>by exact .B4 ((k _ eu).trans h) (aL.mono e f) (aL.mono e g)) (λ_=>by exact .nil) (λ_ _ h r k=>by rw[T.fK];exact .cons Qkh Qki) (λ_=>by rw[T.vP];exact .nil) (λ_ _ h r k=>by exact .cons Qkh Qki) (λ_=>by exact .nil) (λ_ _ h r k=>by rw[T.y4];exact .cons Qkh Qki) h k
theorem aL.length{d:BC}{v:BY}(h:aL K CL Z d v):d.length=v.length:=
 aL.ind (P:=λd v=>d.length=v.length) rfl QhM h
theorem aS.length{d:B2}{v:BY}(h:aS K CL H Z d v fp):d.length=v.length:=
 aS.ind (P:=λd v _=>d.length=v.length) rfl QhM h
theorem d8.length{d:Ap}{v:L2.St}(h:d8 K CL H Z d v fp):d.length=v.length:=by
 induction h with
 | nil=>rfl
 | skip _ i=>exact congrArg (· + 1) i
 | cons _ _ i=>exact congrArg (· + 1) i
theorem aL.get{Z:Hp}:∀{ds:BC} {vs:BY} {i:Nat} {d:D},aL K CL Z ds vs->ds[i]? = some d->∃v,vs[i]? = some v/\bK K CL Z d v
 | _,_,_,_,.nil,e=>by simp at e
 | _,_,0,_,.cons r _,e=>by simp_all
 | _,_,i+1,d,.cons _ t,e=>by
  obtain⟨u,h1,a⟩:=aL.get t (‹_›);exact#[u,‹_›,a]
theorem aL.RH{Z:Hp}:∀{ds:BC} {vs:BY} {i:Nat} {v:V},aL K CL Z ds vs->vs[i]? = some v->∃d,ds[i]? = some d/\bK K CL Z d v
 | _,_,_,_,.nil,e=>by simp at e
 | _,_,0,_,.cons r _,e=>by simp_all
 | _,_,i+1,d,.cons _ t,e=>by
  obtain⟨u,h1,a⟩:=aL.RH t (‹_›);simp_all
theorem d8.get:∀{δ:Ap} {U:L2.St} {fp:BN} {i:Nat} {t:T},d8 K CL H Z δ U fp->δ[i]? = some QaD →
  ∃v f1 f2 f3,U[i]? = some Qa1/\fp=f1++Qdv/\bL K CL H Z t v f2 ∧
   (∀{H' Z':Hp} {t':T} {v':V} {g:BN},aA Z Z'->(∀a∈f1++f3,H' a=H a)->bL K CL H' Z' t' v' g->d8 K CL H' Z' (δ.set i (some t')) (U.set i (some v')) Qbt) ∧
   (∀{o:QgM},d8 K CL H Z (δ.set i none) (U.set i o) QdR):=by
 intro δ U fp i t h;have mono:∀{H H' Z Z':Hp} {δ:Ap} {U:L2.St} {fp:BN},aA Z Z'->(∀a∈fp,H' a=H a)->d8 K CL H Z δ U fp->d8 K CL H' Z' δ U fp:=by
  intro H H' Z Z' δ U fp e k r
  induction r with
  | nil=>exact .nil
  | skip _ c=>exact .skip (c k)
  | cons r _ c=>exact .cons (r.mono e λa b=>k a (e6 _ b)) (c λa b=>k a (e4 _ b))
 induction h generalizing i with
 | nil=>intro e;simp at e
 | @skip o δ U fp r c=>
  cases i with
  | zero=>intro e;simp at e
  | succ i=>
   intro e;obtain⟨v,f1,f2,f3,h1,m,l,j,f⟩:=c (i:=i) (by simpa using e);exact#[v,f1,f2,f3,by simpa using h1,m,l,λe k q=>.skip (j e k q),.skip f]
 | @cons t0 v0 δ U fp gp d r c=>
  cases i with
  | zero=>
   intro e;simp at e;subst e;refine#[v0,[],fp,gp,rfl,rfl,d,λ{H' Z' t' v' g} e k q=>d8.cons (fp:=g) (gp:=gp) q (mono (fp:=gp) e (λa b=>k a (by simpa using b)) r),.skip (by simpa using r)]
  | succ i=>
   intro e;obtain⟨v,f1,f2,f3,h1,m,l,j,f⟩:=c (i:=i) (by simpa using e);refine#[v,fp++f1,f2,f3,by simpa using h1,by rw[m,List.append_assoc],l,λ{H' Z' t' v' g} e k q=>?_,λ{o}=>?_]
   .rw[eJ];exact .cons (d.mono e λa b=>k a (by simp[b])) (j e (λa b=>k a (by rw[eJ];exact e4 _ b)) q)
   .rw[eJ];exact .cons d f
variable{δ:Ap}{U:L2.St}
theorem d8.mono(e:Qb3)(k:∀a∈fp,H' a=H a)(r:Qio):d8 K CL H' Z' δ U fp:=by
 induction r with
 | nil=>exact .nil
 | skip _ b=>exact .skip (b k)
 | cons r _ b=>exact .cons (r.mono e λa c=>k a (e6 _ c)) (b λa c=>k a (e4 _ c))
theorem d8.there(r:Qio):∀a∈fp,∃o,H a=some o:=by
 induction r with
 | nil=>intro a c;cases c
 | skip _ b=>exact b
 | cons r _ b=>exactλa c=>(eB.1 c).elim Qoh (b a)
theorem d8.put(r:Qio){v:V}{g:BN}(q:Qxh) :
  ∀{i:Nat},i<δ.length->∃f,d8 K CL H Z (δ.set i QaD) QeB f/\∃a,a.Sublist fp/\f.Perm (g++a):=by
 induction r with
 | nil=>intro i hi;simp at hi
 | @skip o δ U fp r b=>
  intro i hi;cases i with
  | zero=>exact#[ _,.cons q r,fp,jJ _,List.Perm.refl _]
  | succ i=>
   obtain⟨f,h1,a,d,c⟩:=b (by simpa using hi);exact#[f,.skip h1,a,d,c]
 | @cons t0 v0 δ U fp gp e r b=>
  intro i hi;cases i with
  | zero=>exact#[ _,.cons q r,gp,o1 _ _,List.Perm.refl _]
  | succ i=>
   obtain⟨f,h1,a,d,c⟩:=b (by simpa using hi);refine#[ _,.cons e h1,_,kc (jJ _) d,?_];refine(kT fp c).trans ?_;rw[<- eJ,<- eJ];exact vJ a iw
section
variable{v:V}
theorem bK.i9{ds:BC}(h:bK K CL Z QbZ v):∃a vs,v=.ref a/\mE K Z a vs/\aL K CL Z ds vs:=by cases h with|lst p q=>exact#[_,_,rfl,p,q]
theorem bK.kW{ds:BC}(h:bK K CL Z QdI v):∃a vs,v=.ref a/\lK K Z a vs/\aL K CL Z ds vs:=by cases h with|tup p q=>exact#[_,_,rfl,p,q]
theorem bK.RJ{c:Str}{fs:EU}(h:bK K CL Z QeW v):∃a dx gs,v=.ref a/\Z a=some QfF/\sd K CL Z fs gs:=by cases h with|ins p q=>exact#[_,_,_,rfl,p,q]
theorem bL.El{d:D}(h:bL K CL H Z QhA v fp):fp=[]/\bK K CL Z d v:=by cases h with|sh r=>exact#[rfl,r]
theorem bL.i9(h:bL K CL H Z (.lst ts) v fp):∃a vs g,v=.ref a/\fp=a::g/\H a=some (.lst vs)/\aS K CL H Z ts vs g:=by cases h with|lst p q=>exact#[_,_,_,rfl,rfl,p,q]
theorem bL.kW(h:bL K CL H Z (.tup ts) v fp):∃a vs,v=.ref a/\Z a=some (.tup vs)/\aS K CL H Z ts vs fp:=by cases h with|tup p q=>exact#[_,_,rfl,p,q]
theorem bL.RJ{c:Str}{fs:B1}(h:bL K CL H Z QeW v fp):∃a dx gs g,v=.ref a/\fp=a::g/\H a=some QfF/\cZ K CL H Z fs gs g:=by cases h with|ins p q=>exact#[_,_,_,_,rfl,rfl,p,q]
theorem bL.Nk{y:Addr}(h:bL K CL H Z (.pin y t) v fp):v=.ref y/\bL K CL H Z t (.ref y) fp:=by cases h with|pin r=>exact#[rfl,r]
end
noncomputable def z9(X:Cx)(e:Expr):TE:=λU H Q=>∀(pins:At) (s:Qb),Inv X pins U H s->wpAny QE X.A QfN Qbr X.xe s
noncomputable def Xp(X:Cx)(e:Expr):TT:=λU H Q=>∀(pins:At) (s:Qb),Inv X pins U H s->wpAny QE X.A QtP QeE X.xe s
noncomputable def Aa(X:Cx)(es:CC):TA:=λU H Q=>∀(pos:Pos) (pins:At) (s:Qb),Inv X pins U H s->wpAny QE X.A Qsc Qxa X.xe s
noncomputable def RK(X:Cx)(st:Stmt):TS:=λD U H=>∀(pins:At) (s:Qb),Inv X pins U H s->wpAny QE X.A Qxb Qi3 X.xe s
noncomputable def Nm(X:Cx)(st:CS):TS:=λD U H=>∀(pins:At) (s:Qb),Inv X pins U H s->wpAny QE X.A Qws Qi3 X.xe s
variable{X:Cx}{e:Expr}
noncomputable def bZ:PE X e (z9 X e):=λpins s _ _ _ I h=>h pins s I
noncomputable def lb:PT X e (Xp X e):=λpins s _ _ _ I h=>h pins s I
noncomputable def B5{e:CC}:PA X e (Aa X e):=λpos pins s _ _ _ I h=>h pos pins s I
noncomputable def t5{e:Stmt}:PS X e (RK X e):=λpins s _ _ _ I h=>h pins s I
noncomputable def Nn{e:CS}:Ko X e (Nm X e):=λpins s _ _ _ I h=>h pins s I
noncomputable def bM{t:TE}(h:PE X e t){Q:VK}(q:t U H Q):z9 X e U H Q:=λpins s I=>h pins s U H Q I q
variable{Q:ET}
noncomputable def se{t:TT}(h:PT X e t)(q:t U H Q):Xp X e U H Q:=λpins s I=>h pins s U H Q I q
noncomputable def Ab{e:CC}{t:TA}(h:PA X e t){Q:EQ}(q:t U H Q):Aa X e U H Q:=λpos pins s I=>h pos pins s U H Q I q
noncomputable def n8{e:Stmt}{t:TS}(h:PS X e t){D:Ends}(q:t D U H):RK X e D U H:=λpins s I=>h pins s U H D I q
noncomputable def Np{e:CS}{t:TS}(h:Ko X e t){D:Ends}(q:t D U H):Nm X e D U H:=λpins s I=>h pins s U H D I q
noncomputable def notStar:Expr->Bool
 | .Starred _ _=>false
 | _=>true
variable{es:CC}{env:Env}
def aY(h:Qn3):starEach Qau env=(false,eval e env)::starEach es env:=by
 cases e<;>first|rfl|(cases h)
structure Bx where
 B:Hp
 Z:Hp
def fV:HO->Bool
 | .tup _=>true
 | .ez _ _=>true
 | .xd _=>true
 | _=>false
noncomputable def xU(x:Str):Bool:=x.cps[0]? == some 35
noncomputable def NL(x:Str):Str:=#[x.cps.extract 1 x.cps.size]
def iE(CL:BM)(Z:Hp):Prop:=∀x,xU x=true->CL x≠0->Z (CL x)=some (.tabs (NL x))
structure bC(K:Frag)(CL:BM)(b:Bx)(H Z:Hp)(δ:Ap)(U:L2.St)(ts:B2)(vs:BY):Prop where
 rep:∃fp gp,d8 K CL H Z δ U fp/\aS K CL H Z ts vs gp/\(fp++gp).Nodup/\∀a∈fp++gp,Z a=none/\b.B a=none
 bh:aA b.B H
 zz:aA b.Z Z
 zh:aA Z H
 new:∀a o,Z a=some o->b.Z a=none->b.B a=none
 tp:∀a o,H a=some o->fV o=true->Z a=some o
 tab:iE CL b.Z
section
variable{b:Bx}{v:V}
theorem iE.mono{A B:Hp}(h:iE CL A)(e:aA A B):iE CL B:=λx a h0=>e _ _ (h x a h0)
theorem bC.Xq(S:QaB):iE CL Z:=S.tab.mono S.zz
theorem bC.Nq(S:QaB):iE CL H:=S.Xq.mono S.zh
def HN{A B:Hp}(e:aA A B)(h:B a=none):A a=none:=e.free h
theorem aA.upd{p:Addr}{o:HO}(h:QgO):aA H (upd H p o):=λb u e=>aB (bD e h)▸e
theorem bC.view(S:Qb7):bK K CL H t.ez v:=by
 obtain⟨fp,gp,_,r,_,_⟩:=S.rep;cases r with
 | cons r _=>exact r.ez S.zh λ_ _=>rfl
theorem bC.pop(S:Qb7):bC K CL b H Z δ U ts vs:=by
 obtain⟨fp,gp,e,r,nd,k⟩:=S.rep;cases r with
 | @cons _ _ _ _ f1 f2 f c=>
  refine#[#[fp,f2,e,c,nd.sublist Qmc,λa d=>k a ?_],S.bh,S.zz,S.zh,S.new,S.tp,S.tab];obtain h|h:=eB.1 d
  .exact e6 _ h
  simp_all
theorem bC.push{d:D}(S:QaB)(r:Qd4):bC K CL b H Z δ U (.sh d::ts) QaW:=by
 obtain⟨fp,gp,e,a,nd,k⟩:=S.rep;exact#[#[fp,_,e,.cons QjM a,nd,k],S.bh,S.zz,S.zh,S.new,S.tp,S.tab]
theorem bC.xV(S:Qb7):∃Z',aA Z Z'/\bC K CL b H Z' δ U (.sh t.ez::ts) QaW:=by
 classical
 obtain⟨fp,gp,e,r,nd,k⟩:=S.rep;cases r with
 | @cons _ _ _ _ f1 f2 l j=>
  have f:=λa c=>k a (e4 _ (e6 _ c));have sz:aA Z _:=λa o q=>by
   by_cases c:a∈f1
   .rw[(f a c).1]at q;cases q
   .show(if a∈f1 then H a else Z a)=some o;rw[cq c];exact q
  have d:=hV.1 nd;have m:∀a∈fp++f2,a∉f1:=λa c h1=>by
   obtain h|h:=eB.1 c
   .exact d.2.2 a h a (e6 _ h1) rfl
   .exact(hV.1 d.2.1).2.2 a h1 a h rfl
  refine#[ _,sz,#[#[fp,[]++f2,e.mono sz Qch,.cons (.sh (l.ez sz λa c=>ee c)) (j.mono sz λ_ _=>rfl),?_,λa c=>?_],S.bh,S.zz.trans sz,λa o q=>?_,λa o q z=>?_,λa o q i=>?_,S.tab]]
  .exact nd.sublist Qmc
  .have g:a∈fp++f2:=c;refine#[?_,(k a ?_).2]
   .rw[cq (m a g)];refine(k a ?_).1;obtain h|h:=eB.1 g
    .exact e6 _ h
    .exact e4 _ (e4 _ h)
   simp_all
  .have q':=q;by_cases c:a∈f1
   .rw[ee c]at q';exact q'
   .rw[cq c]at q';exact S.zh a o q'
  .have q':=q;by_cases c:a∈f1
   .exact(f a c).2
   .rw[cq c]at q';exact S.new a o q' z
  .exact sz a o (S.tp a o q i)
theorem bC.KL{i:Nat}(S:QaB)(hi:δ[i]? = some QaD):∃v Z',U[i]? = some Qa1/\aA Z Z'/\bC K CL b H Z' (δ.set i Qiz) U (.sh t.ez::ts) QaW:=by
 classical
 obtain⟨fp,gp,e,r,nd,k⟩:=S.rep;obtain⟨v,f1,f2,f3,hv,p,rt,put,_⟩:=e.get hi;subst p;have m:∀a∈f2,Z a=none/\b.B a=none:=λa c=>k a (by simp[c]);have sz:aA Z Qkr:=λa o q=>by
  by_cases c:a∈f2
  .rw[(m a c).1]at q;cases q
  .show Qhw=some o;rw[cq c];exact q
 have u:∀a∈QdR++gp,a∉f2:=λa c n=>by
  have s:(Qdu++gp).Perm (f2++(QdR++gp)):=by
   rw[<- eJ,<- eJ];refine(List.perm_append_right_iff gp).2 ?_;rw[<- eJ];exact(List.perm_append_right_iff f3).2 iw
  exact(hV.1 (s.nodup_iff.1 nd)).2.2 a n a c rfl
 have l:bK K CL Qkr t.ez v:=rt.ez sz λa c=>ee c;have d:U.set i Qa1=U:=by
  apply kb;intro j;rw[List.getElem?_set];split
  .rename_i h;subst h;split
   .exact hv.symm
   .rename_i n;rw[List.getElem?_eq_none We]
  .rfl
 have e2:d8 K CL H Qkr (δ.set i Qiz) U (f1++([]++f3)):=by
  have:=put (H':=H) (t':=.sh t.ez) (v':=v) (g:=[]) sz Qch (.sh l)
  rwa [d]at this
 refine#[v,λa=>if a∈f2 then H a else Z a,hv,sz,#[#[f1++([]++f3),[]++gp,e2,.cons (.sh l) (r.mono sz λ_ _=>rfl),?_,λa c=>?_],S.bh,S.zz.trans sz,λa o q=>?_,λa o q z=>?_,λa o q i=>sz a o (S.tp a o q i),S.tab]]
 .exact nd.sublist (kc Qmc (jJ _))
 .have f:a∈QdR++gp:=c;have hm:a∈Qdu++gp:=by
   simp only[eB]at f ⊢;rcases f with(h|h)|h
   .exact .inl Qe0
   .exact .inl (.inr (.inr h))
   .exact .inr h
  refine#[?_,(k a hm).2];show Qhw=none;rw[cq (u a f)];exact(k a hm).1
 .have q':Qhw=some o:=q;by_cases c:a∈f2
  .rw[ee c]at q';exact q'
  .rw[cq c]at q';exact S.zh a o q'
 .have q':Qhw=some o:=q;by_cases c:a∈f2
  .exact(m a c).2
  .rw[cq c]at q';exact S.new a o q' z
theorem bC.move{i:Nat}(S:QaB)(hi:δ[i]? = some QaD):∃v,U[i]? = some Qa1/\bC K CL b H Z (δ.set i none) U Qb2 QaW:=by
 obtain⟨fp,gp,e,r,nd,k⟩:=S.rep;obtain⟨v,f1,f2,f3,hv,f,rt,_,del⟩:=e.get hi;subst f;have c:U.set i Qa1=U:=by
  apply kb;intro j;rw[List.getElem?_set];split
  .rename_i h;subst h;split
   .exact hv.symm
   simp_all
  .rfl
 have d:(Qdu++gp).Perm (QdR++(f2++gp)):=by
  have h1:(f2++f3).Perm _:=iw;have l:=(kT f1 h1).append_right gp;simp_all
 refine#[v,hv,#[#[ _,_,?_,.cons rt r,d.nodup_iff.1 nd,λa g=>k a (d.mem_iff.2 g)],S.bh,S.zz,S.zh,S.new,S.tp,S.tab]];have:=del (o:=some v)
 rwa [c]at this
theorem bC.look{i:Nat}(S:QaB)(hi:δ[i]? = some QaD):∃v,U[i]? = some Qa1/\bK K CL H t.ez v:=by
 obtain⟨fp,gp,e,r,nd,k⟩:=S.rep;obtain⟨v,f1,f2,f3,hv,a,rt,_,_⟩:=e.get hi;exact#[v,hv,rt.ez S.zh λ_ _=>rfl]
theorem bC.RL{i:Nat}{d:D}(S:QaB)(hi:δ[i]? = some Qbs):∃v,U[i]? = some Qa1/\bK K CL Z d v:=by
 obtain⟨fp,gp,e,r,nd,k⟩:=S.rep;obtain⟨v,f1,f2,f3,hv,a,rt,_,_⟩:=e.get hi;obtain⟨rfl,h⟩:=rt.El;exact#[v,hv,h]
theorem bC.set{i:Nat}(S:Qb7)(hi:i<δ.length):bC K CL b H Z (δ.set i QaD) QeB ts vs:=by
 obtain⟨fp,gp,e,r,nd,k⟩:=S.rep;cases r with
 | @cons _ _ _ _ f1 f2 j h=>
  obtain⟨f,h1,d,n,m⟩:=e.put j hi;have c:(f++f2).Perm (d++QjH):=by
   refine(m.append_right f2).trans ?_;rw[<- eJ];exact iw.append_right f2
  have g:(d++QjH).Sublist _:=kc n (jJ _);exact#[#[f,f2,h1,h,c.nodup_iff.2 (nd.sublist g),λa l=>k a (g.subset (c.mem_iff.1 l))],S.bh,S.zz,S.zh,S.new,S.tp,S.tab]
end
mutual
def D.iQ:D->Bool
 | .tup ds=>D.bV ds
 | .lst _=>false
 | .ins _ _=>false
 | .iY _=>false
 | .dct _=>false
 | .any=>false
 | .B4 _ _ _=>false
 | _=>true
def D.bV:BC->Bool
 | []=>true
 | d::ds=>d.iQ&&D.bV ds
end
mutual
def T.clean:T->Bool
 | .sh d=>d.iQ
 | .tup ts=>T.cG ts
 | .lst ts=>T.cG ts
 | .ins _ fs=>T.cy fs
 | .iY aU=>D.bV (aU.map (·.2))
 | .dct aU=>T.B6 aU
 | .pin _ t=>t.clean
 | .B4 _ _ _=>false
def T.cG:B2->Bool
 | []=>true
 | t::ts=>t.clean&&T.cG ts
def T.cy:B1->Bool
 | []=>true
 | (_,t)::ts=>t.clean&&T.cy ts
def T.B6:Cl->Bool
 | []=>true
 | (_,t)::ts=>t.clean&&T.B6 ts
end
def bG(X:Cx)(CL:BM)(b:Bx)(e:Expr)(δ:Ap)(t:T)(δ':Ap):Prop:=
 ∀(H Z:Hp) (U:L2.St) (ts:B2) (vs:BY) (Q:VK),bC X.K CL b H Z δ U ts vs->(∀v H' Z',aA Z Z'->aA H H'->bC X.K CL b H' Z' δ' U Qb2 QaW->Q v H')->z9 X e U H Q
def bT(X:Cx)(CL:BM)(b:Bx)(e:Expr)(δ:Ap)(d:D)(δ':Ap):Prop:=
 ∀(H Z:Hp) (U:L2.St) (ts:B2) (vs:BY) (Q:VK),bC X.K CL b H Z δ U ts vs->(∀v H' Z',aA Z Z'->aA H H'->bC X.K CL b H' Z' δ' U ts vs->bK X.K CL H' d v->Q v H')->z9 X e U H Q
def kX(X:Cx)(CL:BM)(b:Bx)(e:Expr)(δ:Ap)(p:Bool)(δ':Ap):Prop:=
 ∀(H Z:Hp) (U:L2.St) (ts:B2) (vs:BY) (Q:ET),bC X.K CL b H Z δ U ts vs->(∀H' Z',aA Z Z'->aA H H'->bC X.K CL b H' Z' δ' U ts vs->Q p H')->Xp X e U H Q
def B7(X:Cx)(CL:BM)(b:Bx)(es:CC)(δ:Ap)(tl:B2)(δ':Ap):Prop:=
 ∀(H Z:Hp) (U:L2.St) (ts:B2) (vs:BY) (Q:EQ),bC X.K CL b H Z δ U ts vs →
  (∀us H' Z',us.length=tl.length->aA Z Z'->aA H H'->bC X.K CL b H' Z' δ' U QlF Qew->Q us H')->Aa X es U H Q
def DZ(X:Cx)(CL:BM)(b:Bx)(es:CC)(δ:Ap)(ds:BC)(δ':Ap):Prop:=
 ∀(H Z:Hp) (U:L2.St) (ts:B2) (vs:BY) (Q:EQ),bC X.K CL b H Z δ U ts vs →
  (∀us H' Z',aA Z Z'->aA H H'->bC X.K CL b H' Z' δ' U ts vs->aL X.K CL H' ds us->Q us H')->Aa X es U H Q
structure c6 where
 nx:Ap->Prop
 rt:T->Ap->Prop
 bk:Ap->Prop:=λ_=>False
 ct:Ap->Prop:=λ_=>False
structure Meets(K:Frag)(CL:BM)(b:Bx)(Z:Hp)(ts:B2)(vs:BY)(D:c6)(E:Ends):Prop where
 nx:∀δ' U' H' Z',aA Z Z'->bC K CL b H' Z' δ' U' ts vs->D.nx δ'->E.nx U' H'
 rt:∀t v H' Z' δ' U',aA Z Z'->bC K CL b H' Z' δ' U' Qb2 QaW->D.rt t δ'->E.rt v H'
 bk:∀δ' U' H' Z',aA Z Z'->bC K CL b H' Z' δ' U' ts vs->D.bk δ'->E.bk U' H'
 ct:∀δ' U' H' Z',aA Z Z'->bC K CL b H' Z' δ' U' ts vs->D.ct δ'->E.ct U' H'
def QG(X:Cx)(CL:BM)(b:Bx)(st:Stmt)(δ:Ap)(D:c6):Prop:=
 ∀(H Z:Hp) (U:L2.St) (ts:B2) (vs:BY) (E:Ends),bC X.K CL b H Z δ U ts vs->Meets X.K CL b Z ts vs D E->RK X st E U H
def cJ(X:Cx)(CL:BM)(b:Bx)(st:CS)(δ:Ap)(D:c6):Prop:=
 ∀(H Z:Hp) (U:L2.St) (ts:B2) (vs:BY) (E:Ends),bC X.K CL b H Z δ U ts vs->Meets X.K CL b Z ts vs D E->Nm X st E U H
section
variable{b:Bx}{v:V}
theorem Meets.mono{D:c6}{E:Ends}(M:Qh2)(e:Qb3):Meets K CL b Z' ts vs D E:=
 #[λ_ _ _ _ s=>M.nx _ _ _ _ Qjj,λ_ _ _ _ _ _ s=>M.rt _ _ _ _ _ _ Qjj,λ_ _ _ _ s=>M.bk _ _ _ _ Qjj,λ_ _ _ _ s=>M.ct _ _ _ _ Qjj]
def Xr(zh:∀a o,H a=some o->fV o=true->Z a=some o)(h:lK K H a xs):lK K Z a xs:=by
 rcases h with(h|⟨o,h⟩)|h
 .exact .inl (.inl (zh _ _ h rfl))
 .exact .inl (.inr #[o,zh _ _ h rfl])
 .exact .inr h
theorem bK.iQ(zh:∀a o,H a=some o->fV o=true->Z a=some o){d:D}(k:d.iQ=true)(h:bK K CL H d v):bK K CL Z d v:=
 bK.rec (motive_2:=λd v _=>D.bV d=true->aL K CL Z d v) (motive_3:=λd v _=>True) (motive_4:=λd v _=>True) (motive_5:=λd v _=>True)
  (λ_=>.non) (λb _=>.bl b) (λb _=>.int b) (λb _=>.str b) (λ_ k=>by cases k) (λb _=>.val b) (λh _ r k=>.tup (Xr zh h) (r (‹_›))) (λ_ _ _ k=>by cases k) (λ_ _ _ k=>by cases k) (λ_ _ _ k=>by cases k) (λ_ _ _ k=>by cases k) (λ_ _ _ _ _ k=>by rw[D.iQ]at k;cases k) QbA (λ_ _ h r k=>by rw[D.bV,gm]at k;exact .cons QjQ QjR) trivial QaK trivial QaK trivial QaK h k
theorem aL.iQ(zh:∀a o,H a=some o->fV o=true->Z a=some o){d:BC}{v:BY}(k:D.bV d=true)(h:aL K CL H d v):aL K CL Z d v:=aL.ind (P:=λd v=>D.bV d=true->aL K CL Z d v) QbA (λr _ i k=>by rw[D.bV,gm]at k;exact .cons (r.iQ zh k.1) (i k.2)) h k
theorem b6.clean{Z1:Hp}(a:∀{d:D} {v:V},d.iQ=true->bK K CL Z1 d v->bK K CL Z d v){aU:CI}{gs:Cn}(k:D.bV (aU.map (·.2))=true)(h:b6 K CL Z1 aU gs):b6 K CL Z aU gs:=
 b6.ind (P:=λaU gs=>D.bV (aU.map _)=true->b6 K CL Z aU gs) QbA (λh _ i k=>by rw[eM,D.bV,gm]at k;exact .cons (a k.1 h) (i k.2)) h k
theorem bL.clean{Z1:Hp}(zh:∀a xs,Z1 a=some Qa2->Z a=some Qa2)(b:∀{d:D} {v:V},d.iQ=true->bK K CL Z1 d v->bK K CL Z d v)(k:t.clean=true)(h:bL K CL H Z1 t v fp):bL K CL H Z t v fp:=
 bL.rec (motive_2:=λt v fp _=>T.cG t=true->aS K CL H Z t v fp) (motive_3:=λt v fp _=>T.cy t=true->cZ K CL H Z t v fp) (motive_4:=λt v fp _=>T.B6 t=true->fP K CL H Z t v fp)
  (λh k=>.sh (b (‹_›) h)) (λh _ r k=>.tup (zh _ _ h) (r (‹_›))) (λh _ r k=>.lst h (r (‹_›))) (λh _ r k=>.ins h (r (‹_›))) (λh f k=>.iY h (b6.clean b (‹_›) f)) (λh _ r k=>.dct h (r (‹_›))) (λ_ r k=>.pin (r (‹_›))) (λ_ _ _ k=>by rw[T.clean]at k;cases k) QbA (λ_ _ h r k=>by rw[T.cG,gm]at k;exact .cons QjQ QjR) QbA (λ_ _ h r k=>by rw[T.cy,gm]at k;exact .cons QjQ QjR) QbA (λ_ _ h r k=>by rw[T.B6,gm]at k;exact .cons QjQ QjR) h k
theorem bC.back{W W':Hp}(S:QaB)(p:QbM)(s:aA Z W)(ww:aA W W')(m:aA W' H')(new:∀a o,W' a=some o->W a=none->H a=none)
  (tp:∀a o,H' a=some o->fV o=true->W' a=some o) (r:bL K CL H' W' t v fp) (nd:fp.Nodup) (own:∀a∈fp,W' a=none/\H a=none) (c:W=Z\/t.clean=true) :
  ∃Z',aA Z Z'/\bC K CL b H' Z' δ U Qb2 QaW:=by
 classical
 let Z':Hp:=λa=>if (H a).isSome=true then Z a else W' a
 have zs:∀{a:Addr} {o:HO},H a=some o->Z' a=Z a:=λ{a o} e=>by
  show Qqv=Z a;rw[ee (by rw[e];rfl)]
 have zn:∀{a:Addr},H a=none->Z' a=W' a:=λ{a} e=>by
  show Qqv=W' a;rw[cq (by rw[e];simp)]
 have sz:aA Z Z':=λa o q=>by rw[zs (S.zh a o q)];exact q
 have l:∀a o,Z' a=some o->W' a=some o:=λa o q=>by
  cases e:H a with
  | none=>rw[zn e]at q;exact q
  | some u=>rw[zs e]at q;exact ww a o (s a o q)
 have g:∀a o,H' a=some o->fV o=true->Z' a=some o:=λa o q i=>by
  cases e:H a with
  | none=>rw[zn e];exact tp a o q i
  | some u=>
   rw[zs e];have:=p a u e;rw[q]at this;cases this;exact S.tp a o e i
 have x:bL K CL H' Z' t v fp:=by
  obtain c|c:=c
  .have:Z'=W':=by
    funext a;cases e:H a with
    | none=>exact zn e
    | some u=>
     rw[zs e];cases q:W' a with
     | none=>
      cases j:Z a with
      | none=>rfl
      | some o=>rw[ww a o (s a o j)]at q;cases q
     | some o=>
      cases j:W a with
      | none=>rw[new a o q j]at e;cases e
      | some y=>
       have:=ww a y j;rw[q]at this;cases this;rw[<- c];exact j
   rw[this];exact r
  .refine bL.clean (λa xs h=>?_) (λ{d v} k h=>?_) c r
   .exact g a _ (m a _ h) rfl
   .exact bK.iQ (H:=H') g k (h.mono m)
 obtain⟨f0,g0,e0,w,n,k0⟩:=S.rep;have old:∀a∈f0++g0,∃o,H a=some o:=λa f=>(eB.1 f).elim (e0.there a) (w.there a);have keep:∀a∈f0++g0,H' a=H a:=λa f=>by
  obtain⟨o,e⟩:=old a f;rw[e];exact p a o e
 refine#[Z',sz,#[#[f0,fp++g0,e0.mono sz (λa f=>keep a (e6 _ f)),.cons x (w.mono sz λa f=>keep a (e4 _ f)),?_,λa f=>?_],S.bh.trans p,S.zz.trans sz,λa o q=>m a o (l a o q),λa o q z=>?_,g,S.tab]]
 .have A:(f0++(fp++g0)).Perm (fp++(f0++g0)):=by
   rw[<- eJ,<- eJ];exact iw.append_right g0
  refine A.nodup_iff.2 (hV.2 #[nd,n,λa f c B e=>?_]);subst e;obtain⟨o,q⟩:=old a B;rw[(own a f).2]at q;cases q
 .have:a∈f0++g0\/a∈fp:=by
   simp only[eB]at f ⊢;obtain h|h|h:=f
   .exact .inl Qe0
   .exact .inr h
   .exact .inl (.inr h)
  obtain h|h:=this
  .obtain⟨o,q⟩:=old a h;exact#[by rw[zs q];exact(k0 a h).1,(k0 a h).2]
  .exact#[by rw[zn (own a h).2];exact(own a h).1,S.bh.free (own a h).2]
 .cases e:H a with
  | none=>exact S.bh.free e
  | some u=>rw[zs e]at q;exact S.new a o q z
end
section
variable{b:Bx}{δ1 δ2:Ap}{e1 e2:Expr}{pos:Pos}{d d1 d2:D}
noncomputable def KG(h:QaC):bT X CL b e δ t.ez δ1:=λH Z U ts vs Q S k=>h H Z U ts vs Q S λv H' Z' z s a=>k v H' Z' z s a.pop a.view
def ak(h:QhN):bT X CL b e δ d δ1:=by have:=KG h;rwa [T.ez]at this
noncomputable def aH(h:Qd5)(i:d.iQ=true):bG X CL b e δ (.sh d) δ1:=λH Z U ts vs Q S k=>h H Z U ts vs Q S λv H' Z' z s a r=>k v H' Z' z s (a.push (bK.iQ a.tp i r))
def B8(h:QaC):bG X CL b e δ (.sh t.ez) δ1:=λH Z U ts vs Q S k=>h H Z U ts vs Q S λv H' Z' z s d=>by
 obtain⟨Z2,a,c⟩:=d.xV;exact k v H' Z2 (z.trans a) s c
def fW{i:Int}{j:Nat}:bG X CL b Qlr δ (.sh Qa0) δ:=λH Z U ts vs Q S k=>bM abG (k _ _ Z QF QF (S.push Qa0))
def d9{i:Bool}{j:Nat}:bG X CL b (.Constant (.bool i) j pos) δ (.sh (.bl i)) δ:=λH Z U ts vs Q S k=>bM UP (k _ _ Z QF QF (S.push (.bl i)))
def RN{j:Nat}:bG X CL b QtQ δ (.sh .non) δ:=λH Z U ts vs Q S k=>bM abH (k _ _ Z QF QF (S.push .non))
def bE{x:Str}{j:Nat}:bG X CL b Qls δ (.sh QaL) δ:=λH Z U ts vs Q S k=>bM abI (k _ _ Z QF QF (S.push QaL))
section
variable{x:Str}(i:Nat)(hi:X.N[i]? = some x:=by rfl)(hv:Qng:=by first|exact Or.inl rfl|exact Or.inr (Or.inl rfl)|exact Or.inr (Or.inr rfl))(hd:AD x:=by decide)(iM:AE x:=by decide)
include hi hv hd iM
def acv(h:δ[i]? = some Qbs:=by rfl):bG X CL b Qat δ (.sh d) δ:=λH Z U ts vs Q S k=>by
 obtain⟨v,e,r⟩:=S.RL h;exact bM QfQ #[v,e,k v H Z QF QF (S.push r)]
def Xs(h:δ[i]? = some QaD:=by rfl):bG X CL b Qat δ (.sh t.ez) (δ.set i Qiz):=λH Z U ts vs Q S k=>by
 obtain⟨v,Z',e,z,a⟩:=S.KL h;exact bM QfQ #[v,e,k v H Z' z QF a]
def Xu(h:δ[i]? = some QaD:=by rfl):bG X CL b Qat δ t (δ.set i none):=λH Z U ts vs Q S k=>by
 obtain⟨v,e,a⟩:=S.move h;exact bM QfQ #[v,e,k v H Z QF QF a]
def acw(h:δ[i]? = some QaD:=by rfl):bT X CL b Qat δ t.ez δ:=λH Z U ts vs Q S k=>by
 obtain⟨v,e,r⟩:=S.look h;exact bM QfQ #[v,e,k v H Z QF QF S r]
end
noncomputable def Xv:D->Option V
 | .non=>some .non
 | .bl b=>some QdU
 | .int i=>some Qa0
 | .str x => some QaL
 | _=>none
theorem bK.sc{d:D}{v w:V}(r:Qd4)(h:Xv d=some w):v=w:=by
 cases r<;>first|(exact gv h)|(cases h)
def Xw{d:D}{w:V}(h:Xv d=some w):bK K CL Z d w:=by
 cases d<;>first|(cases h;constructor)|(cases h)
def oh{op:QjU}{r:R2}{c a w:V}(j:Qvx)(h1:QgP)(l:QgQ)(s1:Xv d1=some c)(s2:Xv d2=some a)(s3:Xv d=some w)
  (i:∀(H:Hp) (Q:VK),Q w H->r c a H Q):bG X CL b (.BinOp e1 op e2 pos) δ (.sh d) δ2:=λH Z U ts vs Q S k=>by
 refine bM (uZ j bZ bZ) (h1 H Z U ts vs _ S λv1 H1 Z1 f k1 n h=>l H1 Z1 U ts vs _ n λv2 H2 Z2 e k2 m g=>?_);rw[h.sc s1,g.sc s2];exact i H2 Q (k w H2 Z2 (f.trans e) Qag (m.push (Xw s3)))
noncomputable def dR{i j:Int}(h1:QaY)(a:Qa5):bG X CL b QcG δ (.sh (.int (i+j))) δ2:=oh ab0 h1 a rfl rfl rfl λ_ _ q=>#[i,j,rfl,rfl,q]
noncomputable def jr{i j:Int}(h1:QaY)(a:Qa5):bG X CL b (.BinOp e1 .Sub e2 pos) δ (.sh (.int (i-j))) δ2:=oh ab1 h1 a rfl rfl rfl λ_ _ q=>#[i,j,rfl,rfl,q]
noncomputable def B9{i j:Int}(h1:QaY)(a:Qa5)(c:W6 i j):bG X CL b QtB δ (.sh (.int (i*j))) δ2:=oh ab2 h1 a rfl rfl rfl λ_ _ q=>#[i,j,rfl,rfl,c,q]
noncomputable def bN{i j:Int}(h1:QaY)(a:Qa5)(c:0<j):bG X CL b (.BinOp e1 .Mod e2 pos) δ (.sh (.int (i % j))) δ2:=oh ab3 h1 a rfl rfl rfl λ_ _ q=>#[i,j,rfl,rfl,c,q]
noncomputable def cC{i j:Int}(h1:QaY)(a:Qa5)(c:Ha i j):bG X CL b (.BinOp e1 .FloorDiv e2 pos) δ (.sh (.int (i / j))) δ2:=oh W7 h1 a rfl rfl rfl λ_ _ q=>#[i,j,rfl,rfl,c,q]
noncomputable def Ca{i j:Int}(h1:QaY)(a:Qa5)(c:G6 i j):bG X CL b (.BinOp e1 .Pow e2 pos) δ (.sh (.int (i ^ j.toNat))) δ2:=oh ab4 h1 a rfl rfl rfl λ_ _ q=>#[i,j,rfl,rfl,c,q]
noncomputable def bO{x y:Str}(h1:Qd6)(a:bT X CL b e2 δ1 (.str y) δ2)(c:x.length+y.length<=sizeLine):bG X CL b QcG δ (.sh (.str (x++y))) δ2:=oh Hv h1 a rfl rfl rfl λ_ _ q=>#[x,y,rfl,rfl,c,q]
def nJ{op:CmpOp}{r:R2}{p:Bool}{i h:V}(l:QgG)(h1:QgP)(m:QgQ)(s1:Xv d1=some i)(s2:Xv d2=some h)
  (j:∀(H:Hp) (Q:VK),Q (.bl p) H->r i h H Q) (hm:QuM):kX X CL b QhJ δ p δ2/\bG X CL b QhJ δ (.sh (.bl p)) δ2:=by
 constructor
 .intro H Z U ts vs Q S k;refine se (pQ l bZ bZ hm) (h1 H Z U ts vs _ S λv1 H1 Z1 c k1 g e=>m H1 Z1 U ts vs _ g λv2 H2 Z2 a k2 f d=>?_);rw[e.sc s1,d.sc s2];exact j H2 _ #[p,rfl,k H2 Z2 Qco Qag f]
 .intro H Z U ts vs Q S k;refine bM (pP l bZ bZ hm) (h1 H Z U ts vs _ S λv1 H1 Z1 c k1 g e=>m H1 Z1 U ts vs _ g λv2 H2 Z2 a k2 f d=>?_);rw[e.sc s1,d.sc s2];exact j H2 _ (k _ H2 Z2 Qco Qag (f.push (.bl p)))
def Xi{c a:V}(h1:QgP)(d:QgQ)(s1:Xv d1=some c)(s2:Xv d2=some a)(sc:zr c a=true) :
  kX X CL b QbQ δ (decide (c=a)) δ2/\bG X CL b QbQ δ (.sh (.bl (decide (c=a)))) δ2:=nJ Ra h1 d s1 s2 (λ_ _ q=>#[sc,q]) (jS _)
theorem bw{i j:Int}(h1:QaY)(a:Qa5):kX X CL b QbQ δ (decide (i=j)) δ2/\bG X CL b QbQ δ (.sh Ql2) δ2:=
 nJ Ra h1 a rfl rfl (λ_ _ q=>#[rfl,by simp_all ]) (jS _)
theorem g5{i j:Int}(h1:QaY)(a:Qa5):kX X CL b Qek δ (!decide (i=j)) δ2/\bG X CL b Qek δ (.sh Ql3) δ2:=
 nJ Rb h1 a rfl rfl (λ_ _ q=>#[rfl,by simp_all ]) (jS _)
theorem aZ{i j:Str}(h1:QhH)(a:QhG):kX X CL b QbQ δ (decide (i=j)) δ2/\bG X CL b QbQ δ (.sh Ql2) δ2:=
 nJ Ra h1 a rfl rfl (λ_ _ q=>#[rfl,by simp_all ]) (jS _)
theorem oi{i j:Str}(h1:QhH)(a:QhG):kX X CL b Qek δ (!decide (i=j)) δ2/\bG X CL b Qek δ (.sh Ql3) δ2:=
 nJ Rb h1 a rfl rfl (λ_ _ q=>#[rfl,by simp_all ]) (jS _)
def sf{i j:Int}(h1:QaY)(a:Qa5):kX X CL b QsP δ (decide (i<j)) δ2/\bG X CL b QsP δ (.sh (.bl (decide (i<j)))) δ2:=nJ Kx h1 a rfl rfl Qej (jS _)
def KA{i j:Int}(h1:QaY)(a:Qa5):kX X CL b Qsu δ (decide (i<=j)) δ2/\bG X CL b Qsu δ (.sh (.bl (decide (i<=j)))) δ2:=nJ Ky h1 a rfl rfl Qej (jS _)
def lO{i j:Int}(h1:QaY)(a:Qa5):kX X CL b Qk6 δ (decide (j<i)) δ2/\bG X CL b Qk6 δ (.sh (.bl Qns)) δ2:=nJ X2 h1 a rfl rfl Qej (jS _)
def xW{i j:Int}(h1:QaY)(a:Qa5):kX X CL b Qsv δ (decide (j<=i)) δ2/\bG X CL b Qsv δ (.sh (.bl (decide (j<=i)))) δ2:=nJ X1 h1 a rfl rfl Qej (jS _)
end
theorem aS.split:∀{as bs:B2} {us ws:BY} {gp:BN},as.length=us.length->aS K CL H Z (as++bs) QjG gp->∃g1 g2,gp=g1++g2/\aS K CL H Z as us g1/\aS K CL H Z bs ws g2
 | [],_,[],_,gp,_,r=>#[[],gp,rfl,.nil,r]
 | [],_,_::_,_,_,h,_=>by simp at h
 | _::_,_,[],_,_,h,_=>by simp at h
 | a::as,bs,u::us,ws,gp,h,r=>by
  cases r with
  | @cons _ _ _ _ f1 f2 c b=>
   obtain⟨g1,g2,e,h1,d⟩:=aS.split WE b;exact#[ _,g2,WE,.cons c h1,d]
variable{us:BY}
theorem aS.app{as bs:B2}{ws:BY}{g1 g2:BN}(h:aS K CL H Z as us g1)(q:aS K CL H Z bs ws g2):aS K CL H Z (as++bs) QjG Qgt:=
 aS.ind (P:=λas us g1=>aS K CL H Z (as++bs) QjG Qgt) q (λr _ i=>by rw[eJ];exact .cons r i) h
theorem aS.rev:∀{as:B2} {us:BY} {g:BN},aS K CL H Z as.reverse us.reverse g->∃g',aS K CL H Z as us g'/\g'.Perm g
 | [],[],g,r=>by grind
 | [],u::us,g,r=>by have:=r.length;simp at this
 | a::as,[],g,r=>by have:=r.length;simp at this
 | a::as,u::us,g,r=>by
  rw[ka,ka]at r;have i:=r.length;obtain⟨g1,g2,e,c,b⟩:=aS.split WE r;subst e;obtain⟨g',d,p⟩:=aS.rev c;cases b with
  | @cons _ _ _ _ f1 f2 h f=>
   cases f;refine#[ _,.cons h d,?_];rw[f6];exact(kT f1 p).trans iw
theorem aS.M5{ds:BC}:aL K CL Z ds us->aS K CL H Z QbU us []:=
 aL.ind (P:=λds us=>aS K CL H Z QbU us []) .nil λr _ i=>.cons QjM i
theorem aS.toF:∀{ds:BC} {us:BY} {g:BN},aS K CL H Z QbU us g->aL K CL Z ds us/\g=[]
 | [],_,_,r=>by
  have a:=r;cases a;exact#[.nil,rfl]
 | d::ds,_,_,r=>by
  have a:=r;cases a with
  | cons c b=>
   obtain⟨rfl,h⟩:=c.El;obtain⟨q,e⟩:=aS.toF b;exact#[.cons h q,‹_› ]
theorem gX:∀(ds:BC),T.fK QbU=ds
 | []=>rfl
 | d::ds=>by rw[eM,T.fK,gX ds,T.ez]
variable{b:Bx}{tl:B2}{p:Addr}
theorem bC.tY(S:QxP)(s:Qip)(d:QgO) :
  aA Z Qpo/\aA H Qpp/\bC K CL b Qpp Qpo δ U (.tup tl::ts) Qor:=by
 obtain⟨fp,gp,e,r,nd,k⟩:=S.rep;obtain⟨g1,g2,n,l,j⟩:=aS.split WF r;subst n;obtain⟨g',m,pm⟩:=l.rev;have g:=S.zh.free d;have sz:aA Z Qpo:=aA.upd g;have sh:aA H Qpp:=aA.upd d;have keep:∀a∈fp++Qgt,a≠p:=λa c=>by
  have:∃o,H a=some o:=by
   obtain h|h:=eB.1 c
   .exact e.there a h
   .exact r.there a h
  obtain⟨o,q⟩:=this;exact bD q d
 have f:=(pm.append_right g2).append_left fp;have kk:=λa c=>keep a QmR;refine#[sz,sh,#[#[fp,_,e.mono sz QkM,.cons (.tup aR (m.mono sz λa c=>aB (kk a (by simp[c])))) (j.mono sz λa c=>aB (keep a (by simp[c]))),f.nodup_iff.2 nd,λa c=>?_],S.bh.trans sh,S.zz.trans sz,λa o q=>?_,λa o q z=>?_,λa o q i=>?_,S.tab]]
 .exact#[ aB (kk a c)▸(k a QmR).1,(k a QmR).2]
 .by_cases c:a=p
  .subst c;rw[aR]at q ⊢;exact q
  .rw[aB c]at q ⊢;exact S.zh a o q
 .by_cases c:a=p
  .subst c;exact S.bh.free d
  .rw[aB c]at q;exact S.new a o q z
 .by_cases c:a=p
  .subst c;rw[aR]at q ⊢;exact q
  .rw[aB c]at q ⊢;exact S.tp a o q i
theorem bC.qZ{g0:BN}(S:QxP)(t:Qip)(f:QgO) :
  aA H QmY/\bC K CL b QmY Z δ U (.lst tl::ts) Qor:=by
 obtain⟨fp,gp,e,r,nd,k⟩:=S.rep;obtain⟨g1,g2,s,m,l⟩:=aS.split WF r;subst s;obtain⟨g',n,pm⟩:=m.rev;have j:=S.zh.free f;have sh:aA H QmY:=aA.upd f;have keep:∀a∈fp++Qgt,a≠p:=λa c=>by
  have:∃o,H a=some o:=by
   obtain h|h:=eB.1 c
   .exact e.there a h
   .exact r.there a h
  obtain⟨o,q⟩:=this;exact bD q f
 have g:=(pm.append_right g2).append_left fp;have kk:=λa c=>keep a (g.mem_iff.1 c);have d:(fp++((p::g')++g2)).Perm (p::(fp++(g'++g2))):=by simp
 refine#[sh,#[#[fp,_,e.mono QF QkM,.cons (.lst aR (n.mono QF λa c=>aB (kk a (by simp[c])))) (l.mono QF λa c=>aB (keep a (by simp[c]))),?_,λa c=>?_],S.bh.trans sh,S.zz,S.zh.trans sh,S.new,λa o q i=>?_,S.tab]]
 .refine d.nodup_iff.2 (iu.2 #[λh=>kk p h rfl,g.nodup_iff.2 nd])
 .obtain h|h:=eg.1 (d.mem_iff.1 c)
  .subst h;exact#[j,S.bh.free f]
  .exact k a (g.mem_iff.1 h)
 .by_cases c:a=p
  .subst c;rw[aR]at q;cases q;cases i
  .rw[aB c]at q;exact S.tp a o q i
section
variable{δ1 δ2:Ap}{e1 e2:Expr}{p q:Bool}{pos:Pos}{d:D}{ds:BC}
def bP:B7 X CL b [] δ [] δ:=λH Z U ts vs Q S k=>Ab cQ (k [] H Z rfl QF QF S)
theorem aN(h1:QaC)(g:B7 X CL b es δ1 tl δ2)(d:Qax:=by exact aY rfl):B7 X CL b Qau δ (t::tl) δ2:=λH Z U ts vs Q S k=>
 Ab (bI bZ B5 d) (h1 H Z U ts vs _ S λv H1 Z1 c k1 h=>g H1 Z1 U _ _ _ h λus H2 Z2 f a k2 i=>k _ H2 Z2 (by simp[f]) Qco Qag WE)
def av:DZ X CL b [] δ [] δ:=λH Z U ts vs Q S k=>Ab cQ (k [] H Z QF QF S .nil)
def ai(h1:Qd5)(i:Qut)(h:Qax:=by exact aY rfl):DZ X CL b Qau δ (d::ds) δ2:=λH Z U ts vs Q S k=>
 Ab (bI bZ B5 h) (h1 H Z U ts vs _ S λv H1 Z1 c k1 l g=>i H1 Z1 U _ _ _ l λus H2 Z2 a k2 j f=>k _ H2 Z2 Qco Qag j Quu)
def rg{j:Nat}(h:QlP)(g:QmD):bG X CL b Qv5 δ (.tup tl) δ1:=λH Z U ts vs Q S k=>
 bM (acd B5) (h H Z U ts vs _ S λus H1 Z1 d e k1 l=>#[ d▸g,λp f=>by
  obtain⟨a,c,i⟩:=l.tY d f;exact k _ _ _ (e.trans a) Qja i])
theorem aP{j:Nat}(h:QrJ)(a:QaP):bG X CL b Qv5 δ (.sh QdI) δ1:=by
 have:=B8 (rg (pos:=pos) (j:=j) h WE)
 rwa [T.ez,gX]at this
def cT(h:QlP)(f:QmD):bG X CL b Qnu δ (.lst tl) δ1:=λH Z U ts vs Q S k=>
 bM (ace B5) (h H Z U ts vs _ S λus H1 Z1 a d k1 i=>#[ a▸f,λp e=>by
  obtain⟨c,g⟩:=i.qZ (g0:=[]) a e;exact k _ _ _ d Qja g])
def cO(h:QkP)(he:∀whole,isTrue e X.env whole=(do let v ← whole;standAt e.pos;holding [v] Qgc):=by intro _;rfl):kX X CL b e δ p δ1:=λH Z U ts vs Q S k=>
 se (abJ bZ he) (h H Z U ts vs _ S λv H1 Z1 c k1 a=>#[p,by have:=a.view;exact this.sc rfl,k H1 Z1 c k1 a.pop])
def c7(h:QbS):kX X CL b (.UnaryOp .Not e pos) δ (!p) δ1:=λH Z U ts vs Q S k=>se (abM lb) Qib
noncomputable def y3(X:Cx)(e:Expr):TT:=λU H Q=>∀(whole:Sem Value) (pins:At) (s:Qb),Inv X pins U H s->wpAny QE X.A Qt3 QeE X.xe s
noncomputable def E1:PW X e (y3 X e):=λwhole pins s _ _ _ I h=>h _ pins s I
def nN(X:Cx)(CL:BM)(b:Bx)(e:Expr)(δ:Ap)(p:Bool)(δ':Ap):Prop:=
 ∀(H Z:Hp) (U:L2.St) (ts:B2) (vs:BY) (Q:ET),bC X.K CL b H Z δ U ts vs->(∀H' Z',aA Z Z'->aA H H'->bC X.K CL b H' Z' δ' U ts vs->Q p H')->y3 X e U H Q
noncomputable def Xx{t:TT}(h:PW X e t)(q:t U H Q):y3 X e U H Q:=λwhole pins s I=>h _ pins s U H Q I q
noncomputable def dM(h:nN X CL b e δ p δ1):kX X CL b e δ p δ1:=λH Z U ts vs Q S k pins s I=>h H Z U ts vs Q S k _ pins s I
def eK(h:QbS):nN X CL b (.BoolOp .And [e] pos) δ p δ1:=λH Z U ts vs Q S k=>Xx (W3 lb) Qib
def gJ(h:QbS):nN X CL b (.BoolOp .Or [e] pos) δ p δ1:=λH Z U ts vs Q S k=>Xx (abK lb) Qib
theorem cz(h:QbS)(f:p=true->nN X CL b QsQ δ1 q δ1):nN X CL b QsR δ (p&&q) δ1:=λH Z U ts vs Q S k=>
 Xx (abL lb E1) (h H Z U ts vs _ S λH1 Z1 a k1 c=>by
  cases p with
  | true=>exact HL QpZ
  | false=>exact HK Qwz)
theorem fL(h:QbS)(f:p=false->nN X CL b Qs4 δ1 q δ1):nN X CL b Qs5 δ (p || q) δ1:=λH Z U ts vs Q S k=>
 Xx (T2 lb E1) (h H Z U ts vs _ S λH1 Z1 a k1 c=>by
  cases p with
  | true=>exact HL Qwz
  | false=>exact HK QpZ)
def gK{op:BoolOp}(h:QaC):bG X CL b (.BoolOp op [e] pos) δ t δ1:=λH Z U ts vs Q S k=>bM (abN bZ) Qib
def g6(h:QkP)(f:p=true->bG X CL b QsQ δ1 (.sh (.bl q)) δ1):bG X CL b QsR δ (.sh (.bl (p&&q))) δ1:=λH Z U ts vs Q S k=>
 bM (abO bZ bZ) (h H Z U ts vs _ S λv H1 Z1 c k1 a=>by
  have hv:=by have:=a.view;exact this.sc rfl
  refine#[p,hv,?_];cases p with
  | true=>exact HL QpT
  | false=>exact HK (k _ H1 Z1 c k1 (a.pop.push Qb0)))
def KN(h:QkP)(f:p=false->bG X CL b Qs4 δ1 (.sh (.bl q)) δ1):bG X CL b Qs5 δ (.sh (.bl (p || q))) δ1:=λH Z U ts vs Q S k=>
 bM (TZ bZ bZ) (h H Z U ts vs _ S λv H1 Z1 c k1 a=>by
  have hv:=by have:=a.view;exact this.sc rfl
  refine#[p,hv,?_];cases p with
  | true=>exact HL (k _ H1 Z1 c k1 (a.pop.push QaV))
  | false=>exact HK QpT)
theorem xX(h:QbS)(h1:p=true->bG X CL b e1 δ1 t δ2)(g:p=false->bG X CL b e2 δ1 t δ2):bG X CL b (.IfExp e e1 e2 pos) δ t δ2:=λH Z U ts vs Q S k=>
 bM (Q5 lb bZ bZ) (h H Z U ts vs _ S λH1 Z1 d k1 f=>by
  cases p with
  | true=>exact HL (h1 rfl H1 Z1 U ts vs _ f λv H2 Z2 a k2 c=>k v H2 Z2 Qoi Qag c)
  | false=>exact HK (g rfl H1 Z1 U ts vs _ f λv H2 Z2 a k2 c=>k v H2 Z2 Qoi Qag c))
theorem wH{k:Int}(r:QiT)(h:QgR):∃v,mD vs k=some v/\bK K CL Z d v:=by
 unfold mD at h ⊢;rw[<- r.length];cases e:DX _ k with
 | none=>rw[e]at h;cases h
 | some j=>
  rw[e]at h;exact r.get h
def aq{k:Int}(h1:bT X CL b e1 δ (.tup ds) δ1)(m:QgS)(l:QgR)(i:mG e2:=by exactλ_ _=>rfl):bT X CL b Qeq δ d δ2:=λH Z U ts vs Q S kk=>
 bM Qxi (h1 H Z U ts vs _ S λv1 H1 Z1 c k1 p h=>m H1 Z1 U ts vs _ p λv2 H2 Z2 a k2 o g=>by
  have n:=h.mono k2;obtain⟨_,_,rfl,j,f⟩:=n.kW;obtain⟨v,hv,e⟩:=wH f l;exact#[_,_,k,v,rfl,g.sc rfl,j,hv,kk v H2 Z2 Qco Qag o e])
def ay{k:Int}(h1:Qsw)(m:QgS)(l:QgR)(i:mG e2:=by exactλ_ _=>rfl):bT X CL b Qeq δ d δ2:=λH Z U ts vs Q S kk=>
 bM Qxj (h1 H Z U ts vs _ S λv1 H1 Z1 c k1 p h=>m H1 Z1 U ts vs _ p λv2 H2 Z2 a k2 o g=>by
  have n:=h.mono k2;obtain⟨_,_,rfl,j,f⟩:=n.i9;obtain⟨v,hv,e⟩:=wH f l;exact#[_,_,k,v,rfl,g.sc rfl,j,hv,kk v H2 Z2 Qco Qag o e])
def Cb{k:Int}{x:Str}{c:Nat}(h1:Qd6)(j:QgS)(h:Qxk)(i:mD x.cps.toList k=some c)(g:mG e2:=by exactλ_ _=>rfl):bG X CL b Qeq δ (.sh (.str #[(List.toArray [c])])) δ2:=λH Z U ts vs Q S kk=>
 bM (AY aci bZ bZ g) (h1 H Z U ts vs _ S λv1 H1 Z1 d k1 m f=>j H1 Z1 U ts vs _ m λv2 H2 Z2 a k2 l e=>
  #[x,k,c,f.sc rfl,e.sc rfl,h,i,kk _ H2 Z2 Qoi Qag (l.push QcY)])
def mH{k:Int}(h1:QgT)(m:QgS)(l:QgR)(i:mG e2:=by exactλ_ _=>rfl):bG X CL b Qeq δ (.sh d) δ2:=λH Z U ts vs Q S kk=>
 bM Qxi (h1 H Z U ts vs _ S λv1 H1 Z1 e k1 n=>m H1 Z1 U _ _ _ n λv2 H2 Z2 c k2 a h=>by
  obtain⟨fp,gp,_,r,_,_⟩:=a.rep;cases r with
  | cons r _=>
   replace r:=r.El;obtain⟨rfl,r⟩:=r;obtain⟨_,_,rfl,j,g⟩:=r.kW;obtain⟨v,hv,f⟩:=wH g l;exact#[_,_,k,v,rfl,h.sc rfl,aA.DY a.zh j,hv,kk v H2 Z2 (e.trans c) Qag Qxl])
def iR{k:Int}(h1:bG X CL b e1 δ (.sh QbZ) δ1)(m:QgS)(l:QgR)(i:mG e2:=by exactλ_ _=>rfl):bG X CL b Qeq δ (.sh d) δ2:=λH Z U ts vs Q S kk=>
 bM Qxj (h1 H Z U ts vs _ S λv1 H1 Z1 e k1 n=>m H1 Z1 U _ _ _ n λv2 H2 Z2 c k2 a h=>by
  obtain⟨fp,gp,_,r,_,_⟩:=a.rep;cases r with
  | cons r _=>
   replace r:=r.El;obtain⟨rfl,r⟩:=r;obtain⟨_,_,rfl,j,g⟩:=r.i9;obtain⟨v,hv,f⟩:=wH g l;exact#[_,_,k,v,rfl,h.sc rfl,a.zh.seq j,hv,kk v H2 Z2 (e.trans c) Qag Qxl])
end
theorem bC.nK:∀{ds:BC} {us:BY} {ts:B2} {vs:BY},aL K CL Z ds us->bC K CL b H Z δ U ts vs->bC K CL b H Z δ U ((ds.map T.sh).reverse++ts) Qew
 | _,_,_,_,.nil,S=>S
 | _,_,ts,vs,.cons r t,S=>by
  rw[eM,ka,ka,eJ,eJ];exact bC.nK t (S.push r)
theorem bC.drops(S:QkH)(a:Qip):bC K CL b H Z δ U ts vs:=by
 induction tl generalizing us with
 | nil=>
  cases us with
  | nil=>exact S
  | cons _ _=>simp at a
 | cons t tl c=>
  cases us with
  | nil=>simp at a
  | cons u us=>exact c S.pop WE
theorem bC.Xz{ds:BC}(S:bC K CL b H Z δ U ((ds.map T.sh).reverse++ts) Qew)(d:us.length=ds.length):aL K CL Z ds us:=by
 obtain⟨fp,gp,e,r,nd,k⟩:=S.rep;obtain⟨g1,g2,g,a,f⟩:=aS.split (by simp[d]) r;obtain⟨g',c,pm⟩:=a.rev;exact c.toF.1
section
variable{δ1:Ap}{p q:Bool}{pos pp:Pos}{ds:BC}
def KP(hm:QgU)(h:Qe9)(g:QgV:=by rfl)(a:Qaz:=by exact aY rfl)(hpl:(backTo pos (starEach ([]:CC) X.env)).any (·.1)=false:=by rfl):bG X CL b Qhv δ (.sh Qv6) δ1:=λH Z U ts vs Q S k=>
 bM QqE (h H Z U ts vs _ S λv H1 Z1 c k1 i r=>by
  obtain⟨_,_,rfl,f,d⟩:=r.i9;exact#[_,_,rfl,.inl f,d.length▸k _ H1 Z1 c k1 QwA ])
def pU(hm:QgU)(h:bT X CL b e δ (.tup ds) δ1)(g:QgV:=by rfl)(a:Qaz:=by exact aY rfl):bG X CL b Qhv δ (.sh Qv6) δ1:=λH Z U ts vs Q S k=>
 bM QqE (h H Z U ts vs _ S λv H1 Z1 c k1 i r=>by
  obtain⟨_,_,rfl,f,d⟩:=r.kW;exact#[_,_,rfl,.inr f,by rw[<- d.length];exact k _ H1 Z1 c k1 QwA])
def wI{x:Str}(hm:QgU)(h:bT X CL b e δ (.str x) δ1)(d:Qxk)(f:QgV:=by rfl)(a:Qaz:=by exact aY rfl):bG X CL b Qhv δ (.sh (.int x.length)) δ1:=λH Z U ts vs Q S k=>
 bM (iD BW f hm PySem.boot_len Qdz (he:=a)) (h H Z U ts vs _ S λv H1 Z1 c k1 g r=>#[x,by rw[r.sc rfl],d,k _ H1 Z1 c k1 QwB])
def ja(hm:X.mg "list" = none)(h:Qe9)(hi:QgW)(m:Gl X "list":=by rfl)(hv:bootBuiltins "list" = some Qnh:=by rfl)(d:Qaz:=by exact aY rfl):bG X CL b (.Call (.Name "list" pp) [e] [] pos) δ (.lst QbU) δ1:=λH Z U ts vs Q S k=>
 bM (jM BX m hm hv Qje (he:=d)) (h H Z U ts vs _ S λv H1 Z1 g k1 f r=>by
  obtain⟨_,_,rfl,i,a⟩:=r.i9;refine#[_,_,rfl,.inl i,λl j=>?_];obtain⟨c,n⟩:=(bC.nK (aL.iQ f.tp hi a) f).qZ (g0:=[]) (by simp[a.length]) j;exact k _ _ _ g Qja n)
def zW(X:Cx)(CL:BM)(b:Bx)(e:Expr)(δ:Ap)(P:Qfa)(δ':Ap):Prop:=
 ∀(H Z:Hp) (U:L2.St) (ts:B2) (vs:BY) (Q:VK),bC X.K CL b H Z δ U ts vs->(∀t v H' Z',P t->aA Z Z'->aA H H'->bC X.K CL b H' Z' δ' U Qb2 QaW->Q v H')->z9 X e U H Q
theorem bG.tq(h:QaC):zW X CL b e δ (· = t) δ1:=λH Z U ts vs Q S k=>h H Z U ts vs Q S λv H' Z'=>k t v H' Z' rfl
theorem zW.v(h:zW X CL b e δ (· = t) δ1):bG X CL b e δ t δ1:=λH Z U ts vs Q S k=>h H Z U ts vs Q S λ_ v H' Z' q=>q▸k v H' Z'
def tW(K:Frag)(CL:BM){A:Type}(n:Nat)(arg:Qak)(Pre:Qae)(R:QnU):Sp:=λvs H Q _=>
 ∃(W:Hp) (a:A),aA W H/\(∀c o,H c=some o->fV o=true->W c=some o)/\aL K CL W Qb1 vs/\(arg a).length=n/\Pre a/\iE CL W ∧
  ∀t v H' W' fp,R a t->aA H H'->aA W W'->aA W' H'->(∀c o,W' c=some o->W c=none->H c=none)->(∀c o,H' c=some o->fV o=true->W' c=some o) →
   bL K CL H' W' t v fp->fp.Nodup->(∀c∈fp,W' c=none/\H c=none)->Q v H'
def G7(K:Frag)(CL:BM){A:Type}(n:Nat)(arg:Qak)(Pre:Qae)(res:QaA):Sp:=λvs H Q _=>
 ∃(W:Hp) (a:A),aA W H/\(∀c o,H c=some o->fV o=true->W c=some o)/\aL K CL W Qb1 vs/\(arg a).length=n/\Pre a/\iE CL W ∧
  ∀v H' W' fp,aA H H'->aA W W'->aA W' H'->(∀c o,W' c=some o->W c=none->H c=none)->(∀c o,H' c=some o->fV o=true->W' c=some o) →
   bL K CL H' W' QdN v fp->fp.Nodup->(∀c∈fp,W' c=none/\H c=none)->Q v H'
def U2{A:Type}{n:Nat}{arg:Qak}{Pre:Qae}{res:QaA}(vs:BY)(H:Hp)(Q:VK)(E:XK)(h:G7 K CL n arg Pre res vs H Q E):tW K CL n arg Pre Qu5 vs H Q E:=by
 obtain⟨W,a,h1,f,e,d,c,b,k⟩:=h;exact#[W,a,h1,f,e,d,c,b,λt v H' W' fp q=>q▸k v H' W' fp]
def Yf{A:Type}{n:Nat}{arg:Qak}{Pre:Qae}{res:QaA}(vs:BY)(H:Hp)(Q:VK)(E:XK)(h:tW K CL n arg Pre Qu5 vs H Q E):G7 K CL n arg Pre res vs H Q E:=by
 obtain⟨W,a,h1,f,e,d,c,b,k⟩:=h;exact#[W,a,h1,f,e,d,c,b,λv H' W' fp=>k _ v H' W' fp rfl]
variable{A:Type}{k n:Nat}{f:Addr}{fd:QaG}{ps:AT}{x:Str}{arg:Qak}{Pre:Qae}{res:QaA}
def XA(a:A)(F:Qqx)(m:Qcx)(hm:Qd0)(p:Qd1)(hb:QgX)
  (h:QgY) (hn:Qb4) (o:Pre a) (t:QmS) (s:Qad)
  (l:AD x:=by decide) (he:Qax:=by exact aY rfl) (hpl:QaU:=by rfl) :
  bG X CL b Qbb δ (res a) δ1:=λH Z U ts vs Q S kk=>
 bM (wC F m s hm p hb .nil A0 B5 l he hpl) (h H Z U ts vs _ S λus H1 Z1 g k1 c r=>by
  rw[f6];refine#[H1,a,.refl _,λ_ _ q _=>q,r,hn,o,c.Nq,λv H' W' fp d ww j nw tp rt nd own=>?_];obtain⟨Z',i,u⟩:=c.back d c.zh ww j nw tp rt nd own (.inr t);exact kk v H' Z' (g.trans i) (k1.trans d) u)
theorem Nt{R:QnU}(a:A)(F:eX X.prog X.w X.K X.mg X.base pT k f fd ps (tW X.K CL n arg Pre R))(p:Qcx)(hm:Qd0)(r:Qd1)(hb:QgX)
  (h:Qky) (hn:Qb4) (q:Pre a) (s:Qad)
  (m:AD x:=by decide) (he:Qax:=by exact aY rfl) (hpl:QaU:=by rfl) :
  zW X CL b Qbb δ (R a) δ1:=λH Z U ts vs Q S kk=>
 bM (wC F p s hm r hb .nil A0 B5 m he hpl) (h H Z U ts vs _ S λus H1 Z1 z i k1 d=>by
  rw[f6];have c:us.length=(arg a).length:=by simp_all
  have u:=d.drops (by simp[c]);refine#[Z1,a,d.zh,d.tp,d.Xz c,hn,q,d.Xq,λt v H' W' fp o g ww l nw tp rt nd own=>?_];obtain⟨Z',j,y⟩:=u.back g QF ww l nw tp rt nd own Qay;exact kk t v H' Z' o (i.trans j) (k1.trans g) y)
def RP(a:A)(F:Qqx)(d:Qcx)(hm:Qd0)(i:Qd1)(hb:QgX)
  (h:Qky) (hn:Qb4) (g:Pre a) (j:Qad)
  (c:AD x:=by decide) (he:Qax:=by exact aY rfl) (hpl:QaU:=by rfl) :
  bG X CL b Qbb δ (res a) δ1:=(Nt a (F.imp λvs H Q E h=>Yf vs H Q E h) d hm i hb h hn g j c he hpl).v
variable{D D':c6}{st:Stmt}{dP af1:CS}
theorem Meets.to{E:Ends}(M:Qh2)(h1:∀δ,D'.nx δ->D.nx δ)(d:∀t δ,D'.rt t δ->D.rt t δ)(c:∀δ,D'.bk δ->D.bk δ)(a:∀δ,D'.ct δ->D.ct δ):Meets K CL b Z ts vs D' E:=
 #[λ_ _ _ _ s S k=>M.nx _ _ _ _ s S (h1 _ k),λ_ _ _ _ _ _ s S k=>M.rt _ _ _ _ _ _ s S (d _ _ k),λ_ _ _ _ s S k=>M.bk _ _ _ _ s S (c _ k),λ_ _ _ _ s S k=>M.ct _ _ _ _ s S (a _ k)]
def aj(h:D.nx δ):cJ X CL b [] δ D:=λH Z U ts vs E S M=>Np Kq (M.nx δ U H Z QF S h)
def bR(h:QG X CL b st δ {D with nx:=λδ1=>cJ X CL b dP δ1 D}):cJ X CL b (st::dP) δ D:=λH Z U ts vs E S M=>
 Np QoH (h H Z U ts vs _ S #[λδ' U' H' Z' s a k=>k H' Z' U' ts vs E a (M.mono s),M.rt,M.bk,M.ct])
def acA(h:QaC)(k:D.rt t δ1):QG X CL b Qt4 δ D:=λH Z U ts vs E S M=>n8 (Hr bZ) (h H Z U ts vs _ S λv H1 Z1 a k1 c=>M.rt t v H1 Z1 δ1 U a c k)
theorem Ya(h:QbS)(h1:p=true->cJ X CL b dP δ1 D)(d:p=false->cJ X CL b af1 δ1 D):QG X CL b (.If e dP af1 pos) δ D:=λH Z U ts vs E S M=>
 n8 (TM lb Nn Nn) (h H Z U ts vs _ S λH1 Z1 a k1 c=>by
  cases p with
  | true=>exact HL (h1 rfl H1 Z1 U ts vs E c (M.mono a))
  | false=>exact HK (d rfl H1 Z1 U ts vs E c (M.mono a)))
def Cd{P:Qfa}(i:Nat){pos':Pos}(h:Qmi)(k:∀t,P t->D.nx (δ1.set i QaD))(f:Qbl:=by decide)(g:QaX:=by assumption)(hi:X.N[i]? = some x:=by rfl)(c:Qc4:=by first|exact .inl rfl|exact .inr rfl)
  (d:Qef:=by rfl) (hf:Qc5:=by first|exact .inl rfl|exact .inr rfl|assumption):QG X CL b Qk2 δ D:=λH Z U ts vs E S M=>
 n8 (Q7 g hi c bZ d hf) (h H Z U ts vs _ S λt v H1 Z1 p a k1 j=>M.nx _ _ H1 Z1 a (j.set f) (k t p))
def HP(i:Nat){pos':Pos}(h:QaC)(k:D.nx (δ1.set i QaD))(d:Qbl:=by decide)(f:QaX:=by assumption)(hi:X.N[i]? = some x:=by rfl)(a:Qc4:=by first|exact .inl rfl|exact .inr rfl)
  (c:Qef:=by rfl) (hf:Qc5:=by first|exact .inl rfl|exact .inr rfl|assumption):QG X CL b Qk2 δ D:=Cd i (bG.tq h) (λ_ q=>q▸k) d f hi a c hf
end
noncomputable def entry(N:AT)(ds:BC):Ap:=ds.map QhZ++List.replicate (N.length-ds.length) none
theorem jT{K:Frag}{CL:BM}{H Z:Hp}:∀{ds:BC} {vs:BY} (n:Nat),aL K CL Z ds vs->d8 K CL H Z (ds.map QhZ++List.replicate n none) QkK []
 | _,_,0,.nil=>.nil
 | _,_,n+1,.nil=>.skip (jT n .nil)
 | _,_,n,.cons r t=>.cons QjM (jT n t)
variable{P:Q2}{w:World}{mg:BS}{base:Heap}{x qual:Str}{st:Stmt}{f:Addr}{fd:QaG}{N ps:AT}{k:Nat}
def Ce{sp:Sp}(F:Qc8)(S:Qb5)(len:∀vs H Q E,sp vs H Q E->vs.length=ps.length)
  (b:∀(dO:Value) (A:Qaj) (outer:Co) (s:Qb) (H:Hp) (vs:BY) (Q:VK) (E:XK),fd.code=dO->dJ k (A.deeper Qfm)->sp vs H Q E →
   ∃t,Ko (kE pT P w K mg base N qual Qan f dO A outer s H E).MN Qba t/\t {nx:=λ_ H'=>Q .non H',rt:=Q} (L2.start N vs) H):eX P w K mg base pT Qaf f fd ps sp:=by
 obtain⟨dV,oc,od,kV,doc,pm,an,dO,ct,BP,rfl,lk,iM⟩:=F.ex;refine Rp lk iM S len λA outer s H vs Q E a c=>?_;obtain⟨t,h,q⟩:=b dO A _ s H vs Q E rfl a c;exact#[t,h.MN,q]
variable{A:Type}
theorem RQ{arg:Qak}{Pre:Qae}{R:QnU}(F:Qc8)(S:Qb5)
  (hb:∀(dO:Value) (g:Qaj) (outer:Co) (s:Qb) (H:Hp) (E:XK) (b:Bx) (a:A),fd.code=dO->dJ k (g.deeper Qfm)->Pre a →
   cJ (kE pT P w K mg base N qual Qan f dO g outer s H E).MN CL b Qba Qdr {nx:=λ_=>R a Qgd,rt:=λt _=>R a t}) :
  eX P w K mg base pT Qaf f fd ps (tW K CL ps.length arg Pre R):=by
 refine Ce F S (λvs H Q E h=>?_) (λdO g outer s H vs Q E iM n h=>?_)
 .obtain⟨W,a,_,_,r,i,_⟩:=h;rw[<- r.length];exact i
 .obtain⟨W,a,j,tp,r,i,p,tb,kk⟩:=h;refine#[_,Nn,hb dO g _ s H E #[H,W] a iM n p H W _ [] [] _ #[#[[],[],?_,.nil,l0,λa d=>by cases d],.refl _,.refl _,j,λa o q z=>?_,tp,tb] #[λδ' U' H' Z' s' c e=>?_,λt v H' Z' δ' U' s' c e=>?_,λ_ _ _ _ _ _ e=>e.elim,λ_ _ _ _ _ _ e=>e.elim]]
  .unfold entry L2.start;rw[<- r.length];exact jT _ r
  .grind
  .exact kk _ .non H' Z' [] e c.bh c.zz c.zh c.new c.tp Qgd l0 λa d=>by cases d
  .obtain⟨fp,gp,_,m,nd,own⟩:=c.rep;cases m with
   | @cons _ _ _ _ f1 f2 l u=>
    have h1:=(hV.1 nd).2.1;exact kk t v H' Z' f1 e c.bh c.zz c.zh c.new c.tp l (hV.1 h1).1 λa d=>own a (e4 _ (e6 _ d))
def xY{arg:Qak}{Pre:Qae}{res:QaA}(F:Qc8)(S:Qb5)
  (hb:∀(dO:Value) (c:Qaj) (outer:Co) (s:Qb) (H:Hp) (E:XK) (b:Bx) (a:A),fd.code=dO->dJ k Qv7->Pre a →
   cJ (kE pT P w K mg base N qual Qan f dO c outer s H E).MN CL b Qba Qdr {nx:=λ_=>res a=.sh .non,rt:=λt _=>t=res a}) :
  eX P w K mg base pT Qaf f fd ps QrK:=(RQ F S λdO c outer s H E b a g d e=>λH1 Z U ts vs i S M=>hb dO c outer s H E b a g d e H1 Z U ts vs i S (M.to (λ_ q=>q.symm) QmT QbI QbI)).imp λvs H Q E h=>U2 vs H Q E h
variable{prog:Q2}{A:Qaj}{R:Qh8}{s:Qb}{elt iter:Expr}{ifs:CC}{scope:Scope}{pos:Pos}
theorem Cg{target:Expr}{it acc:Value}{E:BB}(I:Nat->Shared->Prop)(ex:∀ev s,E ev s->notedBy Qab A env (λx s'=>R (.error x) s') ev s)
  (turn:∀n s,I n s->wpAny Qab A (pyNext it) (λr d=>match r with
   | none=>R Qjk d
   | some v=>wpAny Qab A (letOwnedTupleGo target it v) (λ_ b=>wpAny Qab A (assign target env v) (λ_ g=>
     wpAny Qab A (forIn ifs true λc r=>if r=true then do let ok ← isTrue c env (eval c env);pure Quv else pure Qmd) (λok a=>
      if ok=true then wpAny Qab A (eval elt env) (λx f=>
       wpAny Qab A (call (.builtin "list.append") [acc,x]) (λ_ e=>∃m,m<n/\I m e) E f) E a
      else ∃m,m<n/\I m a) E g) E b) E d) E s)
  (n:Nat) (h:I n s) :
  codeAny Qab A (.compLoop (.ListComp elt [#[target,iter,ifs,0]] scope pos) 0 it acc env) R s:=by
 refine codeAny_loop rfl I (λn s q=>?_) n h;refine wpAny_noted ?_;rw[compTurn_list];refine eh (mM (eh (hF (turn n s q) (λr d j=>?_) ex)));cases r with
 | none=>exact fo j
 | some v=>
  refine eh (hF j (λ_ b k=>?_) ex);refine eh (hF k (λ_ g p=>eh (hF p (λok a i=>?_) ex)) ex);cases ok with
  | false=>exact fo #[rfl,i]
  | true=>
   exact eh (eh (hF i (λx f o=>eh (hF o (λ_ e l=>fo (fo #[rfl,l])) ex)) ex))
abbrev _root_.DA:=List (Str×NameKind)
abbrev _root_.DO:=List (Str×Addr)
noncomputable def fX(env:Env):DA->DO->DO
 | [],cs=>cs
 | (n,k)::r,cs=>fX env r (if k == .free then(n,(env.cells.lookup n).getD 0)::cs else cs)
theorem Ac(h:∀x∈scope.names,x.2=.free->∃c,env.cells.lookup x.1=some c):closureFor scope env=pure (fX env scope.names []):=by
 have go:∀(l:Qe8) (cs:Qe8),(∀x∈l,x.2=.free->∃c,env.cells.lookup x.1=some c) →
   (forIn l cs λx r=>match x with|(name,kind)=>if (kind==NameKind.free)=true then do let a ← cellOf env name;pure (ForInStep.yield ((name,a)::r)) else pure Qmd:Sem _)=pure (fX env l cs):=by
  intro l
  induction l with
  | nil=>intro cs _;rfl
  | cons x r f=>
   intro cs d;obtain⟨n,k⟩:=x;rw[List.forIn_cons];by_cases i:k=.free
   .subst i;obtain⟨c,g⟩:=d _ eu rfl;have e:cellOf env n=pure c:=by unfold cellOf;rw[g]
    simp only[beq_self_eq_true,if_true,e,pure_bind];rw[f _ λy b=>d y Qbw];simp[fX,if_true];rw[g];rfl
   .have hb:Qmu=false:=by grind
    simp only[hb,Bool.false_eq_true,if_false,pure_bind];rw[f _ λy b=>d y Qbw];simp[fX,hb,Bool.false_eq_true,if_false]
 unfold closureFor;have:=go _ [] h;simp only[bind_pure]at this ⊢;exact this
theorem rj{env:Env}:∀{l:DA} {cs:DO} {y:Str} {c:Addr},(∀x∈l,x.2=.free->∃c,env.cells.lookup x.1=some c)->(∀y c,cs.lookup y=some c->env.cells.lookup y=some c) →
  (fX env l cs).lookup y=some c->env.cells.lookup y=some c
 | [],cs,y,c,_,h,e=>h y c e
 | (n,k)::r,cs,y,c,b,h,e=>by
  refine rj (λz a=>b z QdS) (λz d a=>?_) e;by_cases f:k=.free
  .subst f;obtain⟨i,g⟩:=b _ eu rfl;grind
  simp_all
theorem vg{env:Env}{y:Str}:∀{l:DA} {cs:DO},(∃c,cs.lookup y=some c)->∃c,(fX env l cs).lookup y=some c
 | [],cs,h=>h
 | (n,k)::r,cs,h=>by
  refine vg (l:=r) ?_;by_cases a:Qmu=true
  .rw[ee a,hT];by_cases b:(y==n)=true
   .rw[b];simp_all
   .have:(y==n)=false:=by simp_all
    rw[this];exact h
  .rw[cq a];exact h
theorem rq{env:Env}{y:Str}:∀{l:DA} {cs:DO},l.lookup y=some .free->∃c,(fX env l cs).lookup y=some c
 | [],_,h=>by simp at h
 | (n,k)::r,cs,h=>by
  rw[hT]at h;by_cases a:(y==n)=true
  .refine vg (l:=r) ?_;simp_all
  .have:(y==n)=false:=by simp_all
   rw[this]at h;exact rq (l:=r) h
def bf(X:Cx)(scope:Scope)(Nc:AT)(C:Addr)(s:Qb)(H:Hp)(fp:BN):Cx where
 prog:=X.prog
 w:=X.w
 K:=X.K
 mg:=X.mg
 base:=X.base
 A:=X.A
 N:=Nc
 eI:=s
 iB:=H
 env:=compEnvC scope Qfq C X.env
 outer:=X.stack
 stack:=X.stack
 ex:=fp
 fn:=λ_=>false
 calm:=X.calm
 pn:=[]
 xe:=λ_ _=>False
abbrev _root_.CO:=List Nat
structure fq(X:Cx)(scope:Scope)(x:Str)(Nc:AT)(ix:CO):Prop where
 kind:scope.kind=.function
 Ci:∀y∈scope.names,y.2 ≠ .cell
 nd:Nc.Nodup
 names:∀y∈scope.names,y.2=.local->scope.names.lookup y.1=some .local
 own:scope.names.lookup x=some .local
 frees:∀y∈scope.names,y.2=.free->scope.names.lookup y.1=some .free/\Qqy
 hd:Nc=x::ix.filterMap (X.N[·]?)
 qy:∀i∈ix,∃y,X.N[i]? = some y/\scope.names.lookup y=some .free
theorem fY{env:Env}:∀{names:DA} {x:Str} {k:NameKind},names.lookup x=some k ->
  (names.map λ(n,k)=>if (k==NameKind.free&&env.scope.kind == .function&&env.kindOf n==some .cell) then(n,NameKind.cell) else(n,k)).lookup x=some (if (k==NameKind.free&&env.scope.kind == .function&&env.kindOf x==some .cell) then .cell else k)
 | [],_,_,h=>by simp at h
 | (n,b)::r,x,k,h=>by
  have c:=@fY env r x k;show List.lookup x (Qpy::_)=_;cases a:x==n with
  | true=>
   simp[hT,a]at h;cases h;have e:x=n:=by grind
   subst e;split<;>simp
  | false=>
   simp[hT,a]at h;split
   .simp only[hT,a];exact c h
   .simp only[hT,a];exact c h
theorem jC{env:Env}:∀{names:DA} {x:Str},names.lookup x=none ->
  (names.map λ(n,k)=>if (k==NameKind.free&&env.scope.kind == .function&&env.kindOf n==some .cell) then(n,NameKind.cell) else(n,k)).lookup x=none
 | [],_,_=>rfl
 | (n,b)::r,x,h=>by
  have c:=@jC env r x;show List.lookup x (Qpy::_)=_;cases a:x==n with
  | true=>simp only[hT,a]at h;cases h
  | false=>
   simp only[hT,a]at h;split
   .simp only[hT,a];exact c h
   .simp only[hT,a];exact c h
variable{Nc:AT}{pins:At}
theorem A3{k:At}{U':L2.St}{s':Qb}{h'':Heap}(I:QK)(f:∀b∈fp,nX X pins H b)
  (J:Inv Qkz k U' H' s') (h:Heap.SameBut s.heap.objs.size s'.heap h''):Inv X pins U H' {s' with heap:=h''}:=by
 have un:Un QhS fp H H' s.heap _:=J.base;have i:Un QhS fp H H' s.heap h'':=by
  have ne:∀b o,s.heap.get? b=some o->b≠s.heap.objs.size:=λb o e=>hB (fv e);refine#[λb o e n hb a=>(h.2 b QoI).trans (un.keep b o e n hb a),λb o e n hb a=>?_,un.free,λb o e a=>?_,un.nV,un.fK,un.nW]
  .obtain⟨sl,q⟩:=un.slot b o e n hb a;exact#[sl,(h.2 b QoI).trans q]
  .obtain⟨o',q⟩:=un.there b o e a;exact#[o',(h.2 b QoI).trans q]
 have l:H' s.heap.objs.size=none:=J.free;have bW:=λb u e=>by
  refine(J.bW b u e).qV (λc v p q=>(h.2 c ?_).trans q) QbI λ_ _ q=>q;rintro rfl;grind
 obtain⟨m,g,d,t,j⟩:=s';obtain rfl:j=s.os:=J.os;exact I.call i bW J.bare λb hb=>#[(f b hb).2.2.2.1,(f b hb).2.1,(f b hb).2.2.2.2.1,(f b hb).2.2.2.2.2]
def zd(X:Cx):CC->TT
 | []=>λ_ H Q=>Q true H
 | [c]=>Xp X c
 | _=>λ_ _ _=>False
def RT(I:QK)(h:zd X ifs U H Q) :
  wpAny QE X.A (forIn ifs true λc r=>if r=true then do let ok ← isTrue c X.env (eval c X.env);pure Quv else pure Qmd) QeE X.xe s:=by
 match ifs,h with
 | [],h=>exact wpAny_tests_nil #[H,I,h]
 | [c],h=>
  exact wpAny_tests_one (h pins s I)
def qe(X:Cx)(CL:BM)(b:Bx)(ifs:CC)(δ:Ap)(p:Bool):Prop:=
 match ifs with
 | []=>p=true
 | [c]=>kX X CL b c δ p δ
 | _=>False
theorem qe.MU{p:Bool}(h:qe X CL b ifs δ p)(S:bC X.K CL b H Z δ U [] [])
  (k:∀H' Z',aA Z Z'->aA H H'->bC X.K CL b H' Z' δ U [] []->Q p H'):zd X ifs U H Q:=by
 match ifs,h with
 | [],h=>
  have e:=h;subst e;exact k H Z QF QF S
 | [c],h=>exact(h) H Z U [] [] Q S k
def iS:(T.lst ts).clean=T.cG ts:=rfl
theorem rA{g:Qcy}:∀{ds:BC},(∀d∈ds,(g d).clean=true)->T.cG (ds.map g)=true
 | [],_=>rfl
 | d::ds,h=>by
  rw[eM,T.cG,h d eu,rA λe he=>h e Qjx];rfl
variable{v:V}
theorem aS.at:∀{tl:B2} {us:BY} {fp:BN} {j:Nat} {t:T},aS K CL H Z tl us fp->tl[j]? = some t->∃v f1 f2 f3,us[j]? = some v/\fp=f1++Qdv/\bL K CL H Z t v f2 ∧
  ∀{H':Hp} {t':T} {v':V} {g:BN},(∀a∈f1++f3,H' a=H a)->bL K CL H' Z t' v' g->aS K CL H' Z (tl.set j t') (us.set j v') Qbt
 | _,_,_,_,_,.nil,e=>by simp at e
 | _,_,_,0,_,.cons (fp:=fp) (gp:=gp) r q,e=>by
  simp at e;subst e;exact#[_,[],fp,gp,rfl,rfl,r,λ{H' t' v' g} k b=>aS.cons (fp:=g) b (aS.mono QF (λa c=>k a (‹_›)) q)]
 | _,_,_,j+1,t,.cons (fp:=fp) r q,e=>by
  obtain⟨v,f1,f2,f3,h1,h,f,d⟩:=aS.at q (‹_›);refine#[v,fp++f1,f2,f3,‹_›,WE,f,λk b=>?_];rw[eJ];exact .cons (r.mono QF λa c=>k a (by simp[c])) (d (λa c=>k a WE) b)
variable{α:Type}{i:Nat}
theorem dS{l:QR}{x:α}(h:l[i]? = some x):l.set i x=l:=by
 apply kb;intro j;rw[List.getElem?_set];split
 .rename_i e;subst e;split
  .exact h.symm
  grind
 .rfl
variable{δ2:Ap}
theorem bC.write{f1 f2 f3 g gp e:BN}(S:QaB)(nd:(Qdu++gp).Nodup)(own:∀c∈Qdu++gp,Z c=none/\b.B c=none)(j:a∈f2)
  (l:∃o,H a=some o) (k:d8 K CL QmZ Z δ2 U Qbt) (h:aS K CL QmZ Z tl us e) (pm:(Qbt++e).Nodup) (sub:∀c∈Qbt++e,c∈Qdu++gp) :
  bC K CL b QmZ Z δ2 U tl us:=by
 have f:=own a (by simp[j]);refine#[#[_,_,k,h,pm,λc d=>own c (sub c d)],λc o q=>?_,S.zz,λc o q=>?_,S.new,λc o q i=>?_,S.tab]
 .rw[aB (bD q f.2)];exact S.bh c o q
 .rw[aB (bD q f.1)];exact S.zh c o q
 .by_cases d:c=a
  .subst d;rw[aR]at q;cases q;cases i
  .rw[aB d]at q;exact S.tp c o q i
theorem bC.append(S:Qb7)(hi:δ[i]? = some QnF) :
  ∃a us,U[i]? = some (some Qah)/\H a=some QeR/\us.length=tl.length/\bC K CL b QtC Z (δ.set i QnG) U ts vs:=by
 obtain⟨fp,gp,e,r,nd,k⟩:=S.rep;obtain⟨v0,f1,f2,f3,hv,q,rt,put,_⟩:=e.get hi;subst q;obtain⟨a,us,g,rfl,rfl,m,rs⟩:=rt.i9;cases r with
 | @cons _ _ _ _ j f p o=>
  have ne:∀c∈Qbt++(j++f),c≠a:=λc d e=>by
   subst e;have l:((f1++((c::g)++f3))++(j++f)).Perm (c::(Qbt++(j++f))):=by simp
   exact(iu.1 (l.nodup_iff.1 nd)).1 d
  refine#[a,us,hv,m,rs.length.symm,?_];have n:bL K CL _ Z _ Qah _:=
   .lst aR (aS.app (rs.mono QF λc d=>aB (ne c (by simp[d]))) (.cons (p.mono QF λc d=>aB (ne c (by simp[d]))) .nil))
  have e2:=put QF (λc d=>aB (ne c (by
   obtain h|h:=eB.1 d
   .simp[h]
   .simp[h]))) n
  rw[dS hv]at e2;have l:((f1++((a::(g++(j++[])))++f3))++f).Perm ((f1++((a::g)++f3))++(j++f)):=by
   simp only[f6,hS,eJ];refine kT f1 (List.Perm.cons a (kT g ?_));rw[<- eJ,<- eJ];exact iw.append_right f
  exact S.write nd k (eu) #[_,m] e2 (o.mono QF λc d=>aB (ne c (by simp[d]))) (l.nodup_iff.2 nd) λc d=>l.mem_iff.1 d
section
variable{δ1:Ap}{tl0:B2}{D:c6}{pp pa pb:Pos}
def acC(i:Nat)(h0:δ[i]? = some Qyf)(h:QaC)(h1:δ1[i]? = some QnF)(p:tl.length<sizeLine)(k:D.nx (δ1.set i QnG))
  (hi:X.N[i]? = some x:=by rfl) (hv:Qng:=by first|exact Or.inl rfl|exact Or.inr (Or.inl rfl)|exact Or.inr (Or.inr rfl)) (hd:AD x:=by decide) (iM:AE x:=by decide)
  (r:Qp3:=by rfl)
  (m:AB X pb e:=by rfl)
  (c:Qlo:=by rfl) (d:Qaz:=by exact aY rfl) (l:QqQ:=by rfl) :
  QG X CL b (.Expr Qkf pos) δ D:=λH Z U ts vs E S M=>
 n8 (rW (r9 PySem.F.plainAttrs_list PySem.F.slot_list_append PySem.F.type_list_append tX QfQ Qje r m c d rfl) l) (by
  obtain⟨v0,e0,j⟩:=S.look h0;refine#[v0,e0,?_,?_]
  .obtain⟨_,_,rfl,o,_⟩:=j.i9;exact .inl #[rfl,_,o]
  .refine h H Z U ts vs _ S λv H1 Z1 g k1 u=>?_;obtain⟨a,us,f,q,n,s⟩:=u.append h1;rw[e0]at f;cases f;exact#[a,us,v,rfl,rfl,q,n▸p,M.nx _ U _ Z1 g s k])
end
def HH:Option QkU->Option T
 | some (some t)=>some (.sh t.ez)
 | _=>none
noncomputable def Ec:Option QkU->Option T
 | some (some (T.sh d))=>some QhA
 | _=>none
def oj(δ:Ap)(ix:CO):Ap:=ix.map λi=>HH δ[i]?
def sj(δ:Ap)(ix:CO):Ap:=ix.map λi=>Ec δ[i]?
theorem sq(S:QaB):∀(ix:CO) (H':Hp),d8 K CL H' H (oj δ ix) (ix.map λi=>(U[i]?).getD none) []
 | [],_=>.nil
 | i::r,H'=>by
  have a:=sq S r H';show d8 K CL H' H (HH _::oj δ r) (((U[i]?).getD none)::r.map _) [];cases e:δ[i]? with
  | none=>exact .skip a
  | some o=>
   cases o with
   | none=>exact .skip a
   | some t=>
    obtain⟨v,hv,c⟩:=S.look e;rw[hv];exact .cons (.sh c) a
theorem Em(S:QaB):∀(ix:CO) (H':Hp),d8 K CL H' Z (sj δ ix) (ix.map λi=>(U[i]?).getD none) []
 | [],_=>.nil
 | i::r,H'=>by
  have a:=Em S r H';show d8 K CL H' Z (Ec _::sj δ r) (((U[i]?).getD none)::r.map _) [];cases e:δ[i]? with
  | none=>exact .skip a
  | some o=>
   cases o with
   | none=>exact .skip a
   | some t=>
    cases t with
    | sh d=>
     obtain⟨v,hv,c⟩:=S.RL e;rw[hv];exact .cons (.sh c) a
    | tup _=>exact .skip a
    | lst _=>exact .skip a
    | ins _ _=>exact .skip a
    | iY _=>exact .skip a
    | dct _=>exact .skip a
    | pin _ _=>exact .skip a
    | B4 _ _ _=>exact .skip a
section
variable{δ1:Ap}{ds:BC}
structure Comes(X:Cx)(CL:BM)(b:Bx)(δ1:Ap)(U:L2.St)(ts:B2)(vs:BY)(Z H:Hp)(ds:BC)(J:It)(H1:Hp):Prop where
 ex:∃Z1 us,aA Z Z1/\aA H H1/\bC X.K CL b H1 Z1 δ1 U ts vs/\aL X.K CL Z1 ds us/\(∀i H2,aA Z1 H2->i<ds.length->J.go i H2) ∧
  (∀i H2 x H',aA Z1 H2->i<ds.length->J.Ks i H2 x H'->H'=H2/\us[i]? = some x)/\(∀H2,aA Z1 H2->J.stop ds.length H2)
def QH(X:Cx)(CL:BM)(b:Bx)(tg e:Expr)(δ:Ap)(ds:BC)(δ1:Ap):Prop:=
 ∃a,PI X tg e a/\∀(H Z:Hp) (U:L2.St) (ts:B2) (vs:BY) (R:QgF),bC X.K CL b H Z δ U ts vs->(∀J H1,Comes X CL b δ1 U ts vs Z H ds J H1->R J H1)->a U H R
theorem cg{tg:Expr}(h:bG X CL b iter δ (.sh QbZ) δ1):QH X CL b tg iter δ ds δ1:=by
 refine#[_,BK bZ,λH Z U ts vs R S k=>h H Z U ts vs _ S λv H1 Z1 g k1 e=>?_];obtain⟨fp,gp,_,r,_,_⟩:=e.rep;cases r with
 | cons r _=>
  replace r:=r.El;obtain⟨rfl,r⟩:=r;obtain⟨a,us,rfl,c,d⟩:=r.i9;refine#[a,rfl,#[us,e.zh.seq c],k _ _ #[Z1,us,g,k1,e.pop,d,λi H2 s hi=>?_,λi H2 y H' s hi f=>#[f.1,f.2 us (s.seq c)],λH2 s=>#[us,s.seq c,by rw[d.length];grind]]];have j:=d.length▸hi;exact#[us,us[i],s.seq c,WA]
theorem mJ{tg:Expr}(h:bG X CL b iter δ (.sh QdI) δ1):QH X CL b tg iter δ ds δ1:=by
 refine#[_,abX bZ,λH Z U ts vs R S k=>h H Z U ts vs _ S λv H1 Z1 g k1 e=>?_];obtain⟨fp,gp,_,r,_,_⟩:=e.rep;cases r with
 | cons r _=>
  replace r:=r.El;obtain⟨rfl,r⟩:=r;obtain⟨a,us,rfl,c,d⟩:=r.kW;refine#[a,rfl,#[us,aA.DY e.zh c],k _ _ #[Z1,us,g,k1,e.pop,d,λi H2 s hi=>?_,λi H2 y H' s hi f=>#[f.1,f.2 us (aA.DY s c)],λH2 s=>#[us,aA.DY s c,by rw[d.length];grind]]];have j:=d.length▸hi;exact#[us,us[i],aA.DY s c,WA]
noncomputable def cI(lo:Int)(n:Nat):BC:=(List.range n).map λ(i:Nat)=>D.int (lo+i)
def En(lo:Int)(n:Nat):aL K CL Z (cI lo n) ((List.range n).map λ(i:Nat)=>V.int (lo+i)):=by
 unfold cI;generalize List.range n=l
 induction l with
 | nil=>exact .nil
 | cons i r a=>exact .cons Qbx a
theorem fZ{tg:Expr}{pr pc:Pos}{n:Int}(hm:Qe6)(h:bT X CL b iter δ (.int n) δ1)(hn:-(2 ^ 62)<=n/\n<2 ^ 62)(e:Qe5)(d:starEach [iter] X.env=[(false,eval iter X.env)]:=by rfl)(g:AC X iter []:=by exact aY rfl) :
  QH X CL b tg (.Call Qmp [iter] [] pc) δ (cI 0 n.toNat) δ1:=by
 refine#[_,MQ e hm (bI bZ cQ g) d,λH Z U ts vs R S k=>h H Z U ts vs _ S λv H1 Z1 c k1 f r=>#[n,by rw[r.sc rfl],hn.1,hn.2,k _ _ #[Z1,_,c,k1,f,En 0 _,λi H2 s hi=>?_,λi H2 y H' s hi a=>?_,λH2 s=>?_]]]
 .show i<n.toNat;have:(cI 0 n.toNat).length=n.toNat:=by simp[cI]
  lia
 .have j:i<n.toNat:=by simpa [cI] using hi
  refine#[a.1,?_];rw[fR,h5 j,a.2];rfl
 .show n.toNat<=(cI 0 _).length;simp[cI]
theorem Nv{tg:Expr}{pr pc:Pos}{e1 e2:Expr}{m n:Int}(hm:Qe6)(h1:bT X CL b e1 δ (.int m) δ1)(l:Qs6)(hn:-(2 ^ 62)<=m/\m<2 ^ 62 /\ -(2 ^ 62)<=n/\n<2 ^ 62)(j:Qe5)
  (h:AR X e1 e2:=by rfl) (q:starEach [e2] X.env=[(false,eval e2 X.env)]:=by rfl) (c:Qhk:=by rfl) (a:AC X e2 []:=by rfl) :
  QH X CL b tg (.Call Qmp [e1,e2] [] pc) δ (cI m (n-m).toNat) δ2:=by
 refine#[_,MR j hm (bI bZ Qdz c) h q,λH Z U ts vs R S k=>h1 H Z U ts vs _ S λv H1 Z1 f k1 p r=>l H1 Z1 U ts vs _ p λv2 H2 Z2 e k2 o g=>#[m,n,by rw[r.sc rfl,g.sc rfl],hn,k _ _ #[Z2,_,f.trans e,k1.trans k2,o,En m _,λi H2 s hi=>?_,λi H2 y H' s hi d=>?_,λH2 s=>?_]]]
 .show i<(n-m).toNat;have:(cI m (n-m).toNat).length=(n-m).toNat:=by simp[cI]
  lia
 .have t:i<(n-m).toNat:=by simpa [cI] using hi
  refine#[d.1,?_];rw[fR,h5 t,d.2];rfl
 .show(n-m).toNat<=(cI m _).length;simp[cI]
def Block(X:Cx)(CL:BM)(scope:Scope)(Nc:AT)(ifs:CC)(elt:Expr)(δc:Ap)(ds:BC)(p:Qcz)(g:Qcy):Prop:=
 ∀C s0 b f0 a d,d∈ds->qe Qs7 CL a ifs Qey (p d)/\(p d=true->bG Qs7 CL a elt Qey (g d) Qey)
variable{δc:Ap}{p:Qcz}{g:Qcy}
end
variable{δ1:Ap}
noncomputable def isD:L3.D->String->Option Bool
 | .non,n=>if n="int" \/ n="str" \/ n="list" \/ n="tuple" \/ n="bool" \/ n="dict" then some false else none
 | .bl _,n=>if n="int" \/ n="bool" then some true else if n="str" \/ n="list" \/ n="tuple" \/ n="dict" then some false else none
 | .int _,n=>if n="int" then some true else if n="str" \/ n="list" \/ n="tuple" \/ n="bool" \/ n="dict" then some false else none
 | .str _, n => if n = "str" then some true else if n = "int" \/ n = "list" \/ n = "tuple" \/ n = "bool" \/ n = "dict" then some false else none
 | .lst _,n=>if n="list" then some true else if n="int" \/ n="str" \/ n="tuple" \/ n="bool" \/ n="dict" then some false else none
 | .tup _,n=>if n="tuple" then some true else if n="int" \/ n="str" \/ n="list" \/ n="bool" \/ n="dict" then some false else none
 | _,_=>none
noncomputable def y8(t n:QaS):Option Bool:=if (Value.type t==Value.type n)=true then some true else if PySem.W.kitMeta n=true then(fastBuiltinMro t).map (·.contains QoU) else none
def lP{t n:QaS}:kitOne K (.type t) QoU=y8 t n:=rfl
def RX:(["NoneType","bool","int","str","list","tuple"].all λt=>["int","str","list","tuple","bool","dict"].all λn=>y8 t n==some (t==n || QkN))=true:=by decide +kernel
def pV{t n:QaS}(a:t∈["NoneType","bool","int","str","list","tuple"])(hn:Qqg):y8 t n=some (t==n || QkN):=by
 have:=RX;rw[hM]at this;have h:=this t a;rw[hM]at h;simpa using h n hn
noncomputable def tw:L3.D->Option String
 | .non=>some "NoneType"
 | .bl _=>some "bool"
 | .int _=>some "int"
 | .str _ => some "str"
 | .lst _=>some "list"
 | .tup _=>some "tuple"
 | _=>none
theorem Nx:jB X Qs8 (λxs H Q=>∃y n d t,xs=[y,.ty n]/\bK X.K CL H d y/\tw d=some t/\n∈["int","str","list","tuple","bool","dict"]/\Q Quw H):=by
 intro pins s U H xs us Q I r h;obtain⟨y,n,d,t,rfl,l,b,hn,q⟩:=h;obtain⟨u,u2,rfl,f,g⟩:=r.two;cases (show u2=Value.type n from g);have fin:∀tk,EP X pins U Q _ {s with toks:=tk}:=λtk=>#[.bl _,H,I.tok tk,rfl,q];cases l with
 | non=>cases b;cases (show u=Value.none from f);exact nH PySem.W.kitx_none I.lJ True.intro (lP.trans (pV Wp hn)) (λz=>nomatch z) fin
 | bl c=>cases b;cases (show u=Value.bool c from f);exact nH PySem.W.kitx_bool I.lJ True.intro (lP.trans (pV Wp hn)) (λz=>nomatch z) fin
 | int c=>cases b;obtain⟨tt,e⟩:=(show ∃t,u=Value.int c t from f);cases e;exact nH PySem.W.kitx_int I.lJ True.intro Qij (λz=>nomatch z) fin
 | str c=>cases b;obtain⟨tt,e⟩:=(show ∃t,u=Value.str c t from f);cases e;exact nH PySem.W.kitx_str I.lJ True.intro Qij (λz=>nomatch z) fin
 | @lst a ws _ j k=>
  cases b;cases (show u=Value.ref a from f);obtain⟨its,_,i,_⟩:=I.list j;obtain⟨o,m,e,c,_⟩:=i;exact nH PySem.W.kitx_list I.lJ #[o,e,c] Qij (λz=>nomatch z) fin
 | @tup a ws _ j k=>
  cases b;cases (show u=Value.ref a from f);obtain⟨its,_,i,_⟩:=I.tuple j;obtain⟨o,e,c,_⟩:=i;exact nH PySem.W.kitx_tuple I.lJ #[o,e,c] Qij (λz=>nomatch z) fin
 | ins _ _=>cases b
 | any _=>cases b
 | val _=>cases b
 | iY _ _=>cases b
 | dct _ _=>cases b
 | B4 _ _ _=>cases b
variable{d:L3.D}{pp:Pos}
def KR{t n:QaS}{nm:Str}{pq:Pos}(hm:Qic)(c:X.mg nm=none)(m:QiD)(f:Gl X nm)(g:bootBuiltins nm=some QoU)(o:nm≠"__name__")(a:AD nm)(h:Qd5)(l:tw d=some t)(hn:Qqg)
  (i:starEach [e,.Name nm pq] X.env=(false,eval e X.env)::starEach [.Name nm pq] X.env:=by exact aY rfl) :
  bG X CL b (.Call Qh3 [e,.Name nm pq] [] pos) δ (.sh Quw) δ1:=λH Z U ts vs Q S k=>
 bM (iD (Nx) m hm boot_isinstance (bI bZ (bI (Kp f c g (v:=.ty n) rfl o a) cQ) i) (he:=i)) (h H Z U ts vs _ S λv H1 Z1 j k1 p r=>
  #[v,n,d,t,rfl,r,l,hn,k _ H1 Z1 j k1 (p.push Qb0)])
variable{n:Nat}
def lQ(h:Nat.ble n 1000=true):n<=sizeLine:=gz (bz (ew h))
structure Vn(X:Cx)(i:Nat)(x:Str):Prop where
 hi:X.N[i]? = some x
 hv:QX X.env.scope x
 hd:QtO=false
 iM:Qso=false
structure Ln(X:Cx)(i:Nat)(x:Str):Prop extends Vn X i x where
 loc:Loc X.env.scope x
 hf:X.fn x=true\/X.env.scope.names.lookup x=some .local
structure Gx(X:Cx):Prop where
 nd:X.N.Nodup
 calm:X.calm=true
 xe:PassesOwn QE X.A X.env X.xe
structure Fc(X:Cx)(CL:BM)(x:Str)(k n:Nat){A:Type}(arg:Qak)(Pre:Qae)(res:QaA):Prop where
 ex:∃f fd ps,eX X.prog X.w X.K X.mg X.base pT k f fd ps QkC/\X.mg x=some Qaq/\keepIn X.K Qaq=true/\Binds X.K fd ps []
 room:dJ k X.A
section
variable{D:c6}{dP:CS}{ds:BC}
def v_(n:Qa3)(h:δ[i]? = some Qbs:=by rfl):bG X CL b Qat δ (.sh d) δ:=acv i n.hi n.hv n.hd n.iM h
def vF(n:Qa3)(h:δ[i]? = some QaD:=by rfl):bG X CL b Qat δ (.sh t.ez) (δ.set i Qiz):=Xs i n.hi n.hv n.hd n.iM h
def vM(n:Qa3)(h:δ[i]? = some QaD:=by rfl):bG X CL b Qat δ t (δ.set i none):=Xu i n.hi n.hv n.hd n.iM h
def vB(n:Qa3)(h:δ[i]? = some QaD:=by rfl):bT X CL b Qat δ t.ez δ:=acw i n.hi n.hv n.hd n.iM h
def bQ{k:Int}(h:Qs9):bG X CL b (.UnaryOp .USub e pos) δ (.sh (.int (-k))) δ1:=λH Z U ts vs Q S kk=>
 bM (Tx ab5 bZ) (h H Z U ts vs _ S λv H1 Z1 a k1 c r=>#[k,r.sc rfl,kk _ H1 Z1 a k1 QwC])
def vL(n:Qa3)(h:δ[i]? = some Qyg:=by rfl):bT X CL b Qat δ (.lst ds) δ:=by
 have:=vB (CL:=CL) (b:=b) (pos:=pos) n h
 rwa [T.ez,gX]at this
def c_{A:Type}{arg:Qak}{Pre:Qae}{res:QaA}(a:A)(F:QhV)(g:Qad)(h:QgY)(d:Pre a)(i:QmS)(hn:Qb4:=by rfl)
  (c:AD x:=by decide) (he:Qax:=by exact aY rfl) (hpl:QaU:=by rfl) :
  bG X CL b Qbb δ (res a) δ1:=by
 obtain⟨f,fd,ps,j,m,k,b⟩:=F.ex;exact XA a j F.room m k b h hn d i g c he hpl
def cF{A:Type}{arg:Qak}{Pre:Qae}{res:QaA}(a:A)(F:QhV)(g:Qad)(h:Qky)(d:Pre a)(hn:Qb4:=by rfl)
  (c:AD x:=by decide) (he:Qax:=by exact aY rfl) (hpl:QaU:=by rfl) :
  bG X CL b Qbb δ (res a) δ1:=by
 obtain⟨f,fd,ps,i,m,k,b⟩:=F.ex;exact RP a i F.room m k b h hn d g c he hpl
def aD{pos':Pos}(g:Gx X)(n:Qbm)(h:QaC)(k:Qr3)(c:Qbl:=by exact ew rfl)(a:Qef:=by rfl) :
  cJ X CL b QkR δ D:=bR (HP i h k c g.nd n.hi n.loc a n.hf)
def aF(h:QaC)(k:D.rt t δ1):cJ X CL b Qlp δ D:=bR (acA h k)
def aM{p:Bool}{a c:CS}(h:QbS)(h1:p=true->cJ X CL b a δ1 {D with nx:=λδ2=>cJ X CL b dP δ2 D})(d:p=false->cJ X CL b c δ1 {D with nx:=λδ2=>cJ X CL b dP δ2 D}):cJ X CL b QwD δ D:=bR (Ya h h1 d)
theorem cJ.to{D':c6}(h:cJ X CL b dP δ D')(h1:∀δ,D'.nx δ->D.nx δ)(d:∀t δ,D'.rt t δ->D.rt t δ)(c:∀δ,D'.bk δ->D.bk δ)(a:∀δ,D'.ct δ->D.ct δ):cJ X CL b dP δ D:=λH Z U ts vs E S M=>h H Z U ts vs E S (M.to h1 d c a)
def vh{p:Bool}{a c:CS}(J:Ap->Prop)(h:QbS)(h1:p=true->cJ X CL b a δ1 {D with nx:=J})(f:p=false->cJ X CL b c δ1 {D with nx:=J})(k:∀δ2,J δ2->cJ X CL b dP δ2 D):cJ X CL b QwD δ D:=
 aM h (λd=>cJ.to (h1 d) k QmT QbI QbI) (λd=>cJ.to (f d) k QmT QbI QbI)
def fu{o:Qd2}{l:Nat}(h:∃c,swapsWith e o l env=pure c):swapsWith e o l env=pure true\/swapsWith e o l env=pure false:=by
 obtain⟨c,h⟩:=h;cases c
 .exact .inr h
 .exact .inl h
def RZ{C:Addr}(h1:Nc[i]? = some x)(a:QkX)(hd:AD x:=by decide)(iM:AE x:=by decide):Vn Qbn i x:=
 #[h1,.inl Qlq,hd,iM]
def acE{C:Addr}(h1:Nc[i]? = some x)(a:Qta)(hd:AD x:=by decide)(iM:AE x:=by decide):Vn Qbn i x:=by
 refine#[h1,?_,hd,iM];have q:=fY (env:=X.env) a;show(relabel _ _).names.lookup x=some _\/(relabel _ _).names.lookup x=some _\/(relabel _ _).names.lookup x=some _;rw[show(relabel _ _).names.lookup x=_ from q];split
 .exact .inr Qay
 .exact .inr Qas
def XC{C:Addr}(a:Qrh):Gl Qbn x:=by
 have q:=fY (env:=X.env) a;show(relabel _ _).names.lookup x=some _;rw[show(relabel _ _).names.lookup x=_ from q];rfl
def pW{C:Addr}{A:Type}{arg:Qak}{Pre:Qae}{res:QaA}(F:QhV):Fc Qbn CL x k n arg Pre res:=#[F.ex,F.room]
end
variable{e1 e2:Expr}
def acF{i j:Bool}(h1:bT X CL b e1 δ (.bl i) δ1)(a:bT X CL b e2 δ1 (.bl j) δ2):kX X CL b Qek δ (!decide (i=j)) δ2/\bG X CL b Qek δ (.sh Ql3) δ2:=
 nJ Rb h1 a rfl rfl (λ_ _ q=>#[rfl,by rw[show decide (V.bl i=V.bl j)=decide (i=j) by simp];exact q]) (jS _)
variable{t:QaS}{pq:Pos}
def tZ:bootBuiltins "int" = some Qnt:=by decide +kernel
def Fu(hm:Qic)(a:QnH)(i:QiD)(c:QoV)(h:Qd5)(f:tw d=some t:=by rfl)(g:starEach [e,.Name "int" pq] X.env=(false,eval e X.env)::starEach [.Name "int" pq] X.env:=by exact aY rfl) :
  bG X CL b (.Call Qh3 [e,.Name "int" pq] [] pos) δ (.sh (.bl (t=="int" || (t=="bool" && "int" == "int")))) δ1:=KR hm a i c tZ Wp Wp h f Wp g
def HQ:bootBuiltins "bool" = some (.type "bool"):=by decide +kernel
def Ny(hm:Qic)(a:X.mg "bool" = none)(i:QiD)(c:Gl X "bool")(h:Qd5)(f:tw d=some t:=by rfl)(g:starEach [e,.Name "bool" pq] X.env=(false,eval e X.env)::starEach [.Name "bool" pq] X.env:=by exact aY rfl) :
  bG X CL b (.Call Qh3 [e,.Name "bool" pq] [] pos) δ (.sh (.bl (t=="bool" || (t=="bool" && "bool" == "int")))) δ1:=KR hm a i c HQ Wp Wp h f Wp g
def f9:bootBuiltins "list" = some Qnh:=by decide +kernel
def Eo:bootBuiltins "tuple" = some Qv3:=by decide +kernel
noncomputable def ou(sc:Scope)(l:DA):Bool:=l.all λp=>sc.names.lookup p.1==some p.2
def XD{sc:Scope}{l:DA}(h:ou sc l=true)(i:Nat){k:NameKind}(hi:l[i]? = some (x,k)):sc.names.lookup x=some k:=by
 unfold ou at h;rw[hM]at h;exact ip.1 (h _ Qgy)
inductive XF(X:Cx):CO->AT->Prop where
 | nil:XF X [] []
 | cons {i:Nat} {y:Str} {ix:CO} {ys:AT} (n:Vn X i y) (k:X.env.kindOf y=some .cell\/X.env.kindOf y=some .free) (r:XF X ix ys):XF X (i::ix) (y::ys)
noncomputable def R0(scope:Scope)(x:Str)(a:AT):Bool:=
 scope.kind == .function&&scope.names.lookup x==some .local&&a.all (λy=>scope.names.lookup y==some .free)&&decide ((x::a).Nodup) &&
  scope.names.all λy=>y.2 != .cell&&(y.2 != .local || scope.names.lookup y.1==some .local)&&(y.2 != .free || (a.contains y.1&&scope.names.lookup y.1==some .free))
variable{ix:CO}
theorem bu{h:AT}(c:XF X ix h)(ok:R0 scope x h=true):fq X scope x (x::h) ix:=by
 unfold R0 at ok;simp only[gm,hM,pw,ip]at ok;obtain⟨⟨⟨⟨h1,m⟩,g⟩,f⟩,b⟩:=ok;have j:∀y∈h,X.env.kindOf y=some .cell\/X.env.kindOf y=some .free:=by
  clear g f b
  induction c with
  | nil=>intro y a;cases a
  | cons n k r d=>
   intro y a;obtain e|a:=eg.1 a
   .subst e;exact k
   simp_all
 refine#[h1,λy a e=>?_,f,λy a e=>?_,m,λy a e=>?_,?_,λi hi=>?_]
 .have:=(b y a).1.1;rw[e]at this;simp at this
 .have:=(b y a).1.2;rw[e]at this;simpa using this
 .have:=(b y a).2;simp_all
 .congr 1;clear g f b j
  induction c with
  | nil=>rfl
  | cons n k r d=>rw[kR,n.hi,<- d]
 .clear f b j
  induction c with
  | nil=>cases hi
  | @cons o y ix ys n k r d=>
   obtain e|hi:=eg.1 hi
   .subst e;exact#[y,n.hi,g y eu]
   .exact d (λz l=>g z (eE _ l)) hi
noncomputable def D.iZ:D->Int
 | .int i=>i
 | _=>0
noncomputable def D.toS:D->Str
 | .str x => x
 | _=>Str.empty
theorem eV{bs:BA}{k:Int}(h0:0<=k)(h1:k<bs.length):mD Qxm k=some (.int (bs.getD k.toNat 0)):=by
 obtain⟨j,rfl⟩:∃j:Nat,k=j:=#[k.toNat,We];refine cL ?_;simp_all
theorem fB:∀(bs:BA),D.bV Qxm=true
 | []=>rfl
 | i::r=>by rw[eM,D.bV,fB r];rfl
variable{j:Nat}
theorem jb{lo:Int}{d:D}(h:(cI lo n)[j]? = some d):d=.int (lo+j)/\j<n:=by
 have a:=by
  have:=(hH.1 h).1;simpa [cI] using this
 refine#[?_,a];unfold cI at h;rw[fR,h5 a]at h;simp_all
def cP(l:QR):l.filter (λ_=>true)=l:=by simp
theorem Er{K:Frag}{CL:BM}{Z:Hp}:∀(ns:BA),aL K CL Z Qxn Qdx
 | []=>.nil
 | n::r=>.cons QdA (Er r)
def acG{arg:BA->BC}{pre:BA->Prop}{res:BA->T}{ns:BA}(b:arg ns=[.lst Qxn])(f:pre ns)(d:res ns=.sh QaV)(g:mE K H a Qdx)(h0:∀x,xU x=true->CL x=0:=by intros;rfl) :
  G7 K CL 1 arg pre res [.ref a] H QlJ λ_ _ _=>False:=
 #[H,ns,.refl _,λ_ _ q _=>q,by rw[b];exact .cons (.lst g (Er ns)) .nil,by rw[b];rfl,f,λx c e=>absurd (h0 x c) e,λv H' W' fp _ _ _ _ _ r _ _=>by
  rw[d]at r;replace r:=r.El;obtain⟨rfl,r⟩:=r;exact r.sc rfl]
mutual
def D.toPy:D->PyData
 | .non=>.none
 | .bl b=>.bool b
 | .int i=>.int i
 | .str x => .str x
 | .tup ds=>.tuple Qgg
 | .lst ds=>.list Qgg
 | .ins _ _=>.none
 | .iY _=>.none
 | .dct _=>.none
 | .any=>.none
 | .val _=>.none
 | .B4 _ _ _=>.none
def D.om:BC->List PyData
 | []=>[]
 | d::ds=>d.toPy::D.om ds
end
inductive mK:Nat->D->Prop where
 | non (n:Nat):mK n .non
 | bl (n:Nat) (b:Bool):mK n QdU
 | int (n:Nat) (i:Int):mK n Qa0
 | str (n:Nat) (x:Str) (h:Qxo):mK n QaL
 | tup {n:Nat} {ds:BC} (h:∀d∈ds,mK n d):mK Qaw QdI
 | lst {n:Nat} {ds:BC} (h:∀d∈ds,mK n d):mK Qaw QbZ
def Nz(a b:D):Bool:=PyData.eqv a.toPy b.toPy
theorem mK.y6{n:Nat}:∀{ds:BC},(∀d∈ds,d.toPy.canLay0=true/\d.toPy.depth<=n)->PyData.canLayAll0 Qgg=true/\PyData.depthAll Qgg<=n
 | [],_=>#[ rfl,fT _ ]
 | d::ds,h=>by
  have h1:=h d eu;have a:=mK.y6 λe he=>h e Qjx;rw[D.om,PyData.canLayAll0,h1.1,a.1];exact#[rfl,Nat.max_le.2 #[h1.2,a.2]]
theorem mK.lay{d:D}(h:mK n d):d.toPy.canLay0=true/\d.toPy.depth<=n:=by
 induction h with
 | non n=>exact#[ rfl,fT _ ]
 | bl n b=>exact#[ rfl,fT _ ]
 | int n i=>exact#[ rfl,fT _ ]
 | str n x c=>exact#[ ‹_›,fT _ ]
 | @tup n ds _ a=>
  have:=mK.y6 a;rw[D.toPy,PyData.canLay0,PyData.depth];simp_all
 | @lst n ds _ a=>
  have:=mK.y6 a;rw[D.toPy,PyData.canLay0,PyData.depth];simp_all
def Es{d:D}(h:mK n d):Nz d d=true:=SeqAt.eqv_refl _ h.lay.1
def R1(I:QgZ){d:D}{u:Value}(hd:mK n d)(q:bK X.K CL H d v)(r:Qcw):∃as,Reads s.heap u d.toPy as:=by
 refine bK.rec
  (motive_2:=λds vs _=>∀(n:Nat) (us:Qe8),(∀d∈ds,mK n d)->Vals vs us->∃as,ReadsAll s.heap us Qgg as) (motive_3:=λ_ _ _=>True) (motive_4:=λ_ _ _=>True) (motive_5:=λ_ _ _=>True)
  (λ_ _ _ r=>?non) (λb _ _ _ r=>?bl) (λi _ _ _ r=>?int) (λx _ _ _ r=>?str) (λ_ _ _ hd _=>by cases hd) (λ_ _ _ hd _=>by cases hd) (λl _ a n u hd r=>?tup) (λl _ a n u hd r=>?lst) (λ_ _ _ _ _ hd _=>by cases hd) (λ_ _ _ _ _ hd _=>by cases hd) (λ_ _ _ _ _ hd _=>by cases hd) (λ_ _ _ _ _ _ _ hd _=>by cases hd)
  (λ_ _ _ r=>?nil) (λ_ _ a j n us h r=>?cons) trivial QaK trivial QaK trivial QaK q n u hd r
 case non=>cases r;exact#[[],.none]
 case bl=>cases r;exact#[[],.bool b]
 case int=>obtain⟨t,rfl⟩:=r;exact#[[],.int i t]
 case str=>obtain⟨t,rfl⟩:=r;exact#[[],.str x t]
 case tup=>
  cases hd with
  | tup hd=>
   cases r;obtain⟨its,f,⟨o,e,c,k,m⟩,_⟩:=I.tuple l;obtain⟨as,g⟩:=a _ _ hd f;exact#[as,.tuple e c m (‹_›)]
 case lst=>
  cases hd with
  | lst hd=>
   cases r;obtain⟨its,f,⟨o,k,e,c,_,m⟩,_⟩:=I.list l;obtain⟨as,g⟩:=a _ _ hd f;exact#[_,.list e c m (‹_›)]
 case nil=>cases r;exact#[[],.nil]
 case cons=>
  cases r with
  | cons r rs=>
   obtain⟨as,g⟩:=a n _ (h _ eu) r;obtain⟨bs,p⟩:=j n _ (λe he=>h e Qjx) rs;exact#[ _,.cons g p]
variable{δ3:Ap}{p2:Pos}{t:T}{dP:CS}{DD:c6}{d1 d2:D}{ds:BC}
theorem acI(k:Qd7):nG X Qwv (λx y H Q=>∃a c,bK X.K CL H a x/\bK X.K CL H c y/\mK 60 a/\mK 60 c/\Q (.bl (Nz a c)) H):=by
 intro pins s U H x y v u Q I f e h;obtain⟨a,c,g,rc,b,d,q⟩:=h;obtain⟨as,j⟩:=R1 I b g f;obtain⟨bs,i⟩:=R1 I d rc e;exact SeqAt.rcAt_reads j i b.lay.1 d.lay.1 (by have:=b.lay.2;lia) _ X.w X.xe _ #[.bl _,H,I,rfl,q]
def NJ{op:CmpOp}{f:Bool->Bool}(n:nG X QpX (λx y H Q=>∃a c,bK X.K CL H a x/\bK X.K CL H c y/\mK 60 a/\mK 60 c/\Q (.bl (f (Nz a c))) H))(h1:QgP)(o:QgQ)(k1:mK 60 d1)(k2:mK 60 d2)
  (hm:QuM):kX X CL b QhJ δ (f QoJ) δ2/\bG X CL b QhJ δ (.sh (.bl (f QoJ))) δ2:=by
 constructor
 .intro H Z U ts vs Q S k;refine se (pQ n bZ bZ hm) (h1 H Z U ts vs _ S λv1 H1 Z1 h e m j=>o H1 Z1 U ts vs _ m λv2 H2 Z2 g d l i=>?_);exact#[d1,d2,j.mono d,i,k1,k2,_,rfl,k H2 Z2 QeT (e.trans d) l]
 .intro H Z U ts vs Q S k;refine bM (pP n bZ bZ hm) (h1 H Z U ts vs _ S λv1 H1 Z1 h e m j=>o H1 Z1 U ts vs _ m λv2 H2 Z2 g d l i=>?_);exact#[d1,d2,j.mono d,i,k1,k2,k _ H2 Z2 QeT (e.trans d) (l.push Qb0)]
def Cj(a:Qd7)(h1:QgP)(c:QgQ)(k1:mK 60 d1)(k2:mK 60 d2):kX X CL b QbQ δ (Nz d1 d2) δ2/\bG X CL b QbQ δ (.sh (.bl QoJ)) δ2:=
 NJ (f:=λb=>b) (acI a) h1 c k1 k2 (jS _)
def cutD(xs:QR)(lo hi:Bz):List α:=(xs.drop Qt7).take Qqn
theorem aL.drop{K:Frag}{Z:Hp}:∀{ds:BC} {vs:BY} (n:Nat),aL K CL Z ds vs->aL K CL Z (ds.drop n) (vs.drop n)
 | _,_,0,r=>r
 | _,_,_+1,.nil=>.nil
 | _,_,n+1,.cons _ t=>aL.drop n t
theorem aL.take{K:Frag}{Z:Hp}:∀{ds:BC} {vs:BY} (n:Nat),aL K CL Z ds vs->aL K CL Z (ds.take n) (vs.take n)
 | _,_,0,_=>.nil
 | _,_,_+1,.nil=>.nil
 | _,_,n+1,.cons r t=>.cons r (aL.take n t)
theorem aL.cut{ds:BC}(r:QiT)(lo hi:Bz):aL K CL Z (cutD ds lo hi) (M7 vs lo hi):=by
 unfold cutD M7;rw[r.length];exact(r.drop _).take _
theorem oq:∀{ds:BC},D.bV ds=true->∀d∈ds,d.iQ=true
 | [],_,_,h=>by cases h
 | d::ds,k,e,h=>by
  rw[D.bV,gm]at k;obtain h|h:=eg.1 h
  .subst h;exact k.1
  .exact oq k.2 e h
theorem iF:∀{ds:BC},(∀d∈ds,d.iQ=true)->D.bV ds=true
 | [],_=>rfl
 | d::ds,h=>by rw[D.bV,h d eu,iF λe he=>h e Qjx];rfl
def XG{xs:QR}{lo hi:Bz}{x:α}(h:x∈cutD xs lo hi):x∈xs:=List.mem_of_mem_drop (lL h)
def l7(X:Cx)(CL:BM)(b:Bx)(e:Qd2)(δ:Ap)(k:Bz)(δ':Ap):Prop:=
 ∃t,PO X e t/\∀(H Z:Hp) (U:L2.St) (ts:B2) (vs:BY) (Q:Qxg),bC X.K CL b H Z δ U ts vs->(∀H' Z',aA Z Z'->aA H H'->bC X.K CL b H' Z' δ' U ts vs->Q k H')->t U H Q
def fQ:l7 X CL b none δ none δ:=#[_,Xd,λH Z U ts vs Q S k=>k H Z QF QF S]
def e7{k:Int}(h:Qs9):l7 X CL b (some e) δ (some k) δ1:=#[_,Xe bZ,λH Z U ts vs Q S kk=>h H Z U ts vs _ S λv H1 Z1 a k1 c r=>#[k,r.sc rfl,kk H1 Z1 a k1 c]]
def gM{lo hi:Qd2}{l h:Bz}(h1:Qe9)(g:QgW)(y:QlQ)(x:QlR):bG X CL b Qhq δ (.lst ((cutD ds l h).map T.sh)) δ3:=λH Z U ts vs Q S k=>by
 obtain⟨t2,f,q⟩:=y;obtain⟨t3,a,o⟩:=x;refine bM (xR Xf bZ f a) (h1 H Z U ts vs _ S λv H1 Z1 n k1 B r=>q H1 Z1 U ts vs _ B λH2 Z2 m k2 A=>o H2 Z2 U ts vs _ A λC Z3 j k3 i=>?_);have t:=r.mono (k2.trans k3);obtain⟨_,_,rfl,u,s⟩:=t.i9;refine#[_,_,rfl,u,λp w=>?_];have rc:=aL.iQ i.tp (iF λd hd=>oq g d (XG hd)) (s.cut l h);obtain⟨c,z⟩:=(bC.nK rc i).qZ (g0:=[]) (by simp[rc.length]) w;exact k _ _ _ (n.trans (m.trans j)) Qri z
def lR(hm:X.mg "tuple" = none)(h:Qe9)(hi:QgW)(p:Gl X "tuple")(f:Qaz:=by exact aY rfl):bG X CL b (.Call (.Name "tuple" pp) [e] [] pos) δ (.sh QdI) δ1:=λH Z U ts vs Q S k=>
 bM (jM z8 p hm Eo Qn4 (he:=f)) (h H Z U ts vs _ S λv H1 Z1 m k1 i r=>by
  obtain⟨_,_,rfl,n,d⟩:=r.i9;refine#[_,_,rfl,.inl #[n,λl o=>?_]];obtain⟨a,c,q⟩:=(bC.nK (aL.iQ i.tp hi d) i).tY (by simp[d.length]) o;obtain⟨Z3,j,g⟩:=q.xV;rw[T.ez,gX]at g;exact k _ _ Z3 (m.trans (a.trans j)) Qja g)
def ia{tl0:B2}{pa pb:Pos}(n:Qa3)(h0:δ[i]? = some Qyf)(h:QaC)(h1:δ1[i]? = some QnF)(g:Qxp)(k:cJ X CL b dP (δ1.set i QnG) DD)
  (j:Qp3:=by rfl)
  (d:AB X pb e:=by rfl)
  (a:Qlo:=by rfl) (f:Qaz:=by exact aY rfl) (c:QqQ:=by rfl) :
  cJ X CL b (.Expr Qkf pos::dP) δ DD:=
 bR (acC i h0 h h1 (ru g Wp) k n.hi n.hv n.hd n.iM j d a f c)
def aQ(hn:ds.length=n)(hm:QgU)(h:Qe9)(c:QgV)(a:Qaz:=by exact aY rfl):bG X CL b Qhv δ (.sh QdA) δ1:=by
 subst hn;exact KP hm h c a
def bH(h:Qr4):bT X CL b e δ (.lst ds) δ1:=by
 have:=KG h
 rwa [T.ez,gX]at this
theorem dF{f:QbD}{l:QR}{k:Int}(z:α)(h0:0<=k)(h1:QjY):mD Qcr k=some (f QvD):=by
 obtain⟨j,rfl⟩:∃j:Nat,k=j:=#[k.toNat,We];refine cL ?_;simp_all
theorem gO{β:Type}{f:Qg0}{l:QR}{lo hi:Bz}:cutD Qcr lo hi=(cutD l lo hi).map f:=by
 unfold cutD;simp_all
theorem eN{α:Type}{f:QbD}(h:∀a,(f a).iQ=true):∀(l:QR),D.bV Qcr=true
 | []=>rfl
 | a::l=>by rw[eM,D.bV,h a,eN h l];rfl
variable{d:D}
def XH{k:Int}{u:Tok}(hm:X.mg x=some (.int k u))(a:Qad)(hd:AD x:=by decide):bG X CL b Qat δ (.sh QdD) δ:=λH Z U ts vs Q S kk=>
 bM (wA (v:=.int k) a hm #[u,rfl] hd) (kk _ H Z QF QF (S.push QdD))
def aV{k:Int}(hm:∃u,X.mg x=some (.int k u))(a:Qad)(hd:AD x:=by decide):bG X CL b Qat δ (.sh QdD) δ:=by
 obtain⟨u,hm⟩:=hm;exact XH hm a hd
def vE(n:Qa3)(h:δ[i]? = some QaD)(e:t.ez=d):bT X CL b Qat δ d δ:=e▸vB n h
theorem mL(x:Str):∀l:AT,mx QaL QcO=decide QbY
 | []=>by simp[mx]
 | y::l=>by
  have b:=mL x l;unfold mx at b ⊢;have e:∀a c,Xg (.str a) (.str c)=(a==c):=λ_ _=>rfl;grind
theorem aL.strs{K:Frag}{Z:Hp}:∀{l:AT} {vs:BY},aL K CL Z (l.map D.str) vs->vs=l.map V.str
 | [],_,r=>by
  have a:=r;cases a;rfl
 | y::l,_,r=>by
  have a:=r;cases a with
  | cons c b=>rw[c.sc rfl,aL.strs b];rfl
theorem fG:∀l:AT,(l.map V.str).all qD=true
 | []=>rfl
 | y::l=>by rw[eM,k4,fG l];rfl
variable{l:AT}
def jU(h1:Qd6)(m:bT X CL b e2 δ1 QnI δ2)(hm:QhW) :
  kX X CL b Qdf δ (decide QbY) δ2/\bG X CL b Qdf δ (.sh QlL) δ2:=by
 constructor
 .intro H Z U ts vs Q S k;refine se QwE (h1 H Z U ts vs _ S λv1 H1 Z1 d k1 j a=>m H1 Z1 U ts vs _ j λv2 H2 Z2 c k2 i g=>?_);obtain⟨_,_,rfl,h,f⟩:=g.kW;have e:=f.strs;subst e;refine#[_,_,rfl,.inr h,by rw[a.sc rfl];rfl,fG l,_,rfl,?_];rw[cq gq,a.sc rfl,mL];exact k H2 Z2 QeU Qag i
 .intro H Z U ts vs Q S k;refine bM QwF (h1 H Z U ts vs _ S λv1 H1 Z1 d k1 j a=>m H1 Z1 U ts vs _ j λv2 H2 Z2 c k2 i g=>?_);obtain⟨_,_,rfl,h,f⟩:=g.kW;have e:=f.strs;subst e;refine#[_,_,rfl,.inr h,by rw[a.sc rfl];rfl,fG l,?_];rw[cq gq,a.sc rfl,mL];exact k _ H2 Z2 QeU Qag (i.push Qb0)
def gb(h1:Qd6)(c:B7 X CL b es δ1 ((l.map D.str).map T.sh) δ2)(a:(l.map D.str).length<=sizeLine:=by exact lQ rfl) :
  kX X CL b Qrj δ (decide QbY) δ2/\bG X CL b Qrj δ (.sh QlL) δ2:=jU h1 (ak (aP c a)) rfl
def KS{p:Bool}(hm:QnH)(h:bT X CL b e δ (.bl p) δ1)(d:QoV)(a:Qaz:=by exact aY rfl):bG X CL b Qrr δ (.sh (.int (if p then 1 else 0))) δ1:=λH Z U ts vs Q S k=>
 bM (jM MY d hm tZ Qdz (he:=a)) (h H Z U ts vs _ S λv H1 Z1 c k1 f r=>.inr #[p,by rw[r.sc rfl],k _ H1 Z1 c k1 QwG])
noncomputable def xZ:Expr->Option Str
 | .Constant (.str x) _ _=>some x
 | _=>none
def t6:CC->Option AT
 | []=>some []
 | e::es=>(xZ e).bind λx=>(t6 es).map (x::·)
theorem Et(h:xZ e=some x):∃j p,e=.Constant QaL j p:=by
 unfold xZ at h;split at h
 .cases h;grind
 .cases h
theorem dG:∀{es:CC} {l:AT},t6 es=some l->B7 X CL b es δ ((l.map D.str).map T.sh) δ
 | [],l,h=>by
  have e:=(gv h).symm;subst e;exact bP
 | e::es,l,h=>by
  rw[t6]at h;obtain⟨x,a,h⟩:=Option.bind_eq_some_iff.1 h;obtain⟨d,c,rfl⟩:=jK.1 h;obtain⟨j,p,rfl⟩:=Et a;exact aN bE (dG c)
noncomputable def NI{a:Stmt}(J:Ap->Prop)(k:∀δ2,J δ2->cJ X CL b dP δ2 DD)(h:(∀δ2,J δ2->cJ X CL b dP δ2 DD)->cJ X CL b (a::dP) δ DD):cJ X CL b (a::dP) δ DD:=h k
theorem Ck{l:QR}{k:Int}(z:α)(h0:0<=k)(h1:QjY):mD l k=some QvD:=by
 obtain⟨j,rfl⟩:∃j:Nat,k=j:=#[k.toNat,We];refine cL ?_;have a:j<l.length:=by lia
 rw[ft a];simp[List.getD,a]
def str_len(x y:Str):(x++y).length=x.length+y.length:=by
 show(x.cps++y.cps).size=_;rw[Array.size_append];rfl
def acJ(x y:Str)(h1:Qxo)(a:PyData.strOk y=true):PyData.strOk (x++y)=true:=by
 unfold PyData.strOk at *;show(x.cps++y.cps).all _=true;rw[Array.all_append,h1,a];rfl
def vj(l:BA):T.cG ((l.map D.int).map T.sh)=true:=by
 rw[ej]
 induction l with
 | nil=>rfl
 | cons i r a=>rw[eM,T.cG,a];rfl
variable{ds:BC}
def Me(n:Qa3)(h:δ[i]? = some Qyg):bG X CL b Qat δ (.sh QbZ) (δ.set i (some (.sh QbZ))):=by
 have:=vF (CL:=CL) (b:=b) (pos:=pos) n h
 rwa [T.ez,gX]at this
theorem sd.get:∀{fs:EU} {gs:CA} {f:Str} {d:D},sd K CL Z fs gs->fs.lookup f=some d->∃v,gs.lookup f=some v/\bK K CL Z d v
 | _,_,_,_,.nil,e=>by simp at e
 | _,_,f,d,.cons (x:=x) r t,e=>by
  rw[hT]at e ⊢;cases h:f==x with
  | true=>rw[h]at e;grind
  | false=>rw[h]at e;exact sd.get t e
def Ad(f:Str)(t:T):B1->B1
 | []=>[(f,t)]
 | (g,x)::r=>if g=f then(g,t)::r else(g,x)::Ad f t r
theorem cZ.length{fs:B1}{gs:CA}(h:cZ K CL H Z fs gs fp):fs.length=gs.length:=
 cZ.ind (P:=λd v _=>d.length=v.length) rfl QhM h
theorem cZ.put{f:Str}{g:BN}{fs:B1}{gs:CA}(q:Qxh):cZ K CL H Z fs gs fp →
  ∃b a,cZ K CL H Z Qos (kU f v gs) b/\a.Sublist fp/\b.Perm (g++a):=
 cZ.ind (P:=λfs gs fp=>∃b a,cZ K CL H Z Qos (kU f v gs) b/\a.Sublist fp/\b.Perm (g++a)) #[ _,[],.cons q .nil,jJ _,List.Perm.refl _] λ{x _ _ _ _ fp gp} r rs i=>by
  rw[Ad,kU];by_cases h:x=f
  .rw[ee h,ee h];exact#[ _,gp,.cons q rs,o1 _ _,List.Perm.refl _]
  .rw[cq h,cq h];obtain⟨p,p',h1,d,c⟩:=i;refine#[ _,_,.cons r h1,kc (jJ _) d,(kT fp c).trans ?_];rw[<- eJ,<- eJ];exact iw.append_right p'
theorem bC.R4{o:HO}{f gp e:BN}(hm:fV o=false)(S:QaB)(own:∀c∈fp++gp,Z c=none/\b.B c=none)(j:a∈fp++gp)
  (k:d8 K CL Qa8 Z δ2 U f) (h:aS K CL Qa8 Z tl us e) (pm:(f++e).Nodup) (sub:∀c∈f++e,c∈fp++gp) :
  bC K CL b Qa8 Z δ2 U tl us:=by
 have g:=own a j;refine#[#[_,_,k,h,pm,λc d=>own c (sub c d)],λc u q=>?_,S.zz,λc u q=>?_,S.new,λc u q i=>?_,S.tab]
 .rw[aB (bD q g.2)];exact S.bh c u q
 .rw[aB (bD q g.1)];exact S.zh c u q
 .by_cases d:c=a
  .subst d;rw[aR]at q;grind
  .rw[aB d]at q;exact S.tp c u q i
variable{c f:Str}{d:D}{fs:EU}
def cA(j:Qn5)(n:Qnw)(h:bT X CL b e δ (.ins c fs) δ1)(i:fs.lookup f=some d)(hb:QjV:=by rfl) :
  bT X CL b QfA δ d δ1:=λH Z U ts vs Q S k=>
 bM (Rk bZ hb) (h H Z U ts vs _ S λv H' Z' z s m r=>by
  obtain⟨a,dx,gs,rfl,l,g⟩:=r.RJ;obtain⟨w,hw,o⟩:=g.get i;exact#[a,CL c,dx,gs,w,rfl,l,j,n,hw,k w H' Z' z s m o])
def x6(l:Qn5)(n:Qnw)(h:bG X CL b e δ (.sh QeW) δ1)(j:fs.lookup f=some d)(hb:QjV:=by rfl) :
  bG X CL b QfA δ (.sh d) δ1:=λH Z U ts vs Q S k=>
 bM (Rk bZ hb) (h H Z U ts vs _ S λv H' Z' z s g=>by
  obtain⟨fp,gp,_,r,_,_⟩:=g.rep;cases r with
  | cons r _=>
   replace r:=r.El;obtain⟨rfl,r⟩:=r;obtain⟨a,dx,gs,rfl,m,i⟩:=r.RJ;obtain⟨w,hw,o⟩:=i.get j;exact#[a,CL c,dx,gs,w,rfl,g.zh _ _ m,l,n,hw,k w H' Z' z s (g.pop.push o)])
def qw(K:Frag)(CL:BM){A:Type}(c:Str)(n:Nat)(arg:Qak)(Pre:Qae)(res:Qfb):Sp:=λvs H Q _=>
 ∃(W b:Hp) (a:A) (x dx:Addr) (us:BY),vs=.ref x::us/\b x=none/\b dx=none/\dx≠x/\H=upd (upd b dx Qf9) x Qu6 ∧
  aA W b/\(∀c o,b c=some o->fV o=true->W c=some o)/\aL K CL W Qb1 us/\(arg a).length+1=n/\Pre a/\iE CL W ∧
  ∀H' W' fp,aA b H'->aA W W'->aA W' H'->(∀c o,W' c=some o->W c=none->b c=none)->(∀c o,H' c=some o->fV o=true->W' c=some o) →
   bL K CL H' W' Qyh Qa9 fp->fp.Nodup->(∀c∈fp,W' c=none/\b c=none)->Q .non H'
variable{A:Type}{f:Addr}{arg:Qak}{Pre:Qae}
def XI{res:Qfb}(a:A)(M:Mk X.K (CL c) f)(F:eX X.prog X.w X.K X.mg X.base pT k f fd ps (qw X.K CL c n arg Pre res))(s:Qi9)(hm:X.mg x=some QfZ)(hb:QgX)
  (h:QgY) (hn:(arg a).length+1=n) (t:Pre a) (y:T.cy QdN=true) (u:Qad)
  (o:AD x:=by decide) (he:Qax:=by exact aY rfl) (hpl:QaU:=by rfl) :
  bG X CL b Qbb δ (.ins c QdN) δ1:=λH Z U ts vs Q S kk=>
 bM (KD M F s u hm hb .nil A0 B5 o he hpl) (h H Z U ts vs _ S λus H1 Z1 j k1 g r x dx p d ne=>by
  rw[f6];refine#[H1,H1,a,x,dx,us,rfl,p,d,ne,rfl,.refl _,λ_ _ q _=>q,r,hn,t,g.Nq,λH' W' fp i ww m nw tp rt nd own=>#[rfl,?_]];obtain⟨Z',l,v⟩:=g.back i g.zh ww m nw tp rt nd own (.inr (‹_›));exact kk _ H' Z' (j.trans l) (k1.trans i) v)
def KW{arg:Qak}{Pre:Qae}{res:Qfb}(F:Qc8)(S:Qb5)
  (hb:∀(dO:Value) (l:Qaj) (outer:Co) (s:Qb) (H:Hp) (E:XK) (b:Bx) (a:A) (y:Addr),dJ k Qv8->Pre a →
   cJ (kE pT P w K mg base N qual Qan f dO l outer s H E).MN CL b Qba (some Qu7::((arg a).map QhZ++List.replicate (N.length-((arg a).length+1)) none))
    {nx:=λδ=>δ[0]? = some (some (.pin y Qyh)),rt:=λ_ _=>False}) :
  eX P w K mg base pT Qaf f fd ps (qw K CL c ps.length arg Pre res):=by
 refine Ce F S (λvs H Q E h=>?_) (λdO l outer s H vs Q E _ G h=>?_)
 .obtain⟨W,j,a,y,dx,us,rfl,_,_,_,_,_,_,r,B,_⟩:=h;rw[hq,<- r.length];exact B
 .obtain⟨W,j,a,y,dx,us,rfl,m,n,ne,rfl,u,tp,r,B,I,tb,kk⟩:=h;have old:∀{d:Addr} {o:HO},j d=some o->upd (upd j dx (.own y)) y Qu6 d=some o:=λ{d o} q=>by
   rw[aB (bD q m),aB (bD q n)];exact q
  refine#[_,Nn,hb dO l outer s _ E #[j,W] a y G I _ W _ [] [] _ #[#[[y]++[],[],?_,.nil,WA,λd hd=>?_],λd o q=>old q,.refl _,λd o q=>old (u d o q),λd o q z=>?_,λd o q i=>?_,tb] #[λδ' U' H' Z' s' g e=>?_,λt v H' Z' δ' U' s' g e=>e.elim,λ_ _ _ _ _ _ e=>e.elim,λ_ _ _ _ _ _ e=>e.elim]]
  .unfold L2.start;rw[eM,hq,hS,<- r.length];exact .cons (.pin (.ins aR .nil)) (jT _ r)
  .have:d=y:=by simpa using hd
   subst this;exact#[HN u m,m]
  .have q':W d=some o:=q;have p:W d=none:=z;rw[q']at p;cases p
  .by_cases h1:d=y
   .subst h1;rw[aR]at q;cases q;cases i
   .rw[aB h1]at q;by_cases C:d=dx
    .subst C;rw[aR]at q;cases q;cases i
    .rw[aB C]at q;exact tp d o q i
  .obtain⟨fp,gp,J,_,nd,own⟩:=g.rep;obtain⟨v,f1,f2,f3,hv,D,rt,_,_⟩:=J.get e;subst D;replace rt:=rt.Nk;obtain⟨rfl,rt⟩:=rt;refine kk H' Z' f2 g.bh g.zz g.zh g.new g.tp rt ?_ λd hd=>own d (by simp[hd]);have h1:=(hV.1 nd).1;exact(hV.1 (hV.1 h1).2.1).1
variable{body:CS}{ds oz:BC}
theorem Cm(g:Gx X)(P:QiK)(m:Nat)(h0:P m δ)
  (k:∀m δ,P m δ->∃p δ1,kX X CL b e δ p δ1 ∧
   (p=true->cJ X CL b body δ1 {nx:=λδ2=>∃a,a<m/\P a δ2,rt:=DD.rt,bk:=λδ2=>cJ X CL b dP δ2 DD,ct:=λδ2=>∃a,a<m/\P a δ2})/\(p=false->cJ X CL b dP δ1 DD)) :
  cJ X CL b (.While e body [] pos::dP) δ DD:=bR λH Z U ts vs E S M=>
 n8 (Q8 g.xe lb Nn) (by
  refine#[λm U H=>∃Z2 δ2,aA Z Z2/\bC X.K CL b H Z2 δ2 U ts vs/\P m δ2,#[m,Z,δ,.refl _,S,h0],?_];rintro m U H ⟨Z2,δ2,f,o,p2⟩;obtain⟨p,δ3,j,h1,n⟩:=k m δ2 p2;refine j H Z2 U ts vs _ o λi Z3 d k3 h=>?_;cases p with
  | true=>
   refine#[ _,λU' H' q=>q,?_];refine h1 rfl i Z3 U ts vs _ h #[λδ' U' H' Z' s' c ⟨a,l,q⟩=>#[a,l,Z',δ',f.trans QmJ,c,q],λt v H' Z' δ' U' s' c q=>M.rt t v H' Z' δ' U' Qx5 c q,
    λδ' U' H' Z' s' c q=>M.nx δ' U' H' Z' Qx5 c q,λδ' U' H' Z' s' c ⟨a,l,q⟩=>#[a,l,Z',δ',f.trans QmJ,c,q]]
  | false=>
   exact M.nx δ3 U i Z3 Qf7 h (n rfl))
def SH(K:Frag):R2:=λx y H Q=>∃l b xs zs,x=.ref l/\y=.ref b/\mE K H l xs/\mE K H b zs/\xs.length+zs.length<=sizeLine/\∀p,H p=none->Q Qbi (upd H p (.lst (xs++zs)))
theorem KY:nG X QeC (SH X.K):=by
 intro pins s U H x y v u Q I j i h;obtain⟨l,b,xs,zs,rfl,rfl,o,p,C,q⟩:=h;cases j;cases i;obtain⟨its,r,k,_⟩:=I.list o;obtain⟨f,d,a,_⟩:=I.list p;have e1:=r.length;have e2:=d.length;obtain⟨⟨c1,dd,z,sl⟩,e,m,n,hd⟩:=k.isList;obtain⟨⟨c2,c,w,A⟩,g,B,n2,hd2⟩:=a.isList;cases m;cases B;cases hd;cases hd2;refine concat_meets #[_,e,rfl] #[_,g,rfl] noFill_list_add seq_list_add PySem.F.slot_list_add PySem.F.entry_list_add (PySem.F.args_list_add_2 _ _)
  (list_addW l b _ _ n n2 dd c sl A WF) #[e,g,?_]
 have t:its.toArray++f.toArray=(its++f).toArray:=by simp
 rw[t];exact#[.ref _,_,I.Rx (r.append d) WE,rfl,q _ I.fresh]
theorem aL.app{ds oz:BC}{a:BY}(h:QiT)(b:aL K CL Z oz a):aL K CL Z (ds++oz) (vs++a):=
 aL.ind (P:=λds vs=>aL K CL Z (ds++oz) (vs++a)) b (λr _ i=>.cons r i) h
def jF(h1:Qsw)(m:bT X CL b e2 δ1 (.lst oz) δ2)(i1:QgW)(i2:D.bV oz=true)(j:Qg1) :
  bG X CL b QcG δ (.lst ((ds++oz).map T.sh)) δ2:=λH Z U ts vs Q S k=>
 bM (uZ KY bZ bZ) (h1 H Z U ts vs _ S λv1 H1 Z1 g k1 q i=>m H1 Z1 U ts vs _ q λv2 H2 Z2 f k2 a h=>by
  have n:=i.mono k2;obtain⟨_,_,rfl,r,e⟩:=n.i9;obtain⟨_,_,rfl,s,d⟩:=h.i9;refine#[_,_,_,_,rfl,rfl,r,s,by rw[<- e.length,<- d.length];exact j,λp l=>?_];have rc:=aL.app (aL.iQ a.tp i1 e) (aL.iQ a.tp i2 d);obtain⟨c,o⟩:=(bC.nK rc a).qZ (g0:=[]) (by simp[e.length,d.length]) l;exact k _ _ _ Qf8 Qen o)
def boot_min:bootBuiltins "min" = some QvA:=by decide +kernel
def boot_max:bootBuiltins "max" = some Qvz:=by decide +kernel
def boot_str:bootBuiltins "str" = some Qxe:=by decide +kernel
def XM{i j:Int}(g:Gx X)(hm:X.mg "min" = none)(f:Gl X "min")(h:QrA)(e:Qhk:=by exact aY rfl)(hpl:(backTo pos QlW).any (·.1)=false:=by rfl) :
  bG X CL b (.Call (.Name "min" pp) [e1,e2] [] pos) δ (.sh QqP) δ1:=λH Z U ts vs Q S k=>
 bM (iD (MX g.calm) f hm boot_min B5 (he:=e) (hpl:=hpl)) (h H Z U ts vs _ S λus H1 Z1 a k1 l r=>by
  cases r with
  | cons d r=>
   cases r with
   | cons c r=>
    cases r;rw[d.sc rfl,c.sc rfl];exact#[i,j,rfl,k _ H1 Z1 a k1 QwH])
def XO{i j:Int}(g:Gx X)(hm:X.mg "max" = none)(f:Gl X "max")(h:QrA)(e:Qhk:=by exact aY rfl)(hpl:(backTo pos QlW).any (·.1)=false:=by rfl) :
  bG X CL b (.Call (.Name "max" pp) [e1,e2] [] pos) δ (.sh QqO) δ1:=λH Z U ts vs Q S k=>
 bM (iD (MV g.calm) f hm boot_max B5 (he:=e) (hpl:=hpl)) (h H Z U ts vs _ S λus H1 Z1 a k1 l r=>by
  cases r with
  | cons d r=>
   cases r with
   | cons c r=>
    cases r;rw[d.sc rfl,c.sc rfl];exact#[i,j,rfl,k _ H1 Z1 a k1 QwH])
def Cp{i:Int}(hm:X.mg "str" = none)(d:Gl X "str")(h:Qtb)(hi:i.natAbs.log2<1920)(a:Qaz:=by exact aY rfl) :
  bG X CL b (.Call (.Name "str" pp) [e] [] pos) δ (.sh Qyc) δ1:=λH Z U ts vs Q S k=>
 bM (jM BO d hm boot_str Qdz (he:=a)) (h H Z U ts vs _ S λv H1 Z1 c k1 f r=>r.sc rfl▸#[i,rfl,hi,k _ H1 Z1 c k1 (f.push QcY)])
structure Fm(X:Cx)(CL:BM)(x:Str)(k n:Nat){A:Type}(arg:Qak)(Pre:Qae)(res:Qfb):Prop where
 ex:∃f fd ps,Mk X.K (CL x) f/\eX X.prog X.w X.K X.mg X.base pT k f fd ps (qw X.K CL x n arg Pre res)/\X.mg x=some (.ref (CL x))/\Binds X.K fd ps []
 room:dJ Qaf X.A
structure Fq(X:Cx)(CL:BM)(c m:Str)(k n:Nat){A:Type}(arg:Qak)(Pre:Qae)(res:QaA):Prop where
 ex:∃f fd ps,Meth X.K (CL c) m f/\eX X.prog X.w X.K X.mg X.base pT k f fd ps QkC/\Binds X.K fd ps []
 room:dJ k X.A
 cls:Hw X.K (CL c)
def R6(N:AT)(y:Addr)(c:Str)(ds:BC):Ap:=some Qu7::(ds.map QhZ++List.replicate (N.length-(ds.length+1)) none)
def acK{b:BM}{arg:BA->BC}{pre:BA->Prop}{res:BA->T}(m:∀a,arg a=[.lst (a.map .int)])(j:∀a,res a=.sh QaV)(h0:∀x,xU x=true->CL x=0) :
  ∀(vs:BY) (H:Hp) (Q:VK) (E:XK),G7 K b 1 arg pre res vs H Q E->G7 K CL 1 arg pre res vs H Q E:=by
 rintro vs H Q E ⟨W,a,h1,p,d,o,n,_,k⟩;have c:∀{l:BA} {us:BY},aL K b W Qf4 us->aL K CL W Qf4 us:=by
  intro l
  induction l with
  | nil=>intro us r;cases r;exact .nil
  | cons i l g=>
   intro us r;cases r with
   | cons r t=>cases r;exact .cons Qa0 (g t)
 refine#[W,a,h1,p,?_,o,n,λx h e=>absurd (h0 x h) e,λv H' W' fp a1 a2 a3 a4 a5 r nd own=>k v H' W' fp a1 a2 a3 a4 a5 ?_ nd own]
 .rw[m]at d ⊢;cases d with
  | cons r t=>
   cases t;obtain⟨_,_,rfl,q,f⟩:=r.i9;exact .cons (.lst q (c f)) .nil
 .rw[j]at r ⊢;replace r:=r.El;obtain⟨rfl,r⟩:=r;cases r;exact .sh Qb0
section
variable{m:Str}{D:c6}
def mk_{arg:Qak}{Pre:Qae}{res:Qfb}(a:A)(F:QtS)(g:Qad)(h:QgY)(d:Pre a)(i:T.cy QdN=true)(hn:(arg a).length+1=n:=by rfl)
  (c:AD x:=by decide) (he:Qax:=by exact aY rfl) (hpl:QaU:=by rfl) :
  bG X CL b Qbb δ (.ins x QdN) δ1:=by
 obtain⟨f,fd,ps,M,j,m,b⟩:=F.ex;exact XI a M j F.room m b h hn d i g c he hpl
end
def Cq{f:Str}{d:α}{fs:List (Str×α)}:((f,d)::fs).lookup f=some d:=by simp
variable{d:L3.D}
theorem Cr(x:Int):∀l:BA,mx QjC (l.map V.int)=decide QbY
 | []=>rfl
 | y::l=>by
  have a:=Cr x l;unfold mx at a ⊢;rw[eM,jq,a];show(y==x || _)=_;by_cases h:y=x
  .subst h;simp
  .have h':¬ x=y:=λe=>h e.symm;simp[h,h']
theorem aL.ints{K:Frag}{Z:Hp}:∀{l:BA} {vs:BY},aL K CL Z (l.map D.int) vs->vs=l.map V.int
 | [],_,r=>by
  have a:=r;cases a;rfl
 | y::l,_,r=>by
  have a:=r;cases a with
  | cons c b=>rw[c.sc rfl,aL.ints b];rfl
theorem mO:∀l:BA,(l.map V.int).all qD=true
 | []=>rfl
 | y::l=>by rw[eM,k4,mO l];rfl
def x8(d:L3.D):Option BC:=match d with
 | .lst ds=>some ds
 | .tup ds=>some ds
 | _=>none
theorem bK.x8{ds:BC}(r:Qd4)(h:L3.x8 d=some ds):∃p us,v=.ref p/\(mE K Z p us\/lK K Z p us)/\aL K CL Z ds us:=by
 cases r with
 | tup b a=>cases h;exact#[_,_,rfl,.inr b,a]
 | lst b a=>cases h;exact#[_,_,rfl,.inl b,a]
 | non=>cases h
 | bl=>cases h
 | int=>cases h
 | str=>cases h
 | any=>cases h
 | val=>cases h
 | iY=>cases h
 | dct=>cases h
 | ins=>cases h
 | B4=>cases h
def KZ{l:BA}{i:Int}(h1:QaY)(o:Qia)(hd:L3.x8 d=some Qf4)(hm:QhI) :
  kX X CL b Qdd δ (!decide (i∈l)) δ2/\bG X CL b Qdd δ (.sh (.bl (!decide (i∈l)))) δ2:=by
 constructor
 .intro H Z U ts vs Q S k;refine se QwI (h1 H Z U ts vs _ S λv1 H1 Z1 f k1 n a=>o H1 Z1 U ts vs _ n λv2 H2 Z2 c k2 m h=>?_);obtain⟨p,us,rfl,j,g⟩:=bK.x8 h hd;have e:=g.ints;subst e;refine#[_,_,rfl,j,by rw[a.sc rfl];rfl,mO l,_,rfl,?_];rw[a.sc rfl,Cr];exact k H2 Z2 QeV Qag m
 .intro H Z U ts vs Q S k;refine bM QwJ (h1 H Z U ts vs _ S λv1 H1 Z1 f k1 n a=>o H1 Z1 U ts vs _ n λv2 H2 Z2 c k2 m h=>?_);obtain⟨p,us,rfl,j,g⟩:=bK.x8 h hd;have e:=g.ints;subst e;refine#[_,_,rfl,j,by rw[a.sc rfl];rfl,mO l,?_];rw[a.sc rfl,Cr];exact k _ H2 Z2 QeV Qag QwK
def K0(h1:Qd6)(n:Qia)(hd:L3.x8 d=some Qci)(hm:QhW) :
  kX X CL b Qdf δ (decide QbY) δ2/\bG X CL b Qdf δ (.sh QlL) δ2:=by
 constructor
 .intro H Z U ts vs Q S k;refine se QwE (h1 H Z U ts vs _ S λv1 H1 Z1 f k1 m a=>n H1 Z1 U ts vs _ m λv2 H2 Z2 c k2 j h=>?_);obtain⟨p,us,rfl,i,g⟩:=bK.x8 h hd;have e:=g.strs;subst e;refine#[_,_,rfl,i,by rw[a.sc rfl];rfl,fG l,_,rfl,?_];rw[a.sc rfl,mL];exact k H2 Z2 QeV Qag j
 .intro H Z U ts vs Q S k;refine bM QwF (h1 H Z U ts vs _ S λv1 H1 Z1 f k1 m a=>n H1 Z1 U ts vs _ m λv2 H2 Z2 c k2 j h=>?_);obtain⟨p,us,rfl,i,g⟩:=bK.x8 h hd;have e:=g.strs;subst e;refine#[_,_,rfl,i,by rw[a.sc rfl];rfl,fG l,?_];rw[a.sc rfl,mL];exact k _ H2 Z2 QeV Qag Qm4
def su(h1:Qd6)(n:Qia)(hd:L3.x8 d=some Qci)(hm:QhI) :
  kX X CL b Qdd δ (!decide QbY) δ2/\bG X CL b Qdd δ (.sh (.bl (!decide QbY))) δ2:=by
 constructor
 .intro H Z U ts vs Q S k;refine se QwI (h1 H Z U ts vs _ S λv1 H1 Z1 f k1 m a=>n H1 Z1 U ts vs _ m λv2 H2 Z2 c k2 j h=>?_);obtain⟨p,us,rfl,i,g⟩:=bK.x8 h hd;have e:=g.strs;subst e;refine#[_,_,rfl,i,by rw[a.sc rfl];rfl,fG l,_,rfl,?_];rw[a.sc rfl,mL];exact k H2 Z2 QeV Qag j
 .intro H Z U ts vs Q S k;refine bM QwJ (h1 H Z U ts vs _ S λv1 H1 Z1 f k1 m a=>n H1 Z1 U ts vs _ m λv2 H2 Z2 c k2 j h=>?_);obtain⟨p,us,rfl,i,g⟩:=bK.x8 h hd;have e:=g.strs;subst e;refine#[_,_,rfl,i,by rw[a.sc rfl];rfl,fG l,?_];rw[a.sc rfl,mL];exact k _ H2 Z2 QeV Qag Qm4
variable{ds:BC}
def aT:B7 X CL b [] δ (([]:BC).map T.sh) δ:=bP
def au(h1:QhN)(c:B7 X CL b es δ1 QbU δ2)(a:Qax:=by exact aY rfl):B7 X CL b Qau δ ((d::ds).map T.sh) δ2:=aN h1 c a
theorem eO(h:QrJ)(a:QaP):bG X CL b Qnu δ (.lst QbU) δ1:=cT h WE
def gP(l:AT):D.bV Qv9=true:=eN Qbv _
def wJ(h:Qr4):bG X CL b e δ (.sh QbZ) δ1:=by
 have:=B8 h
 rwa [T.ez,gX]at this
noncomputable def fS(h:QaC)(q:t.ez=d):bG X CL b e δ (.sh d) δ1:=q▸B8 h
noncomputable def kJ{d2:L3.D}(h:Qd5)(q:d=d2):bT X CL b e δ d2 δ1:=q▸h
noncomputable def aJ{t2:T}(h:QaC)(q:t=t2):bG X CL b e δ t2 δ1:=q▸h
structure x9(Z H Z' H':Hp):Prop where
 z:aA Z Z'
 h:aA H H'
 zh:aA Z' H'
 new:∀a o,Z' a=some o->Z a=none->H a=none
 tp:∀a o,H' a=some o->fV o=true->Z' a=some o
theorem x9.refl(zh:Qfc)(tp:∀a o,H a=some o->fV o=true->Z a=some o):x9 Z H Z H:=#[.refl _,.refl _,zh,λa o q z=>WF,tp]
theorem x9.tup(zh:Qfc)(tp:∀a o,H a=some o->fV o=true->Z a=some o)(b:QgO):x9 Z H (upd Z p Qa2) (upd H p Qa2):=by
 have c:=zh.free b;refine#[aA.upd c,aA.upd b,λa o q=>?_,λa o q z=>?_,λa o q i=>?_]
 .by_cases e:a=p
  .subst e;rw[aR]at q ⊢;exact q
  .rw[aB e]at q ⊢;exact zh a o q
 .by_cases e:a=p
  .subst e;exact b
  .rw[aB e,z]at q;cases q
 .by_cases e:a=p
  .subst e;rw[aR]at q ⊢;exact q
  .rw[aB e]at q ⊢;exact tp a o q i
theorem bC.grow(S:QaB)(g:x9 Z H Z' H'):bC K CL b H' Z' δ U ts vs:=by
 obtain⟨fp,gp,e,r,nd,k⟩:=S.rep;have old:=λa c=>(eB.1 c).elim (e.there a) Qoh;have keep:∀a∈fp++gp,H' a=H a:=λa c=>by
  obtain⟨o,q⟩:=old a c;rw[q];exact g.h a o q
 refine#[#[fp,gp,e.mono g.z (λa c=>keep a (e6 _ c)),r.mono g.z (λa c=>keep a (e4 _ c)),nd,λa c=>#[?_,(k a c).2]],S.bh.trans g.h,S.zz.trans g.z,g.zh,λa o q z=>?_,g.tp,S.tab]
 .cases q:Z' a with
  | none=>rfl
  | some o=>
   obtain⟨u,d⟩:=old a c;rw[g.new a o q (k a c).1]at d;cases d
 .cases e2:Z a with
  | none=>exact S.bh.free (g.new a o q e2)
  | some u=>
   have:=g.z a u e2;rw[q]at this;cases this;exact S.new a o e2 z
def K1(δ:Ap):CO->BC->Ap
 | i::is,d::ds=>K1 (δ.set i Qbs) is ds
 | _,_=>δ
noncomputable def yb(U:L2.St):CO->BY->L2.St
 | i::is,v::vs=>yb QeB is vs
 | _,_=>U
theorem bC.sets{ps:BC}{ys:BY}:∀{is:CO} {δ:Ap} {U:L2.St},bC K CL b H Z δ U ts vs->aL K CL Z ps ys->(∀i∈is,i<δ.length)->bC K CL b H Z QnR (yb U is ys) ts vs:=by
 intro is
 induction is generalizing ps ys with
 | nil=>
  intro δ U S r _;cases ps<;>cases ys<;>exact S
 | cons i is d=>
  intro δ U S r a;cases r with
  | nil=>exact S
  | cons r c=>exact d ((S.push r).set (a i eu)) c (λj e=>by rw[ij];exact a j (eE _ e))
section
variable{tg:Expr}{ds:BC}
structure R7(X:Cx)(CL:BM)(b:Bx)(δ1:Ap)(U:L2.St)(ts:B2)(vs:BY)(Z H:Hp)(ds:BC)(J:It)(H1:Hp):Prop where
 ex:∃Z1,aA Z Z1/\aA H H1/\bC X.K CL b H1 Z1 δ1 U ts vs/\(∀i H2,aA Z1 H2->i<ds.length->J.go i H2) ∧
  (∀i Z2 H2 x H',aA Z1 Z2->aA Z2 H2->(∀a o,H2 a=some o->fV o=true->Z2 a=some o)->i<ds.length->J.Ks i H2 x H'->∃Z3 d,ds[i]? = some d/\x9 Z2 H2 Z3 H'/\bK X.K CL Z3 d x)/\(∀H2,aA Z1 H2->J.stop ds.length H2)
def QI(X:Cx)(CL:BM)(b:Bx)(tg e:Expr)(δ:Ap)(ds:BC)(δ1:Ap):Prop:=
 ∃a,PI X tg e a/\∀(H Z:Hp) (U:L2.St) (ts:B2) (vs:BY) (R:QgF),bC X.K CL b H Z δ U ts vs->(∀J H1,R7 X CL b δ1 U ts vs Z H ds J H1->R J H1)->a U H R
def Ew(h:QH X CL b tg iter δ ds δ1):QI X CL b tg iter δ ds δ1:=by
 obtain⟨f,pi,hw⟩:=h;refine#[f,pi,λH Z U ts vs R S k=>hw H Z U ts vs R S λJ H1 zz=>?_];obtain⟨Z1,us,a,k1,n,g,go,c,st⟩:=zz;refine k J H1 #[Z1,a,k1,n,go,λi Z2 H2 x H' s1 s2 tp hi l=>?_,st];obtain⟨e,m⟩:=c i H2 x H' Qi0 hi l;subst e;obtain⟨d,hd,j⟩:=g.RH m;exact#[Z2,d,hd,.refl s2 tp,j.mono s1]
def pE(X:Cx)(CL:BM)(tg:Expr)(is:CO)(parts:Qg2):Prop:=
 ∃t:TG,PG X tg t/\∀(Z H:Hp) (d:D) (ps:BC) (x:V) (U:L2.St) (Q:QvE),aA Z H->bK X.K CL Z d x->parts d=some ps->(∀ys,aL X.K CL Z ps ys->Q (yb U is ys) H)->t x U H Q
def part1(d:D):Option BC:=some [d]
noncomputable def part2:D->Option BC
 | .tup [a,c]=>some [a,c]
 | _=>none
theorem NC{d:D}{ps:BC}(h:part2 d=some ps):∃d1 d2,d=.tup [d1,d2]/\ps=[d1,d2]:=by
 cases d with
 | tup ds=>
  obtain _|⟨a,_|⟨c,_|⟨e,l⟩⟩⟩:=ds
  .cases h
  .cases h
  .cases h;exact#[_,_,rfl,rfl]
  .cases h
 | _=>cases h
theorem HS{d:D}{ps:BC}{x:V}{Q:QvE}(zh:Qfc)(r:bK K CL Z d x)(e:part2 d=some ps)(k:∀ys,aL K CL Z ps ys->Q (yb U [i,j] ys) H):He K 2 (Q6 (Kr i) (Q6 (Kr j) Hk)) x U H Q:=by
 obtain⟨d1,d2,rfl,rfl⟩:=NC e;obtain⟨_,_,rfl,f,a⟩:=r.kW;cases a with
 | cons c a=>
  cases a with
  | cons b a=>
   cases a;exact#[_,_,rfl,aA.DY zh f,rfl,_,_,rfl,_,_,rfl,rfl,k _ (.cons c (.cons b .nil))]
def yc{px:Pos}(a:QaX)(n:Qbm):pE X CL Qcj [i] part1:=
 #[ _,wB a n.hi n.loc n.hf,λZ H d ps x U Q zh r e k=>by
  cases e;exact k [x] (.cons r .nil)]
def sy{y:Str}{px py pt:Pos}(a:QaX)(g:QaH)(n:Qbm)(m:Ln X j y)(f:(assignEach [.Name x px,.Name y py] X.env).map (·.2)=assign Qcj X.env::(assignEach [.Name y py] X.env).map (·.2):=by rfl)(b:(assignEach [.Name y py] X.env).map (·.2)=assign Qn6 X.env::(assignEach [] X.env).map (·.2):=by rfl)
  (hn:(assignEach [.Name x px,.Name y py] X.env).length=2:=by rfl) (c:(assignEach [.Name x px,.Name y py] X.env).findIdx? (·.1)=none:=by rfl):pE X CL (.Tuple [.Name x px,.Name y py] k pt) [i,j] part2:=
 #[ _,abR g (Eb (wB a n.hi n.loc n.hf) (Eb (wB a m.hi m.loc m.hf) W4 b) f) hn c,λZ H d ps x U Q zh r e k=>HS zh r e k]
theorem XQ{D:c6}(is:CO)(parts:Qm5)(P:QiK)(h:Qd8)(n:Qwa)(h0:P 0 δ1)(I:∀j δ,P j δ->∀i∈is,i<δ.length)
  (C:∀j d δ,ds[j]? = some d->P j δ->∃ps,parts d=some ps/\cJ X CL b dP QnR {nx:=P QaF,rt:=D.rt,bk:=D.nx,ct:=P QaF}) (hd:∀δ,P ds.length δ->D.nx δ)
  (G:Qk3) (L:QaH) (F:QaT:=by intro _;rfl) :
  QG X CL b (.For tg iter dP [] pos) δ D:=λH Z U ts vs E S M=>by
 obtain⟨R,pi,hw⟩:=h;obtain⟨t,pg,n⟩:=n;refine n8 (abY G L pi pg Nn F) (hw H Z U ts vs _ S λJ H1 zz=>?_);obtain⟨Z1,f,k1,O,go,u,st⟩:=zz;refine#[λj m U H2=>m=ds.length-j/\j<=ds.length/\∃Z2 δ2,aA Z1 Z2/\bC X.K CL b H2 Z2 δ2 U ts vs/\P j δ2,#[_,rfl,fT _,Z1,δ1,.refl _,O,h0],?_];rintro j m U H2 ⟨rfl,T,Z2,δ2,s,c,p2⟩;by_cases g:j<ds.length
 .refine .inr #[go j H2 Qxq g,_,λU' H' h=>#[ _,We,rfl,g,h],λy H' B=>?_];obtain⟨Z3,d,p,q,x⟩:=u j Z2 H2 y H' s c.zh c.tp g B;obtain⟨ps,o,hb⟩:=C j d δ2 p p2;have r:=c.grow q;refine n Z3 H' d ps y U _ r.zh x o λys l=>?_;have N:=r.sets l (I j δ2 p2);have s3:=s.trans q.z;exact hb _ Z3 _ ts vs _ N #[λδ' U' H' Z' s' a k=>#[Z',δ',s3.trans s',a,k],λt v H' Z' δ' U' s' a k=>M.rt t v H' Z' δ' U' QtE a k,λδ' U' H' Z' s' a k=>M.nx δ' U' H' Z' QtE a k,λδ' U' H' Z' s' a k=>#[Z',δ',s3.trans s',a,k]]
 .have e:j=ds.length:=by lia
  subst e;exact .inl #[st H2 Qxq,M.nx δ2 U H2 Z2 (f.trans s) c (hd δ2 p2)]
def t7{D:c6}{is:CO}{parts:Qm5}(g:Gx X)(a:Qwa)(P:QiK)(h:Qd8)(h0:P 0 δ1)(f:∀j δ,P j δ->∀i∈is,i<δ.length)
  (c:∀j d δ,ds[j]? = some d->P j δ->∃ps,parts d=some ps/\cJ X CL b body QnR {nx:=P QaF,rt:=D.rt,bk:=λδ2=>cJ X CL b dP δ2 D,ct:=P QaF}) (hd:∀δ,P ds.length δ->cJ X CL b dP δ D) (e:QaT:=by intro _;rfl) :
  cJ X CL b (.For tg iter body [] pos::dP) δ D:=
 bR (XQ is _ P h a h0 f c hd g.xe g.calm e)
def dU{D:c6}{pos':Pos}(g:Gx X)(n:Qbm)(P:QiK)(h:QH X CL b QiX iter δ ds δ1)(h0:P 0 δ1)(f:∀j δ,P j δ->i<δ.length)
  (c:∀j d δ,ds[j]? = some d->P j δ->cJ X CL b body (δ.set i Qbs) {nx:=P QaF,rt:=D.rt,bk:=λδ2=>cJ X CL b dP δ2 D,ct:=P QaF}) (hd:∀δ,P ds.length δ->cJ X CL b dP δ D) (e:QaT:=by intro _;rfl) :
  cJ X CL b (.For QiX iter body [] pos::dP) δ D:=
 t7 g (yc g.nd n) P (Ew h) h0 (λj δ a k l=>eL.1 l▸f j δ a) (λj d δ m a=>#[_,rfl,c j d δ m a]) hd e
end
structure jt(X:Cx)(scope:Scope)(xs:AT)(Nc:AT)(ix:CO):Prop where
 kind:scope.kind=.function
 Ci:∀y∈scope.names,y.2 ≠ .cell
 nd:Nc.Nodup
 names:∀y∈scope.names,y.2=.local->scope.names.lookup y.1=some .local
 own:∀x∈xs,scope.names.lookup x=some .local
 frees:∀y∈scope.names,y.2=.free->scope.names.lookup y.1=some .free/\Qqy
 hd:Nc=xs++ix.filterMap (X.N[·]?)
 qy:∀i∈ix,∃y,X.N[i]? = some y/\scope.names.lookup y=some .free
noncomputable def NF(U:L2.St)(ix:CO)(os:QgA):L2.St:=os++ix.map λi=>(U[i]?).getD none
variable{xs:AT}
theorem Ey(sc:QcA)(I:QK)(x:∀b∈fp,nX X pins H b/\b<s.heap.objs.size){h':Heap}{m:BS}{tk:Nat}
  (hn:h'.Ns s.heap.objs.size m) (d:∀b o,s.heap.get? b=some o->h'.get? b=some o) :
  Inv Qkz [] (NF U ix QrL) H {s with heap:=h',toks:=tk}:=by
 have frees:∀y∈scope.names,y.2=.free->∃c,X.env.cells.lookup y.1=some c:=λy J e=>I.ok.has y.1 (sc.frees y J e).2;have sub:∀{y:Str} {c:Addr},(fX X.env scope.names []).lookup y=some c->X.env.cells.lookup y=some c:=λ{y c} e=>rj frees (λ_ _ z=>by cases z) e;have hlen:(NF U ix QrL).length=Nc.length:=by
  have all:∀l:CO,(∀i∈l,∃y,X.N[i]? = some y/\scope.names.lookup y=some .free)->(l.filterMap (X.N[·]?)).length=l.length:=by
   intro l
   induction l with
   | nil=>intro _;rfl
   | cons i r G=>
    intro h;obtain⟨y,e,_⟩:=h i eu;rw[kR,e];show _+1=_+1;rw[G λj C=>h j (eE _ C)]
  unfold NF;rw[sc.hd,fg,fg,ed,kS,all ix sc.qy]
 have C0:s.heap.get? s.heap.objs.size=none:=vu (eA _);refine#[#[I.ok.mod,sc.kind,I.ok.glob,I.ok.blt,eA _,λy z c h1 f=>I.ok.inj y z c (sub h1) (sub f),λy J=>?_,λy c hf _=>(by cases (show false=true from hf)),I.ok.hd,I.ok.frames,.inl rfl,λb hb=>#[hB (x b hb).2,λy c e=>(x b hb).1.2.2.2.2.1 y c (sub e)],I.bs,gr I.ok.QY I.sz,λb o e hb=>?_,λb hb hf=>?_,I.stack,I.rS],
  rfl,I.bare,Un.kept d,#[m,hn,λi y v h1 f h3=>?_],λy c e=>?_,I.bW.fresh (eA _),λy c e=>I.jA y c (sub e),λp Y=>absurd (show p∈([]:At) from Y) WA,I.bW.kept d,hlen]
 .
  have B:(relabel scope X.env).names.lookup y=some .cell\/(relabel scope X.env).names.lookup y=some .free:=J;cases e:scope.names.lookup y with
  | none=>
   have:=jC (env:=X.env) e;obtain q|q:=B<;>(rw[show(relabel scope X.env).names.lookup y=none from this]at q;cases q)
  | some k=>
   have q:=fY (env:=X.env) e;have d:k=.free:=by
    by_cases d:k=.free
    .exact d
    .have hb:Qmu=false:=by simpa using d
     rw[cq (by rw[hb];simp)]at q;have W:k ≠ .cell:=λz=>by
      subst z;exact sc.Ci _ (nv e) rfl
     obtain z|z:=B
     .rw[show(relabel scope X.env).names.lookup y=some k from q]at z;exact absurd (gv z) W
     .rw[show(relabel scope X.env).names.lookup y=some k from q]at z;exact absurd (gv z) d
   subst d;exact rq e
 .
  rcases(x b hb).1.2.2.2.1 with z|z
  .exact I.ok.Ho b o e z
  .exact absurd (hW (fv e) (gr I.ok.QY z)) (oI _)
 .obtain z|z:=eg.1 (I.xK b hf)
  .exact(x b hb).1.2.1 z
  .exact(x b hb).1.2.2.1 z
 .
  unfold NF at f;by_cases hi:i<xs.length
  .rw[km (by rw[kS];exact hi),List.getElem?_replicate,ee hi]at f;cases f
  .obtain⟨n,rfl⟩:∃n,i=xs.length+n:=#[i-xs.length,We];rw[r4 (by rw[kS];lia),kS,xS,fR]at f;cases F:ix[n]? with
   | none=>rw[F]at f;cases f
   | some j=>
    rw[F]at f;have t:(U[j]?).getD none=some v:=gv f;have C:U[j]? = some Qa1:=by
     cases q:U[j]? with
     | none=>rw[q]at t;cases t
     | some o=>rw[q]at t;exact congrArg some t
    obtain⟨g,A,w⟩:=sc.qy j (ff F);have M:Nc[xs.length+n]? = some g:=by
     have all:∀(l:CO) (i:Nat),(∀j∈l,∃y,X.N[j]? = some y/\scope.names.lookup y=some .free)->l[i]? = some j->(l.filterMap (X.N[·]?))[i]? = some g:=by
      intro l
      induction l with
      | nil=>intro i _ h;simp at h
      | cons a r G=>
       intro i h hi;obtain⟨ya,O,_⟩:=h a eu;rw[kR,O];cases i with
       | zero=>
        simp at hi;subst hi;rw[A]at O;cases O;rfl
       | succ i=>exact G i (λj C=>h j (List.mem_cons_of_mem _ C)) (by simpa using hi)
     rw[sc.hd,r4 We,xS];exact all ix n sc.qy F
    have ey:g=y:=by
     have E:Nc[xs.length+n]? = some y:=h1;rw[M]at E;exact gv E
    subst ey;have S:=(sc.frees (g,.free) (nv w) rfl).2;have P:QX X.env.scope g:=S.elim (λz=>.inr (.inl z)) (λz=>.inr (.inr z));obtain⟨m0,Z,L⟩:=I.loc;obtain⟨u,V,lk⟩:=L j g v A C P;refine#[u,V,?_];obtain⟨kk,_⟩|⟨_,c,hc,T⟩:=lk
    .obtain z|z:=S
     .rw[kk]at z;cases z
     .rw[kk]at z;cases z
    .obtain⟨R,D⟩:=rq (env:=X.env) (cs:=[]) w;have:R=c:=by
      have:=sub D;rw[hc]at this;exact(gv this).symm
     subst this;obtain⟨o,K,hd⟩:=T;refine .inr #[?_,R,D,o,d _ _ K,hd];have q:=fY (env:=X.env) w;show(relabel scope X.env).names.lookup g=some .cell\/(relabel scope X.env).names.lookup g=some .free;rw[show(relabel scope X.env).names.lookup g=_ from q];split
     .exact .inl rfl
     .exact .inr rfl
 .obtain⟨v,o,K,hd⟩:=I.cell y c (sub e);exact#[v,o,d _ _ K,hd]
def K2(X:Cx)(tg elt:Expr)(ifs:CC)(n:Nat)(U:L2.St)(ix:CO)(D:Addr)(N:Qow)(e:V)(os:QgA)(g:Hp):Prop:=
 ∃t:TG,PG X tg t/\t e (NF U ix os) g λa f=>∃b,b.length=n/\a=NF U ix b/\zd X ifs a f λok d=>
  if ok=true then z9 X elt a d λy c=>∃acc,c D=some (.lst acc)/\acc.length<sizeLine/\N (upd c D QwL) else N d
variable{tg:Expr}
def rB{J:It}{it:Addr}{tn:Qix}{G:Addr->Hp->Prop}{RR:QqZ}{E:BB}(a:QhK)
  (sc:QcA) (hc:QaH) (I:QK) (k:QrM) (st:tn 0 s.heap) (hf:∀b∈fp,nX X pins H b)
  (loop:∀D,H D=none->∃W:Nat->Nat->Hp->Prop,(∃m,W 0 m Qpq)/\∀i m H2,W i m H2->(J.stop i H2/\G D H2) ∨
   (J.go i H2/\∃N:Hp->Prop,(∀H',N H'->∃m',m'<m/\W Qai m' H')/\∀O M,J.Ks i H2 O M->∀C s0 H0 f0 os,os.length=xs.length->K2 ((bf X scope Nc C s0 H0 f0).d7 (a QsS)) tg elt ifs xs.length U ix D N O os M))
  (aO:∀D C s' H',(∃m,s'.heap.Ns C m)->(∃o,s'.heap.get? C=some o/\∀v,o.data ≠ .cell v)->H' C=none->(C≠X.env.locals/\C∉X.fs/\X.eI.heap.objs.size<=C/\(∀y c,X.env.cells.lookup y=some c->c≠C)/\∀q∈X.pn++pins,q.1≠C)->(∀h',Heap.SameBut C s'.heap h'->Inv X pins U H' {s' with heap:=h'})->G D H'->RR QaQ C Qjk s')
  (hex:∀D s3 M ev s',Inv X pins U M s3->(∀b∈fp,nX X pins M b)->a (bf X scope Nc s3.heap.objs.size s3 M fp) ev s'->notedBy QE X.A Qkq Qqa ev s') :
  wpAny QE X.A (newList []) (λacc R=>wpAny QE X.A QpN (λNK P=>
   codeAny QE X.A (.compStart QcC 0 QdF acc {NK with scope:=relabel scope X.env}) (RR acc NK.locals) P) E R) E s:=by
 refine wpAny_newObj_type ?_;have F:Inv X pins U QbO {s with heap:=s.heap.push {cls:=.type "list",dict:=none,data:=.seq ([]:B0).toArray}}:=
  I.laid (t':=s.toks) QfC (eA _) #[by show 0<=sizeLine;exact fT _,[],0,.nil,hX _ rfl]
 have hD:H s.heap.objs.size=none:=I.bW.fresh (eA _);obtain⟨W,⟨m0,w0⟩,turn⟩:=loop _ hD;have L:∀b∈fp,nX X pins QbO b/\b<(s.heap.push {cls:=.type "list",dict:=none,data:=.seq ([]:B0).toArray}).objs.size:=λb hb=>by
  obtain⟨f0,f1⟩:=hf b hb;obtain⟨o,ho,_⟩:=k.obj 0 _ st b hb;have vm:=fv ho;refine#[#[by rw[aB (hB vm)];exact f0,f1],?_];rw[Heap.size_push];exact Nat.lt_succ_of_lt vm
 have V:tn 0 (s.heap.push {cls:=.type "list",dict:=none,data:=.seq ([]:B0).toArray}):=k.keep 0 _ _ st λb _ o e=>f7 _ e;generalize ar:({s with heap:=s.heap.push {cls:=.type "list",dict:=none,data:=.seq ([]:B0).toArray}}:Shared)=s3 at F ⊢;have ax:s3.heap=s.heap.push {cls:=.type "list",dict:=none,data:=.seq ([]:B0).toArray}:=by rw[<- ar]
 rw[<- ax]at L V;refine wpAny_newFunctionEnv sc.Ci (by intro y hy;simp at hy) (λh bg bc=>?_) sc.kind;have old:∀b o,s3.heap.get? b=some o->h.get? b=some o:=λb o e=>(bc.2 b Qog).trans (f7 _ e);have J0:=(Ey (tk:=s3.toks+([]:Db).length) sc F L bg old).d7 QcX;have T:tn 0 h:=k.keep 0 _ _ V λb _ o e=>old b o e;have ae:∀s4:Shared,s4={s3 with heap:=h,toks:=s3.toks+([]:Db).length}->codeAny QE X.A (.compLoop QcC 0 QdF Qb9 Qkq) (RR Qb9 s3.heap.objs.size) s4:=by
  rintro s4 rfl;have f:∀{H':Hp},(∀b∈fp,H' b=none)->∀b∈fp,nX ((bf X scope Nc s3.heap.objs.size s3 QbO fp).d7 QcX) [] H' b:=λ{H'} hn b hb=>by
   obtain⟨⟨f0,f1,f2,f3,f4,f5⟩,vm⟩:=L b hb;refine#[hn b hb,hB vm,λz=>?_,.inl hb,λy c e=>f4 y c (rj (λy hy e=>I.ok.has y.1 (sc.frees y hy e).2) (λ_ _ z=>by cases z) e),λp hp=>absurd (show p∈([]:At) from hp) WA];obtain q|q:=eg.1 (F.xK b z)
   .exact f1 q
   .exact f2 q
  refine Cg (E:=a Qpu) (ex:=λev s' z=>hex _ s3 _ ev s' F QsT z) (λn s'=>∃i o H',o.length=xs.length/\Inv ((bf X scope Nc s3.heap.objs.size s3 QbO fp).d7 QcX) [] (NF U ix o) H' s'/\tn i s'.heap/\(∀b∈fp,H' b=none)/\W i n H') ?_ m0 #[0,_,_,kS,J0,T,λb hb=>(L b hb).1.1,w0];rintro n s5 ⟨i,o5,H5,ag,I5,S,aa,w5⟩;obtain⟨stop,g⟩|⟨go,N,hN,step⟩:=turn i n H5 w5
  .refine cR (k.done ((bf X scope Nc s3.heap.objs.size s3 QbO fp).d7 QcX) rfl rfl rfl hc i [] s5 _ H5 _ I5 (f aa) S stop) λr s6 zz=>?_;obtain⟨hr,I6⟩:=zz;subst hr;obtain⟨m6,Z,_⟩:=I6.loc;obtain⟨oc,bp,bq,aw,aI,_⟩:=id Z;have j:=F.z6 (eA s3.heap.objs.size) (H':=λ_=>none) rfl;refine aO _ _ s6 H5 #[m6,Z] #[oc,aw,λv z=>by rw[aI]at z;cases z] I6.free #[j.2.1,j.2.2.1,?_,j.2.2.2.2.1,j.2.2.2.2.2] (λh' NQ=>A3 F QsT I6.dQ NQ) g;exact F.sz
  .refine cR (k.item ((bf X scope Nc s3.heap.objs.size s3 QbO fp).d7 QcX) rfl rfl rfl hc i [] s5 _ H5 _ I5 (f aa) S go) λr s6 zz=>?_;obtain⟨u,hr,h6⟩:=zz;subst hr;refine cR h6 λ_ s7 zz=>?_;obtain⟨O,H7,I7,r7,y7,B,a0⟩:=zz;have bj:=I7.pinned (f a0) (k.obj _ _ B);obtain⟨t,hg,ht⟩:=step O _ y7 s3.heap.objs.size s3 QbO fp o5 ag;refine cR (hg _ s7 _ H7 O u _ bj r7 ht) λ_ s8 zz=>?_;obtain⟨bo,H8,I8,Y,af,e8,h8⟩:=zz;subst e8;refine cR (RT I8 h8) λok s9 zz=>?_;obtain⟨H9,I9,q9⟩:=zz;have again:∀{l:Hp} {sa:Qb},Inv ((bf X scope Nc s3.heap.objs.size s3 QbO fp).d7 QcX) ([]++xN fp s7.heap) (NF U ix Y) l sa->N l->∃m,m<n/\∃i o H',o.length=xs.length/\Inv ((bf X scope Nc s3.heap.objs.size s3 QbO fp).d7 QcX) [] (NF U ix o) H' sa/\tn i sa.heap/\(∀b∈fp,H' b=none)/\W i m H':=λ{l sa} Ia na=>by
    obtain⟨m',hm,wa⟩:=hN l na;refine#[m',hm,i+1,Y,l,af,Ia.rX,k.keep _ _ _ B λb hb o e=>(Ia.pin (b,o) Qh7).1,λb hb=>?_,wa];obtain⟨o,e,d⟩:=k.obj _ _ B b hb;exact(Ia.pin (b,o) Qh7).2.1
   cases ok with
   | false=>
    rw[cq gq]at q9 ⊢;exact again I9 q9
   | true=>
    rw[ee rfl]at q9 ⊢;refine cR (q9 _ s9 I9) λv sa zz=>?_;obtain⟨y,l,Ia,ra,acc,ba,hlen,na⟩:=zz;refine cR (tX (X:=(bf X scope Nc s3.heap.objs.size s3 QbO fp).d7 QcX) _ sa _ l Qb9 [y] Qb9 [v] (λ_ Hb=>Hb=upd l s.heap.objs.size QwL) Ia rfl (.cons ra .nil) #[_,acc,y,rfl,rfl,ba,hlen,rfl]) λ_ sb zz=>?_;obtain⟨_,Hb,Ib,_,eb⟩:=zz;subst eb;exact again Ib na
 exact codeAny_compStart_list (ae _ rfl) (k.self _ 0 _ _ _ T (ae _ rfl))
def Ct(ps:BC):Ap:=ps.map λp=>some (.sh p)
theorem A4:∀{ys:BY} {os:QgA} {pre r:L2.St},os.length=ys.length->yb (pre++(os++r)) (List.range' pre.length ys.length) ys=pre++(ys.map some++r)
 | [],os,pre,r,h=>by
  have:=List.length_eq_zero_iff.1 h;subst this;rfl
 | y::ys,os,pre,r,h=>by
  match os,h with
  | o::os,h=>
   show yb _ _ ys=_;have:=A4 (pre:=pre++[some y]) (r:=r) (by simpa using h);simp_all
def XR:∀{ps:BC} {ys:BY} {δc:Ap} {a:L2.St},aL K CL Z ps ys->d8 K CL H Z δc a []->d8 K CL H Z Qcl (ys.map some++a) []:=λ{ps ys δc a} h e=>
 aL.ind (P:=λps ys=>d8 K CL H Z Qcl (ys.map some++a) []) e (λr _ i=>.cons QjM i) h
section
variable{W1:Hp}{δc:Ap}{J:It}{ds:BC}{p:Qcz}{g:Qcy}{parts:Qg2}
def jG(X:Cx)(CL:BM)(scope:Scope)(Nc:AT)(n:Nat)(tg:Expr)(parts:Qg2)(ifs:CC)(elt:Expr)(δc:Ap)(ds:BC)(p:Qcz)(q:QnV)(b:QhK:=λ_ _ _=>False)(gd:D->Bx->Prop:=λ_ _=>True):Prop:=
 ∀C s0 a f0 c,pE ((bf X scope Nc C s0 a f0).d7 Qox) CL tg QmK parts/\∀d,d∈ds->gd d c->∃ps,parts d=some ps/\ps.length=n/\qe ((bf X scope Nc C s0 a f0).d7 Qox) CL c ifs Qcl (p d)/\(p d=true->zW ((bf X scope Nc C s0 a f0).d7 Qox) CL c elt Qcl (q d) Qcl)
def t8(X:Cx)(CL:BM)(scope:Scope)(Nc:AT)(n:Nat)(tg:Expr)(parts:Qg2)(ifs:CC)(elt:Expr)(δc:Ap)(ds:BC)(p:Qcz)(g:Qcy):Prop:=
 ∀C s0 a f0 b,pE Qhr CL tg QmK parts/\∀d,d∈ds->∃ps,parts d=some ps/\ps.length=n/\qe Qhr CL b ifs Qcl (p d)/\(p d=true->bG Qhr CL b elt Qcl (g d) Qcl)
theorem t8.q(h:QqI):jG X CL scope Nc n tg parts ifs elt δc ds p λd t=>t=g d:=λC s0 b f0 a=>#[(h C s0 b f0 a).1,λd hd _=>by
 obtain⟨ps,h1,i,f,c⟩:=(h C s0 b f0 a).2 d hd;exact#[ps,h1,i,f,λe=>(c e).tq]]
abbrev sA(ds:BC)(p:Qcz)(q:QnV)(G:QiL):Prop:=∀i d l,ds[i]? = some d->G i l->(p d=false->G Qai l)/\(p d=true->∀t,q d t->G Qai (l++[t]))
def R8:sA ds p (λd t=>t=g d) λi l=>l=((ds.take i).filter p).map g:=by
 rintro i d _ hd rfl;dsimp;rw[show ds.take Qai=ds.take i++[d] by rw[iq,hd];rfl,kz,fb];refine#[λe=>?_,λe t z=>?_]
 .rw[pj (by simp[e]),List.filter_nil,List.map_nil,f6]
 .rw[z,ph e];rfl
structure GW(K:Frag)(CL:BM)(H W1:Hp)(D:Addr)(l:B2)(k:Nat)(H2 Z2:Hp)(G8:BY)(fp:BN):Prop where
 a1:aA H H2
 a2:aA W1 Z2
 a3:aA Z2 H2
 a4:Z2 D=none
 a5:∀a o,Z2 a=some o->W1 a=none->H a=none
 a6:∀a o,H2 a=some o->fV o=true->Z2 a=some o
 a7:H2 D=some QoW
 a8:aS K CL H2 Z2 l G8 fp
 a9:fp.Nodup
 b1:D∉fp
 b2:∀a∈fp,Z2 a=none/\H a=none
 b3:G8.length<=k
theorem oA{q:QnV}{G:QiL}{xw:QhK}{gd:D->Bx->Prop}(g0:Qd9)(gs:Qea)(S:QhO)(zw:aA Z W1)(wh:aA W1 H)(tp:∀a o,H a=some o->fV o=true->W1 a=some o)
  (ba:∀H',d8 X.K CL H' W1 δc (ix.map λi=>(U[i]?).getD none) []) (inner:jG X CL scope Nc n tg parts ifs elt δc ds p q xw gd) (a0:∀i d l,ds[i]? = some d->G i l->∀g Z3,aA H g->aA W1 Z3->aA Z3 g->(∀a o,Z3 a=some o->W1 a=none->H a=none)->(∀a o,g a=some o->fV o=true->Z3 a=some o)->gd d #[g,Z3])
  (aO:∀i H2,aA W1 H2->i<ds.length->J.go i H2)
  (hy:∀i Z2 H2 x H',aA W1 Z2->aA Z2 H2->(∀a o,H2 a=some o->fV o=true->Z2 a=some o)->i<ds.length->J.Ks i H2 x H'->∃Z3 d,ds[i]? = some d/\x9 Z2 H2 Z3 H'/\bK X.K CL Z3 d x)
  (kI:∀H2,aA W1 H2->J.stop ds.length H2) (hlen:QaP) (c:W1=Z\/∀l,G ds.length l->T.cG l=true) :
  ∀D,H D=none->∃W:Nat->Nat->Hp->Prop,(∃m,W 0 m Qpq)/\∀i m H2,W i m H2->(J.stop i H2/\∃Z2 l,G ds.length l/\aA Z Z2/\aA H H2/\bC X.K CL b H2 Z2 δ U Qot Qjl) ∨
   (J.go i H2/\∃N:Hp->Prop,(∀H',N H'->∃m',m'<m/\W Qai m' H')/\∀xv g,J.Ks i H2 xv g->∀C s0 H0 f0 os,os.length=n->K2 ((bf X scope Nc C s0 H0 f0).d7 (xw QsS)) tg elt ifs n U ix D N xv os g):=by
 intro D hD;have wD:W1 D=none:=wh.free hD;refine#[λi m H2=>m=ds.length-i/\i<=ds.length/\∃Z2 l G8 fp,G i l/\GW X.K CL H W1 D l i H2 Z2 G8 fp,#[ds.length,rfl,fT _,W1,[],[],[],g0,aA.upd hD,.refl _,wh.trans (aA.upd hD),wD,λa o q z=>?_,λa o q i=>?_,aR,.nil,l0,WA,WA,WA],?_]
 .rw[q]at z;cases z
 .by_cases f:a=D
  .subst f;rw[aR]at q;cases q;cases i
  .rw[aB f]at q;exact tp a o q i
 .rintro i m H2 ⟨rfl,hi,Z2,l,G8,fp,gl,hh,Y,zh,zD,nw,L,E,ra,nd,nD,own,bg⟩;by_cases vm:i<ds.length
  .refine .inr #[aO i H2 (Y.trans zh) vm,λH'=>∃Z2 l G8 fp,G Qai l/\GW X.K CL H W1 D l Qai H' Z2 G8 fp,λH' h=>#[ds.length-Qai,We,rfl,vm,h],λxv g y C s0 H0 f0 os aI=>?_];obtain⟨Z3,d,hd,A,rd⟩:=hy i Z2 H2 xv g Y zh L vm y;have R:∀a,Z2 a=none->(∃o,H2 a=some o)->Z3 a=none:=λa e ⟨o,e2⟩=>by
    cases q:Z3 a with
    | none=>rfl
    | some u=>rw[A.new a u q e]at e2;cases e2
   have M:∀a o,Z3 a=some o->W1 a=none->H a=none:=λa o q z=>by
    cases e:Z2 a with
    | none=>exact hh.free (A.new a o q e)
    | some u=>
     have:=A.z a u e;rw[q]at this;cases this;exact nw a o e z
   have k:aS X.K CL g Z3 l G8 fp:=ra.mono A.z λa f=>by
    obtain⟨o,e⟩:=ra.there a f;rw[e];exact A.h a o e
   have B:∀a∈fp,Z3 a=none/\H a=none:=λa f=>#[R a (own a f).1 (ra.there a f),(own a f).2];have I:Z3 D=none:=R D zD #[_,E];have j:g D=some QoW:=A.h D _ E;have s:=hh.trans A.h;have w:=Y.trans A.z;have F:=A.zh;have aa:=A.tp;clear own nw ra zD E hh Y zh L A R;have t9:d∈ds:=ff hd;obtain⟨mf,aw⟩:=inner C s0 H0 f0 #[g,Z3];obtain⟨ps,ax,hpl,it,ie⟩:=aw d t9 (a0 i d l hd gl g Z3 s w F M aa);obtain⟨t,pg,ht⟩:=mf;refine#[t,pg,ht Z3 g d ps xv _ _ F rd ax λys ae=>?_];have P:ys.length=n:=by rw[<- ae.length];exact hpl
   have es:yb (NF U ix os) QmK ys=NF U ix QtF:=by
    have:=A4 (ys:=ys) (os:=os) (pre:=[]) (r:=ix.map λi=>(U[i]?).getD none) (by rw[aI,P]);rw[P]at this;exact this
   refine#[ys.map some,by rw[ed];exact P,es,?_];rw[es];have S0:bC X.K CL #[g,Z3] g Z3 Qcl Qx6 [] []:=
    #[#[[],[],XR ae ((ba g).mono w λa f=>by cases f),.nil,l0,λa f=>by cases f],.refl _,.refl _,F,λa o q z=>(by have z':Z3 a=none:=z;rw[show Z3 a=some o from q]at z';cases z'),aa,(S.Xq.mono zw).mono w]
   refine it.MU S0 λH4 Z4 V O S4=>?_;have bc:∀a∈fp,H4 a=g a:=λa f=>by
    obtain⟨o,e⟩:=k.there a f;rw[e];exact O a o e
   have R9:∀a,Z3 a=none->(∃o,g a=some o)->Z4 a=none:=λa e ⟨o,e2⟩=>by
    cases q:Z4 a with
    | none=>rfl
    | some u=>
     have:=S4.new a u q e;rw[show g a=none from this]at e2;cases e2
   cases hp:p d with
   | false=>
    refine HK #[Z4,l,G8,fp,(gs i d l hd gl).1 hp,s.trans O,w.trans V,S4.zh,R9 D I #[_,j],λa o q z=>?_,S4.tp,O D _ j,?_,nd,nD,λa f=>#[R9 a (B a f).1 (k.there a f),(B a f).2],We]
    .cases e:Z3 a with
     | none=>exact s.free (S4.new a o q e)
     | some u=>
      have:=V a u e;rw[q]at this;cases this;exact M a o e z
    .exact k.mono V bc
   | true=>
    refine HL ((ie hp) H4 Z4 Qx6 [] [] _ S4 λt yv H5 Z5 qt z5 k5 S5=>#[G8,k5 D _ (O D _ j),We,?_]);obtain⟨f1,g1,e1,r1,af,ag⟩:=S5.rep;cases r1 with
    | @cons _ _ _ _ fy fn ry rn=>
     cases rn;rw[f6]at af ag;have ar:fy.Nodup:=(hV.1 af).2.1;have XS:∀a∈fy,Z5 a=none/\g a=none:=λa f=>ag a (e4 _ f);have HV:∀a,Z3 a=none->(∃o,g a=some o)->Z5 a=none:=λa e ⟨o,e2⟩=>by
      cases q:Z5 a with
      | none=>rfl
      | some u=>
       have:=S5.new a u q e;rw[show g a=none from this]at e2;cases e2
     have yD:∀a∈fy,a≠D:=λa f e=>by
      subst e;rw[(XS a f).2]at j;cases j
     have bj:H5 D=some QoW:=k5 D _ (O D _ j);have sD:aA H (upd H5 D QwM):=λa o q=>by
      rw[aB (bD q hD)];exact k5 a o (O a o (s a o q))
     refine#[Z5,l++[t],G8++[yv],fp++fy,(gs i d l hd gl).2 hp t qt,sD,w.trans (V.trans z5),λa o q=>?_,HV D I #[_,j],λa o q z=>?_,λa o q im=>?_,aR,?_,?_,?_,λa f=>?_,?_]
     .rw[aB (bD q (HV D I #[_,j]))];exact S5.zh a o q
     .cases e:Z3 a with
      | none=>exact s.free (S5.new a o q e)
      | some u=>
       have:=z5 a u (V a u e);rw[q]at this;cases this;exact M a o e z
     .by_cases f:a=D
      .subst f;rw[aR]at q;cases q;cases im
      .rw[aB f]at q;exact S5.tp a o q im
     .refine aS.app (k.mono (V.trans z5) λa f=>?_) (by
       have:=aS.cons (fp:=fy) (gp:=[]) (ry.mono QF λa f=>aB (yD a f)) (aS.nil (H:=upd H5 D QwM) (Z:=Z5))
       rwa [f6]at this)
      have:a≠D:=λe=>nD (e▸f);rw[aB this];obtain⟨o,e⟩:=k.there a f;rw[e];exact k5 a o (O a o e)
     .refine hV.2 #[nd,ar,λa f a' WL e=>?_];subst e;obtain⟨o,e⟩:=k.there a f;rw[(XS a WL).2]at e;cases e
     .intro h;obtain h|h:=eB.1 h
      .exact nD h
      .exact yD D h rfl
     .obtain h|h:=eB.1 f
      .exact#[HV a (B a h).1 (k.there a h),(B a h).2]
      .exact#[(XS a h).1,s.free (XS a h).2]
     .rw[fg,hJ];lia
  .have e:i=ds.length:=by lia
   subst e;refine .inl #[kI H2 (Y.trans zh),?_];obtain⟨Z',z',S'⟩:=S.back (H':=H2) (W:=W1) (W':=Z2) (t:=.lst l) (v:=.ref D) (fp:=D::fp) hh zw Y zh nw L (.lst E ra) (iu.2 #[nD,nd]) (λa f=>by
    obtain h|h:=eg.1 f
    .subst h;exact#[zD,hD]
    .exact own a h) (c.imp id λc=>by
     rw[iS];exact c l gl)
   exact#[Z',l,gl,z',hh,S']
def yd(S:QhO)(u:aA Z W1)(v:aA W1 H)(tp:∀a o,H a=some o->fV o=true->W1 a=some o)
  (j:∀H',d8 X.K CL H' W1 δc (ix.map λi=>(U[i]?).getD none) []) (inner:QqI)
  (f:∀i H2,aA W1 H2->i<ds.length->J.go i H2)
  (A:∀i Z2 H2 x H',aA W1 Z2->aA Z2 H2->(∀a o,H2 a=some o->fV o=true->Z2 a=some o)->i<ds.length->J.Ks i H2 x H'->∃Z3 d,ds[i]? = some d/\x9 Z2 H2 Z3 H'/\bK X.K CL Z3 d x)
  (z:∀H2,aA W1 H2->J.stop ds.length H2) (hlen:QaP) (c:W1=Z\/∀d∈ds,(g d).clean=true) :
  ∀D,H D=none->∃W:Nat->Nat->Hp->Prop,(∃m,W 0 m Qpq)/\∀i m H2,W i m H2->(J.stop i H2/\∃Z2,aA Z Z2/\aA H H2/\bC X.K CL b H2 Z2 δ U (.lst ((ds.filter p).map g)::ts) Qjl) ∨
   (J.go i H2/\∃N:Hp->Prop,(∀H',N H'->∃s,s<m/\W Qai s H')/\∀k t,J.Ks i H2 k t->∀C s0 E f0 os,os.length=n->K2 (bf X scope Nc C s0 E f0) tg elt ifs n U ix D N k os t):=λD B=>by
 obtain⟨W,y,h⟩:=oA (rfl) R8 S u v tp j inner.q (λ_ _ _ _ _ _ _ _ _ _ _ _=>trivial) f A z hlen (c.imp id λc l e=>e▸rA λd hd=>c d Qwb) D B;refine#[W,y,λi m H2 w=>(h i m H2 w).imp (λ⟨a,Z2,l,e,r⟩=>#[a,Z2,?_]) id];simp at e;exact e▸r
end
variable{δc:Ap}{ds:BC}{p:Qcz}{g:Qcy}{parts:Qg2}{q:QwN}{G:QiL}
def pX{J:It}{it:Addr}{tn:Qix}{H1:Hp}{RR:QqZ}{E:BB}{r:QhK}{gd:Qwc}
  (g0:Qd9) (gs:Qea) (sc:QcA) (V:QaH) (C:R7 X CL b δ1 U ts vs Z H ds J H1) (I:L2.Inv X pins U H1 s) (Y:QrM) (st:tn 0 s.heap) (hf:∀b∈fp,nX X pins H1 b)
  (hb:(δc=oj δ1 ix/\∀l,G ds.length l->T.cG l=true)\/δc=sj δ1 ix) (inner:jG X CL scope Nc xs.length tg parts ifs elt δc ds p q r gd) (hlen:QaP)
  (t:∀D C s' H' Z' l,G ds.length l->(∃m,s'.heap.Ns C m)->(∃o,s'.heap.get? C=some o/\∀v,o.data ≠ .cell v)->H' C=none->(C≠X.env.locals/\C∉X.fs/\X.eI.heap.objs.size<=C/\(∀y c,X.env.cells.lookup y=some c->c≠C)/\∀q∈X.pn++pins,q.1≠C)->(∀h',Heap.SameBut C s'.heap h'->L2.Inv X pins U H' {s' with heap:=h'})->aA Z Z'->aA H H'->bC X.K CL b H' Z' δ1 U Qot Qjl->RR QaQ C Qjk s')
  (n:∀Z1 W1,bC X.K CL b H1 Z1 δ1 U ts vs->aA Z1 W1->∀i d l,ds[i]? = some d->G i l->∀g Z3,aA H1 g->aA W1 Z3->aA Z3 g->(∀a o,Z3 a=some o->W1 a=none->H1 a=none)->(∀a o,g a=some o->fV o=true->Z3 a=some o)->gd d #[g,Z3])
  (hex:∀D s3 g ev s',L2.Inv X pins U g s3->(∀b∈fp,nX X pins g b)->r (bf X scope Nc s3.heap.objs.size s3 g fp) ev s'->notedBy QE X.A Qkq Qqa ev s') :
  wpAny QE X.A (newList []) (λacc j=>wpAny QE X.A QpN (λF h=>
   codeAny QE X.A (.compStart QcC 0 QdF acc {F with scope:=relabel scope X.env}) (RR acc F.locals) h) E j) E s:=by
 obtain⟨Z1,M,k1,f,go,u,k⟩:=C.ex;have R:∀D,H1 D=none->∃W:Nat->Nat->Hp->Prop,(∃m,W 0 m (upd H1 D Qf5))/\∀i m H2,W i m H2->(J.stop i H2/\∃Z2 l,G ds.length l/\aA Z1 Z2/\aA H1 H2/\bC X.K CL b H2 Z2 δ1 U Qot Qjl) ∨
   (J.go i H2/\∃N:Hp->Prop,(∀H',N H'->∃B,B<m/\W Qai B H')/\∀z g,J.Ks i H2 z g->∀C s0 L f0 os,os.length=xs.length->K2 ((bf X scope Nc C s0 L f0).d7 (r (bf X scope Nc C s0 L f0))) tg elt ifs xs.length U ix D N z os g):=by
  obtain⟨e,cl⟩|e:=hb
  .subst e;exact oA g0 gs f f.zh QF Qmv (sq f ix) inner (n Z1 H1 f f.zh) (λi H2 s=>go i H2 Qnq) (λi Z2 H2 y H' s=>u i Z2 H2 y H' Qnq) (λH2 s=>k H2 Qnq) hlen QoX
  .subst e;exact oA g0 gs f QF f.zh f.tp (Em f ix) inner (n Z1 Z1 f QF) go u k hlen Qay
 refine rB r sc V I Y st hf R (λD C s' H' m io P ch ci zz=>?_) hex;obtain⟨Z',l,gl,O,S,S'⟩:=zz;exact t D C s' H' Z' l gl m io P ch ci (M.trans O) (k1.trans S) S'
def ic(sc:QcA)(I:QgZ):closureFor scope X.env=pure Qfq:=
 Ac λy a e=>I.ok.has y.1 (sc.frees y a e).2
def HW(h:∀d∈ds,(g d).clean=true)(l:B2)(e:l=((ds.take ds.length).filter p).map g):T.cG l=true:=e▸rA λd hd=>h d Qwb
def Ez(g0:Qd9)(gs:Qea)(sc:QcA)(g:QaH)(h:Qd8)(hb:(δc=oj δ1 ix/\∀l,G ds.length l->T.cG l=true)\/δc=sj δ1 ix)(inner:Qkl)(hlen:QaP)
  (f:QaT:=by intro _;rfl):zW X CL b QcC δ (λt=>∃l,t=.lst l/\G ds.length l) δ1:=λH Z U ts vs Q S k pins s I=>by
 obtain⟨r,pi,hw⟩:=h;apply oT rfl f Qo9 sc.kind sc.names;refine cR Qhm λv s1 h1=>cR h1 λd s2 zz=>?_;obtain⟨it,fp,tn,J,H1,e,o,i,st,hf,C⟩:=zz;subst e;refine pX g0 gs sc g C o i st hf hb inner hlen (λD w s' H' Z' l gl m io u ch ci a c j=>?_) Qq0 λ_ _ _ _ _ _ _ z=>z.elim;obtain⟨m,hn⟩:=m;exact#[m,hn,λh' n=>#[.ref D,H',ci h' n,rfl,k _ _ H' Z' #[l,rfl,gl] a c j]]
def Sb(sc:QcA)(c:QaH)(h:Qd8)(hb:(δc=oj δ1 ix/\∀d∈ds,(g d).clean=true)\/δc=sj δ1 ix)(inner:Qqh)(hlen:QaP)
  (a:QaT:=by intro _;rfl):bG X CL b QcC δ (.lst ((ds.filter p).map g)) δ1:=λH Z U ts vs Q S k=>Ez (rfl) R8 sc c h Qqz inner.q hlen a H Z U ts vs Q S λt v H' Z' z=>by
 obtain⟨l,rfl,rfl⟩:=z;exact hR▸k v H' Z'
variable{y:Str}
theorem Cu{E:Ends}{D' a:Addr}{s':Qb}{py:Pos}(C:QaX)(hi:X.N[i]? = some y)(u:Qm0)(G:AM X y)(m:∃m,s'.heap.Ns a m)(io:∃l,s'.heap.get? a=some l/\∀v,l.data ≠ .cell v)(t:H' a=none)
  (ch:a≠X.env.locals/\a∉X.fs/\X.eI.heap.objs.size<=a/\(∀y c,X.env.cells.lookup y=some c->c≠a)/\∀q∈X.pn++pins,q.1≠a) (ci:∀h',Heap.SameBut a s'.heap h'->L2.Inv X pins U H' {s' with heap:=h'}) (q:E.nx (U.set i (some QoY)) H') :
  compPost QE X.A X.xe (some (assign Qn6 X.env)) (λ_ s'=>SP X pins E .next s') QoY a Qjk s':=by
 obtain⟨m,hn⟩:=m;obtain⟨o,x,r⟩:=io;have n:L2.Inv X pins U H' s':=ci _ (.refl ..);have J:L2.Inv X (pins++[(a,o)]) U H' s':=n.wm λq g=>by
  obtain z|z:=eB.1 g
  .exact n.pin q (e4 _ z)
  .have e:=by simpa using z
   subst e;exact#[x,t,ch.1,ch.2.1,r]
 have B:PG X Qn6 _:=wB C hi u G;refine cR (B _ s' U H' QoY _ (λd p=>d=U.set i _/\p=H') J rfl #[rfl,rfl]) λ_ s zz=>?_;obtain⟨d,p,j,F,h⟩:=zz;subst F;subst h;obtain⟨D,f,_⟩:=j.pin (a,o) (e4 _ (e4 _ WA));refine#[m,hn.at' We,λh' H=>?_];have I:=j.wm λq g=>j.pin q (e4 _ (e6 _ g));have k:=I.turned (t':=s.toks) (λb o hb e=>(H.2 b hb).trans e) f ch.1.symm.symm (.inr ch.2.2.1) ch.2.2.2.1 ch.2.2.2.2;exact#[_,_,k,q]
def Sd{D:c6}{py ye:Pos}(i:Nat)(g0:Qd9)(gs:Qea)(sc:QcA)(r:QaH)(h:Qd8)(hb:(δc=oj δ1 ix/\∀l,G ds.length l->T.cG l=true)\/δc=sj δ1 ix)(inner:Qkl)(hlen:QaP)
  (k:∀l,G ds.length l->D.nx (δ1.set i Qm6)) (o:Qbl) (t:QaX) (hi:X.N[i]? = some y) (g:Qm0) (u:AM X y)
  (c:Qqi)
  (j:QaT:=by intro _;rfl):QG X CL b Qsx δ D:=λH Z U ts vs E S M pins s I=>by
 obtain⟨B,pi,hw⟩:=h;rw[exec_Assign_Name_used _ _ _ _ c];refine eh (mM (eh ?_));refine eh (hF (oT rfl j Qo9 sc.kind sc.names ?_) (λ_ s' n=>fo (fo n)) λ_ _ e=>e);refine cR Qhm λv s1 h1=>cR h1 λf s2 zz=>?_;obtain⟨it,fp,tn,J,H1,e,A,w,st,hf,C⟩:=zz;subst e;refine pX g0 gs sc r C A w st hf hb inner hlen (λD' K s' H' Z' l gl m io d ch ci a F x=>?_) Qq0 λ_ _ _ _ _ _ _ z=>z.elim;exact Cu t hi g u m io d ch ci (M.nx _ _ _ Z' a (x.set o) (k l gl))
variable{pos' pc:Pos}
def XU{D:c6}(gx:Gx X)(n:Qbm)(g0:Qd9)(gs:Qea)(sc:QcA)(h:Qd8)
  (hb:(δc=oj δ1 ix/\∀l,G ds.length l->T.cG l=true)\/δc=sj δ1 ix) (inner:Qkl) (hlen:QaP) (k:∀l,G ds.length l->cJ X CL b dP (δ1.set i Qm6) D) (d:Qbl)
  (a:QpO) (c:QaT:=by intro _;rfl) :
  cJ X CL b QrN δ D:=by
 obtain a|a:=a
 .exact bR (Sd i g0 gs sc gx.calm h hb inner hlen k d gx.nd n.hi n.loc n.hf a c)
 .exact bR (Cd i (Ez g0 gs sc gx.calm h hb inner hlen c) (λt z=>by obtain⟨l,rfl,gl⟩:=z;exact k l gl) d gx.nd n.hi n.loc a n.hf)
theorem acQ{D:c6}(gx:Gx X)(n:Qbm)(sc:QcA)(h:Qd8)
  (hb:(δc=oj δ1 ix/\∀d∈ds,(g d).clean=true)\/δc=sj δ1 ix) (inner:Qqh) (hlen:QaP) (k:Qr5) (f:Qbl)
  (a:QpO) (c:QaT:=by intro _;rfl) :
  cJ X CL b QrN δ D:=XU gx n (rfl) R8 sc h Qqz inner.q hlen (λl e=>by simp_all) f a c
variable{C:Addr}
def Se(h1:Nc[i]? = some x)(a:QkX)(hd:AD x:=by decide)(iM:AE x:=by decide):Ln Qbn i x:=
 #[RZ h1 a hd iM,.inl Qlq,.inr Qlq]
def Mc(K:Frag)(a:Addr):It:=
 #[λi H=>∃xs x,mE K H a xs/\xs[i]? = some x,λi H x H'=>∃T y,H T=none/\x=.ref T/\(∀xs,mE K H a xs->xs[i]? = some y)/\H'=upd H T (.tup [.int i,y]),λi H=>∃xs,mE K H a xs/\xs.length<=i]
theorem NR{o:HO}(I:QgZ)(fp:nX X pins H a)(new:fJ X.prog X.w Qa8 s.heap a o):L2.Inv X pins U Qa8 s:=by
 have hn:=fp.1;refine I.step (ch:=[a]) (λb hb=>?_) (λb o _ _ _ e _=>e) (λb o _ _ _ e _=>#[ _,e]) (λb o d _ n=>by rw[aB λz=>d (by simp[z])];exact n)
  (λb o _ e=>#[o,e]) (λb xs e=>aB Qpa▸e) (λb o u e=>aB Qpa▸e) (λb ps e=>#[#[],by rw[aB Qpa,e];simp]) (λm hm=>hm) (λb u e=>?_) I.bare
 .have e:=by simpa using hb
  subst e;exact#[fp.2.2.2.1,fp.2.1,fp.2.2.2.2.1,fp.2.2.2.2.2]
 .by_cases z:b=a
  .subst z;rw[aR]at e;grind
  .rw[aB z]at e;exact(I.bW b u e).qV (λ_ _ _ q=>q) (λc q=>aB Qcs▸q) (λc xs q=>aB Qcs▸q) λc z q=>aB Qcs▸q
def NS{t':Nat}{h':Heap}{S:BN}(I:QgZ)(hf:∀b∈S,nX X pins H b)(k:∀b o,b∉S->s.heap.get? b=some o->h'.get? b=some o):L2.Inv X pins U H {s with heap:=h',toks:=t'}:=by
 have n:∀b u,H b=some u->b∉S:=λb u e z=>by rw[(hf b z).1]at e;cases e
 refine I.step (ch:=S) (λb hb=>?_) (λb o _ _ a e _=>k b o a e) (λb o _ _ a e _=>#[_,k b o a e]) Quk (λb o a e=>#[o,k b o a e]) Qu0 QuF (λb ps e=>#[#[],by rw[e];simp]) (λm hm=>?_) (λb u e=>?_) I.bare
 .obtain⟨_,f1,_,f3,f4,f⟩:=hf b hb;exact#[f3,f1,f4,f]
 .obtain⟨o,es,ep,d,r⟩:=hm;exact#[o,es,ep,k _ o (λz=>(hf _ z).2.1 rfl) d,r]
 .exact(I.bW b u e).qV (λc v a q=>k c v (by obtain z|z:=a<;>first|(rw[z];exact n b u e)|exact n c _ z) q) QbI λ_ _ q=>q
variable{elts:CC}{kk:Nat}{pt:Pos}
theorem NT(a e it:Addr)(G:e≠it):Turn P w K Qik (Mc K a) [e,it] e (λi h=>(∃old,PySem.IsEnum h e it i old)/\h.IsListIter it a i) where
 mem:=by simp
 obj:=λi h st b hb=>by
  obtain⟨⟨old,he⟩,hit⟩:=st;obtain z|z:=eg.1 hb
  .subst z;exact#[_,he,λv z=>by
    have J:Data.fields _=Data.cell v:=z;cases J]
  .have z:b=it:=by simpa using z
   subst z;obtain⟨o,e,c,d⟩:=hit;exact#[o,e,λv z=>by rw[d]at z;cases z]
 keep:=λi h h' st k=>by
  obtain⟨⟨old,he⟩,hit⟩:=st;exact#[#[old,k e WA _ he],hit.at λo q=>k it WA o q]
 item:=by
  intro X B hw C F i pins s U H E I hf st r;subst B hw C;obtain⟨xs,x,j,n⟩:=r;obtain⟨its,m,p,M⟩:=I.list j;obtain⟨u,O,L⟩:=m.get n;obtain⟨⟨old,he⟩,hit⟩:=st;have fe:=hf e WA;have fi:=hf it WA;have g:H s.heap.objs.size=none:=I.bW.fresh (eA _);have Y:=I.z6 (eA s.heap.objs.size) g;refine PySem.wpAny_pyNext_enum_item he hit p.isList (x:=u) (by simpa using O) G λh' R D V hsz T=>#[_,rfl,?_];refine PySem.wpAny_letOwnedTupleGo_enum R λl t f=>?_;replace f:Heap.SameBut e h' l:=f;have eT:e<s.heap.objs.size:=fv he;have keep:∀b o,b≠e->b≠it->s.heap.get? b=some o->l.get? b=some o:=λb o h1 W q=>(f.2 b h1).trans (T b o h1 W q);have A:l.get? s.heap.objs.size=some {cls:=.type "tuple",data:=.seq (List.toArray [.int i s.toks,u])}:=(f.2 _ (Nat.ne_of_gt eT)).trans V;have I1:L2.Inv X pins U H {s with heap:=l,toks:=s.toks+1}:=NS (S:=[e,it]) I hf λb o hb=>keep b o (λz=>hb (by simp[z])) λz=>hb (by simp[z]);have I':=NR (a:=s.heap.objs.size) (o:=.tup [.int i,x]) I1 Y #[gz (bz Qbj),[.int i s.toks,u],.cons #[s.toks,rfl] (.cons L .nil),#[_,A,rfl,_,rfl]];have ei:((i+1:Nat):Int)=(i:Int)+1:=by lia
  refine#[.ref s.heap.objs.size,_,I',rfl,#[_,x,g,rfl,λys N=>by rw[I.Ea N j];exact n,rfl],#[#[u,by rw[ei];exact t],D.at λo q=>(f.2 it (i8 G)).trans q],λb hb=>?_];have y:=hf b hb;obtain⟨o,DW,_⟩:∃o,s.heap.get? b=some o/\True:=by
   obtain z|z:=eg.1 hb
   .subst z;exact#[_,he,trivial]
   .have z:b=it:=by simpa using z
    subst z;obtain⟨o,q,_⟩:=hit;exact#[o,q,trivial]
  rw[aB (hB (fv DW))];exact y.1
 done:=by
  intro X B hw C F i pins s U H E I hf st r;subst B hw C;obtain⟨xs,j,n⟩:=r;obtain⟨its,m,p,M⟩:=I.list j;obtain⟨⟨old,he⟩,hit⟩:=st;obtain⟨f0,f1,f2,f3,f4,Z⟩:=hf it WA;have hl:=m.length;exact PySem.wpAny_pyNext_enum_end (I.ok.hd F) he hit p.isList WI λh' eb=>#[rfl,I.turned (t':=s.toks) (λb o hb e=>eb b o hb e) f0 f1 f3 f4 Z]
 self:=λ_ _ _ _ _ st h=>by
  obtain⟨⟨old,he⟩,_⟩:=st;exact PySem.wpAny_pyIter_enum he h
def SF(K:Frag)(ta:TA):TI:=λU H R=>ta U H λvs H1=>∃a xs,vs=[.ref a]/\mE K H1 a xs/\R (Mc K a) H1
theorem XW{a:Expr}{ta:TA}{p:Pos}(m:Qm7)(hm:Qme)(n:PA X [a] ta)(i:AC X a []):PI X Qik (.Call (.Name "enumerate" p) [a] [] pos) (SF X.K ta):=by
 intro pins s U H R I h;refine Call_ (qW I m hm boot_enumerate (r8 (cR (n pos pins s U H _ I h) λus s1 zz=>?_) i rfl));obtain⟨vs,H1,c,f,g⟩:=zz;obtain⟨l,xs,e,j,q⟩:=g;subst e;cases f with
 | cons r d=>
  cases d;cases r;obtain⟨its,t,p,u⟩:=c.list j;refine PySem.call_enumerate_list p.isList λh' he hit hsz k=>?_;have o:=c.kept (t':=s1.toks) k;refine PySem.wpAny_pyIter_enum he ?_;refine#[ _,_,_,_,H1,rfl,o,NT l _ _ (Nat.succ_ne_self _),#[#[_,he],hit],λb hb=>?_,q];obtain z|z:=eg.1 hb
  .subst z;exact c.z6 (kv _) (c.bW.fresh (kv _))
  .have z:=by simpa using z
   subst z;exact c.z6 (eA _) Ql8
noncomputable def yf(ds:BC):BC:=(List.range ds.length).map λ(i:Nat)=>.tup [.int i,ds.getD i .non]
def A5(ds:BC):(yf ds).length=ds.length:=by simp[yf]
def NV{ds:BC}{d:D}(h:ds[i]? = some d):(yf ds)[i]? = some (.tup [.int i,d]):=by
 have hi:=(hH.1 h).1;unfold yf;rw[fR,h5 hi];show some (D.tup _)=_;rw[eD,h];rfl
variable{pr:Pos}{ds:BC}
theorem XY(hm:Qme)(h:bG X CL b e δ (.sh QbZ) δ1)(t:Qm7)(j:Qaz:=by exact aY rfl):QI X CL b Qik QqU δ (yf ds) δ1:=by
 refine#[_,XW t hm Qn7 j,λH Z U ts vs R S k=>h H Z U ts vs _ S λv H1 Z1 m k1 f=>?_];obtain⟨fp,gp,_,r,_,_⟩:=f.rep;cases r with
 | cons r _=>
  replace r:=r.El;obtain⟨rfl,r⟩:=r;obtain⟨a,us,rfl,c,g⟩:=r.i9;have q:=g.length;refine#[a,us,rfl,f.zh.seq c,k _ _ #[Z1,m,k1,f.pop,λi H2 s hi=>?_,λi Z2 H2 x H' s1 s2 tp hi o=>?_,λH2 s=>?_]]
  .rw[A5]at hi;have w:i<us.length:=q▸hi;exact#[us,_,s.seq c,ft w]
  .obtain⟨T,y,u,rfl,p,rfl⟩:=o;obtain⟨d,hd,n⟩:=g.RH (p us ((s1.trans s2).seq c));have l:=x9.tup (xs:=[.int i,y]) s2 tp u;exact#[_,_,NV hd,l,.tup (lK.of aR) (.cons Qbx (.cons ((n.mono s1).mono l.z) .nil))]
  .rw[A5];exact#[us,s.seq c,by simp_all ]
theorem ua{β:Type}{f:Qg0}{l:QR}{d:β}(h:(l.map f)[j]? = some d):∃x,d=f x/\l[j]? = some x/\x∈l/\j<l.length/\l.drop j=x::l.drop QaF/\l.take QaF=l.take j++[x]:=by
 rw[fR]at h;cases a:l[j]? with
 | none=>rw[a]at h;cases h
 | some x=>
  rw[a]at h;cases h;have b:=(hH.1 a).1;have e:=(hH.1 a).2;exact#[x,rfl,rfl,ff a,b,by rw[x7 b,e],by rw[iq,a];rfl]
def D.q3:L3.D->L3.D
 | .tup (a::_)=>a
 | d=>d
def D.at2:L3.D->L3.D
 | .tup (_::a::_)=>a
 | d=>d
noncomputable def D.cnt:L3.D->Nat
 | .lst ds=>ds.length
 | .tup ds=>ds.length
 | _=>0
def NW(f:α->L3.D)(z:α)(l:QR):yf Qcr=(List.range l.length).map λ(i:Nat)=>L3.D.tup [.int i,f Qn8]:=by
 unfold yf;rw[ed];apply hZ;intro i hi;have hi:=gh.1 hi;have:(l.map f).getD i .non=f Qn8:=by
  rw[eD,eD,fR,ft hi];rfl
 rw[this]
def oB{f:α->L3.D}{l:QR}(z:α)(hm:Qme)(h:bG X CL b e δ (.sh (.lst Qcr)) δ1)(c:Qm7)(a:Qaz:=by exact aY rfl) :
  QI X CL b Qik QqU δ ((List.range l.length).map λ(i:Nat)=>L3.D.tup [.int i,f Qn8]) δ1:=by
 have:=XY (elts:=elts) (kk:=kk) (pt:=pt) (pr:=pr) (pc:=pc) hm h c a
 rwa [NW f z l]at this
theorem vn:∀(l r:BA),PyData.eqvAll (D.om (l.map L3.D.int)) (D.om (r.map L3.D.int))=decide (l=r)
 | [],[]=>rfl
 | [],_::_=>rfl
 | _::_,[]=>rfl
 | x::l,y::r=>by
  rw[eM,eM,D.om,D.om,PyData.eqvAll,vn l r,D.toPy,D.toPy,PyData.eqv];by_cases e:x=y
  .subst e;simp
  simp_all
def EA(l r:BA):Nz (.lst Qf4) (.lst (r.map .int))=decide (l=r):=by
 unfold Nz;rw[D.toPy,D.toPy,PyData.eqv,vn]
def acR{i:Int}(hm:X.mg "abs" = none)(d:Gl X "abs")(h:Qtb)(a:Qaz:=by exact aY rfl) :
  bG X CL b (.Call (.Name "abs" pp) [e] [] pos) δ (.sh QqT) δ1:=λH Z U ts vs Q S k=>
 bM (iD Ri d hm Wl Qdz (he:=a)) (h H Z U ts vs _ S λv H1 Z1 c k1 f r=>#[i,by rw[r.sc rfl],k _ H1 Z1 c k1 QwG])
def yg{k:Str}(hm:∃u,X.mg x=some (.str k u))(a:Qad)(hd:AD x:=by decide):bG X CL b Qat δ (.sh (.str k)) δ:=λH Z U ts vs Q S kk=>by
 obtain⟨u,hm⟩:=hm;exact bM (wA (v:=.str k) a hm #[u,rfl] hd) (kk _ H Z QF QF (S.push (.str k)))
theorem aL.A6{K:Frag}{Z:Hp}:∀l:AT,aL K CL Z Qci QcO
 | []=>.nil
 | x::l=>.cons QaL (aL.A6 l)
def GT(X:Cx)(x:Str)(l:AT):Prop:=∃a,X.mg x=some Qah/\∀H:Hp,lK X.K H a QcO
def cS(hm:GT X x l)(d:Qad)(hd:AD x:=by decide):bG X CL b Qat δ (.sh QnI) δ:=λH Z U ts vs Q S kk=>by
 obtain⟨a,hm,c⟩:=hm;exact bM (wA (v:=.ref a) d hm rfl hd) (kk _ H Z QF QF (S.push (.tup (c Z) (aL.A6 l))))
noncomputable def kK(x y:Str):Bool:=!(Builtin.Str.occurrences y x 0 y.length 1).isEmpty
def EB{i j:Str}(h1:QhH)(a:QhG)(hm:QhW):kX X CL b Qdf δ (kK i j) δ2/\bG X CL b Qdf δ (.sh (.bl (kK i j))) δ2:=
 nJ MT h1 a rfl rfl Qej hm
def oE{i j:Str}(h1:QhH)(a:QhG)(hm:QhI):kX X CL b Qdd δ (!kK i j) δ2/\bG X CL b Qdd δ (.sh (.bl (!kK i j))) δ2:=
 nJ BL h1 a rfl rfl Qej hm
noncomputable def z1(x:Str):It:=#[λi _=>i<x.cps.size,λi H v H'=>H'=H/\∃c,x.cps[i]? = some c/\v=.str #[(List.toArray [c])],λi _=>x.cps.size<=i]
def NX(x:Str)(t:Tok)(it:Addr):Turn P w K tg (z1 x) [it] it (λi h=>h.IsStrIter it "str_ascii_iterator" x t i) where
 mem:=by simp
 obj:=λi h st b hb=>by
  have e:b=it:=by simpa using hb
  subst e;obtain⟨o,e,c,d⟩:=st;exact#[o,e,λv z=>by rw[d]at z;cases z]
 keep:=λi h h' st k=>by
  obtain⟨o,e,r⟩:=st;exact#[o,k it WA o e,r]
 item:=by
  intro X f hw g l i pins s U H E I hf st a;subst f hw g;have a:i<x.cps.size:=a;obtain⟨f0,f1,f2,f3,f4,j⟩:=hf it WA;refine wpAny_pyNext_ascii_item st (c:=x.cps[i]) (by simp[a]) λh' m n=>?_;have q:Inv X pins U H {s with heap:=h',toks:=s.toks+1}:=I.turned Qrz f0 f1 f3 f4 j;obtain⟨o,e,c,d⟩:=id m;exact#[_,rfl,AK (s:={s with heap:=h',toks:=s.toks+1}) e c d Wp #[.str #[(List.toArray [x.cps[i]])],H,q,#[_,rfl],#[rfl,_,by simp[a],rfl],m,λb hb=>(hf b hb).1]]
 done:=by
  intro X f hw g l i pins s U H E I hf st a;subst f hw g;have a:x.cps.size<=i:=a;obtain⟨f0,f1,f2,f3,f4,j⟩:=hf it WA;exact wpAny_pyNext_ascii_end Qof st (by simp[a]) λh' p=>#[rfl,I.turned (t':=s.toks) Qlb f0 f1 f3 f4 j]
 self:=λ_ _ _ _ _ st h=>wpAny_pyIter_striter_ascii st h
def NZ(x:Str)(t:Tok)(it:Addr):Turn P w K tg (z1 x) [it] it (λi h=>h.IsStrIter it "str_iterator" x t i) where
 mem:=by simp
 obj:=λi h st b hb=>by
  have e:b=it:=by simpa using hb
  subst e;obtain⟨o,e,c,d⟩:=st;exact#[o,e,λv z=>by rw[d]at z;cases z]
 keep:=λi h h' st k=>by
  obtain⟨o,e,r⟩:=st;exact#[o,k it WA o e,r]
 item:=by
  intro X f hw g l i pins s U H E I hf st a;subst f hw g;have a:i<x.cps.size:=a;obtain⟨f0,f1,f2,f3,f4,j⟩:=hf it WA;refine wpAny_pyNext_wide_item st (c:=x.cps[i]) (by simp[a]) λh' m n=>?_;have q:Inv X pins U H {s with heap:=h',toks:=s.toks+1}:=I.turned Qrz f0 f1 f3 f4 j;obtain⟨o,e,c,d⟩:=id m;exact#[_,rfl,AK (s:={s with heap:=h',toks:=s.toks+1}) e c d Wp #[.str #[(List.toArray [x.cps[i]])],H,q,#[_,rfl],#[rfl,_,by simp[a],rfl],m,λb hb=>(hf b hb).1]]
 done:=by
  intro X f hw g l i pins s U H E I hf st a;subst f hw g;have a:x.cps.size<=i:=a;obtain⟨f0,f1,f2,f3,f4,j⟩:=hf it WA;exact wpAny_pyNext_wide_end Qof st (by simp[a]) λh' p=>#[rfl,I.turned (t':=s.toks) Qlb f0 f1 f3 f4 j]
 self:=λ_ _ _ _ _ st h=>wpAny_pyIter_striter_wide st h
def Oe(tl:TE):TI:=λU H R=>tl U H λv H1=>∃x,v=.str x/\R (z1 x) H1
theorem acS{l:Expr}{tl:TE}(g:PE X l tl):PI X tg l (Oe tl):=by
 intro pins s U H R I h;refine cR Qdl λv s1 zz=>?_;obtain⟨y,H1,a,d,f⟩:=zz;obtain⟨x,e,q⟩:=f;subst e;obtain⟨t,rfl⟩:=d;cases c:x.cps.all (· < 128) with
 | true=>
  refine wpAny_pyIter_ascii c ?_;refine#[s1.heap.objs.size,[s1.heap.objs.size],_,_,H1,rfl,a.kept (t':=s1.toks) λb o e=>f7 _ e,NX x t _,#[_,hX _ rfl,rfl,rfl],λb hb=>?_,q];have e:b=s1.heap.objs.size:=by simpa using hb
  subst e;exact a.z6 (eA _) Ql9
 | false=>
  refine wpAny_pyIter_wide c ?_;refine#[s1.heap.objs.size,[s1.heap.objs.size],_,_,H1,rfl,a.kept (t':=s1.toks) λb o e=>f7 _ e,NZ x t _,#[_,hX _ rfl,rfl,rfl],λb hb=>?_,q];have e:b=s1.heap.objs.size:=by simpa using hb
  subst e;exact a.z6 (eA _) Ql9
noncomputable def gQ(x:Str):BC:=x.cps.toList.map λc=>.str #[(List.toArray [c])]
theorem EC(l:CO):aL K CL Z (l.map λc=>L3.D.str #[(List.toArray [c])]) (l.map λc=>V.str #[(List.toArray [c])]):=by
 induction l with
 | nil=>exact .nil
 | cons c l a=>exact .cons QcY a
theorem Sg(h:bG X CL b iter δ (.sh QaL) δ1):QH X CL b tg iter δ (gQ x) δ1:=by
 refine#[_,acS bZ,λH Z U ts vs R S k=>h H Z U ts vs _ S λv H1 Z1 e k1 d=>?_];obtain⟨fp,gp,_,r,_,_⟩:=d.rep;cases r with
 | cons r _=>
  replace r:=r.El;obtain⟨rfl,r⟩:=r;cases r with
  | str=>
   refine#[x,rfl,k _ _ #[Z1,_,e,k1,d.pop,EC _,λi H2 s hi=>?_,λi H2 y H' s hi a=>#[a.1,?_],λH2 s=>?_]]
   .show i<x.cps.size;simpa [gQ] using hi
   .obtain⟨c,f,rfl⟩:=a.2;simp[f]
   .show x.cps.size<=(gQ x).length;simp[gQ]
def N0:V->Bz->Bz->Hp->VK->Prop:=λx lo hi H Q=>∃z,x=.str z/\z.length<=sizeLine/\Q (.str Qu8) H
theorem acT:wt X N0:=by
 intro pins s U H x v p n lo hi sl Q I f m g pu h;obtain⟨z,rfl,a,q⟩:=h;obtain⟨t,rfl⟩:=f;obtain⟨o,b,c,hd⟩:=m;have fin:∀t' k,EP X pins U Q (.str Qu8 t') {s with toks:=k}:=λt' k=>#[.str _,H,I.tok k,#[t',rfl],q];refine#["str",_,F.slot_str_getitem.lookup,lx _ _ _,?_];cases g with
 | none=>
  cases pu with
  | none=>exact vb (l:=none) (u:=none) (st:=none) #[o,b,c,hd] rfl Qhn
  | int j d=>exact vb (l:=none) (u:=some (j,d)) (st:=none) #[o,b,c,hd] rfl Qhn
 | int i e=>
  cases pu with
  | none=>exact vb (l:=some (i,e)) (u:=none) (st:=none) #[o,b,c,hd] rfl Qhn
  | int j d=>exact vb (l:=some (i,e)) (u:=some (j,d)) (st:=none) #[o,b,c,hd] rfl Qhn
def N1{lo hi:Qd2}{l h:Bz}{z:Str}(h1:Qtc)(m:Qg3)(o:QlQ)(n:QlR):bG X CL b Qhq δ (.sh (.str (Txt.slice z l h))) δ3:=λH Z U ts vs Q S k=>by
 obtain⟨t2,c,j⟩:=o;obtain⟨t3,a,i⟩:=n;refine bM (xR acT bZ c a) (h1 H Z U ts vs _ S λv H1 Z1 g k1 s r=>j H1 Z1 U ts vs _ s λH2 Z2 f k2 q=>i H2 Z2 U ts vs _ q λt Z3 d k3 p=>?_);exact#[z,r.sc rfl,m,k _ t Z3 (g.trans Qf7) (k1.trans (k2.trans k3)) (p.push QcY)]
end L3
namespace L3
open PySem PySem.Spec PyProof.Rows L2 PySem.Builtin PySem.Builtin.Str
variable{X:Cx}{CL:BM}{b:Bx}{e o:Expr}{δ δ1 δ2:Ap}{pos apos:Pos}
theorem Vals.strsFrom:∀(k:Nat) (l:AT),Vals QcO (strsFrom k l)
 | _,[]=>.nil
 | k,x::l=>.cons #[_,rfl] (Vals.strsFrom Qaf l)
noncomputable def pY(x y:Str):Bool:=!(y.length==0) && !(decide (x.length<y.length) || decide (strKind x<strKind y)) && !(occurrences x y 0 x.length Qjf).isEmpty
noncomputable def splitM(x y:Str):AT:=partsBetween x (occurrences x y 0 x.length Qjf) y.length
def acU:V->BY->Hp->VK->Prop:=λx vs H Q=>∃z y,x=.str z/\vs=[.str y]/\pY z y=true/\z.length<=sizeLine/\(splitM z y).length<=sizeLine/\∀p,H p=none->Q Qbi (upd H p (.lst ((splitM z y).map V.str)))
def Sh:l8 X "str.split" acU:=by
 intro pins s U H x vs v us Q I b c h;obtain⟨z,y,rfl,rfl,bW,e,a,q⟩:=h;obtain⟨t,rfl⟩:=b;obtain⟨u,rfl,d⟩:=c.one;obtain⟨t',rfl⟩:=d;unfold pY at bW;simp only[gm,kx]at bW;obtain⟨⟨h1,g⟩,f⟩:=bW;refine m3 F.slot_str_split Qge u5 QjI (meets_str_split_sep z y t t' g h1 f e a) ?_;exact#[.ref _,_,I.Rx (its:=strsFrom s.toks (splitM z y)) Qu9 (by rw[ed];exact a),rfl,q _ I.fresh]
def ED{z y:Str}{l:AT}(h1:Qfd)(s:Qfe)(bW:pY z y=true)(n:Qg3)(r:splitM z y=l)(q:Qxr)
  (t:QqJ:=by rfl)
  (m:Qff:=by rfl)
  (a:Qde:=by rfl) (f:Qaz:=by exact aY rfl) :
  bG X CL b QqA δ (.lst ((l.map L3.D.str).map T.sh)) δ2:=λH Z U ts vs Q S k=>
 bM (r9 pd PySem.F.slot_str_split PySem.F.type_str_split Sh bZ Qn4 t m a f rfl)
  (h1 H Z U ts vs _ S λv1 H1 Z1 h k1 w j=>by
   have e1:=j.sc rfl;subst e1;refine#[rfl,s H1 Z1 U ts vs _ w λv2 H2 Z2 g k2 v i=>?_];have e2:=i.sc rfl;subst e2;subst r;refine#[z,y,rfl,rfl,bW,n,q,λp d=>?_];have rc:aL X.K CL Z2 ((splitM z y).map L3.D.str) ((splitM z y).map V.str):=aL.A6 _;obtain⟨c,u⟩:=(bC.nK rc v).qZ (g0:=[]) WA d;exact k _ _ _ QeT Qen u)
end L3
namespace L3
open PySem PySem.Spec PyProof.Rows L2
variable{X:Cx}{CL:BM}{b:Bx}{δ:Ap}{pos pp:Pos}{x:Str}{k n:Nat}{A:Type}
def c0{arg:Qak}{Pre:Qae}{res:QaA}(a:A)(F:QhV)(i:Qad)(l:arg a=[])(h:Pre a)(j:QmS)(hn:Qb4:=by rfl)
  (g:AD x:=by decide):bG X CL b (.Call Qdb [] [] pos) δ (res a) δ:=by
 obtain⟨f,fd,ps,p,m,kk,bb⟩:=F.ex;intro H Z U ts vs Q S k;refine bM (Rm p F.room i m kk bb .nil A0 g) ?_;refine#[H,a,.refl _,λ_ _ q _=>q,by rw[l];exact .nil,hn,h,S.Nq,λv H' W' fp c ww e nw tp rt nd own=>?_];obtain⟨Z',d,o⟩:=S.back c S.zh ww e nw tp rt nd own (.inr j);exact k v H' Z' d c o
noncomputable def N2:Key->D
 | .inl i=>.int i
 | .inr x=>.str x
noncomputable def kF(aU:CI)(k:Key):Option D:=(aU.find? λa=>decide Qgj).map (·.2)
def vo(aU:CI)(k:Key)(d:D):CI:=
 if Qfs=true then aU.map QpK else aU++[(k,d)]
variable{K:Frag}{H Z:Hp}{U:L2.St}{ts:B2}{vs:BY}{v:V}{gs:Cn}{d:D}{aU:CI}
theorem b6.length{aU:CI}(h:Qnx):aU.length=gs.length:=
 b6.ind (P:=λaU gs=>aU.length=gs.length) rfl QhM h
theorem b6.val{k:Key}{aU:CI}:b6 K CL Z aU gs->(kF aU k=none/\i7 gs k=none)\/∃d v,kF aU k=some d/\i7 gs k=some v/\bK K CL Z d v:=
 b6.ind (P:=λaU gs=>(kF aU k=none/\i7 gs k=none)\/∃d v,kF aU k=some d/\i7 gs k=some v/\bK K CL Z d v) (.inl #[rfl,rfl]) λ{x d v _ _} h r i=>by
  by_cases e:x=k
  .exact .inr #[d,v,by simp[kF,e],n5 e,h]
  .obtain⟨h1,a⟩|⟨c,v',h1,a,b⟩:=i
   .exact .inl #[by simpa [kF,e] using h1,by rw[lM e];exact a]
   .exact .inr #[c,v',by simpa [kF,e] using h1,by rw[lM e];exact a,b]
theorem b6.any{k:Key}{aU:CI}:b6 K CL Z aU gs->Qfs=QrO:=
 b6.ind (P:=λaU gs=>(aU.any λa=>decide Qgj)=QrO) rfl λ_ _ i=>by rw[jq,jq,i]
theorem b6.i5{k:Key}(q:Qd4){aU:CI}:b6 K CL Z aU gs->b6 K CL Z QwO QwP:=
 b6.ind (P:=λaU gs=>b6 K CL Z QwO QwP) .nil λ{x _ _ _ _} h r i=>by
  rw[eM,eM];by_cases e:x=k
  .rw[ee e,ee e];exact .cons q i
  .rw[cq e,cq e];exact .cons h i
theorem b6.snoc{k:Key}(q:Qd4){aU:CI}:b6 K CL Z aU gs->b6 K CL Z (aU++[(k,d)]) (gs++[(k,v)]):=
 b6.ind (P:=λaU gs=>b6 K CL Z (aU++[(k,d)]) (gs++[(k,v)])) (.cons q .nil) λh _ i=>.cons h i
theorem b6.put{k:Key}(q:Qd4)(r:Qnx):b6 K CL Z (vo aU k d) (putK gs k v):=by
 unfold vo putK;rw[r.any];split
 .exact r.i5 q
 .exact r.snoc q
theorem bK.key{k:Key}(r:bK K CL Z (N2 k) v):v=kV k:=by
 cases k with
 | inl i=>exact r.sc rfl
 | inr x=>exact r.sc rfl
theorem bC.acV{p:Addr}(S:QaB)(d:QgO):aA H Qir/\bC K CL b Qir Z δ U (.iY []::ts) Qor:=by
 obtain⟨fp,gp,e,r,nd,k⟩:=S.rep;have f:=S.zh.free d;have sh:aA H Qir:=aA.upd d;have keep:∀a∈fp++gp,a≠p:=λa c=>by
  have:∃o,H a=some o:=by
   obtain h|h:=eB.1 c
   .exact e.there a h
   .exact r.there a h
  obtain⟨o,q⟩:=this;exact bD q d
 refine#[sh,#[#[fp,_,e.mono QF QkM,.cons (.iY aR .nil) (r.mono QF λa c=>aB (keep a (by simp[c]))),?_,λa c=>?_],S.bh.trans sh,S.zz,S.zh.trans sh,S.new,λa o q i=>?_,S.tab]]
 .refine(List.perm_middle).nodup_iff.2 (iu.2 #[λh=>keep p h rfl,nd])
 .obtain h|h:=eg.1 ((List.perm_middle).mem_iff.1 c)
  .subst h;exact#[f,S.bh.free d]
  .exact k a h
 .by_cases c:a=p
  .subst c;rw[aR]at q;cases q;cases i
  .rw[aB c]at q;exact S.tp a o q i
variable{i:Nat}
theorem bC.Si(k:Key)(S:QrB)(hi:δ[i]? = some Qpr) :
  ∃a gs,U[i]? = some (some Qah)/\H a=some Qgn/\gs.length=aU.length/\bC K CL b Qk1 Z (δ.set i QtG) U ts vs:=by
 obtain⟨fp,gp,e,r,nd,kk⟩:=S.rep;obtain⟨v0,f1,f2,f3,hv,n,rt,put,_⟩:=e.get hi;subst n;cases rt with
 | @iY a gs _ p rs=>
  cases r with
  | @cons _ _ _ _ q j g m=>
   replace g:=g.El;obtain⟨rfl,g⟩:=g;have ne:∀c∈QdR++j,c≠a:=λc f e=>by
    subst e;have o:((f1++([c]++f3))++([]++j)).Perm (c::(QdR++j)):=by simp
    exact(iu.1 (o.nodup_iff.1 nd)).1 f
   refine#[a,gs,hv,p,rs.length.symm,?_];have l:bL K CL Qk1 Z _ _ [a]:=.iY aR (rs.put g);have e2:=put QF (λc f=>aB (ne c (by
    obtain h|h:=eB.1 f
    .simp[h]
    .simp[h]))) l
   rw[dS hv]at e2;exact S.R4 rfl kk WA e2 (m.mono QF λc f=>aB (ne c (by simp[f]))) nd λc f=>f
section
abbrev _root_.ES:=List (Key×L3.D)
variable{δ1 δ2:Ap}{e e1 e2:Expr}{d:L3.D}{D:c6}{ps:Pos}{dP:CS}{aU:ES}{k:Key}
def K3:bG X CL b Qv4 δ (.iY []) δ:=λH Z U ts vs Q S kk=>bM RG λp a=>by
 obtain⟨c,d⟩:=S.acV a;exact kk _ _ Z QF c d
theorem acW(k:Key)(u:Qd7)(n:Qa3)(h:QhN)(r:bT X CL b e2 δ1 (N2 k) δ1)(h1:δ1[i]? = some Qpr)(o:Qxs)(kk:cJ X CL b dP (δ1.set i QtG) D)
  (m:swapsWith e (some (.Subscript Qdb e2 ps)) pos.line X.env=pure false:=by rfl) :
  cJ X CL b (.Assign [.Subscript Qdb e2 ps] e pos::dP) δ D:=bR λH Z U ts vs E S M=>
 n8 (Xo We QhX bZ bZ m) (h H Z U ts vs _ S λv H1 Z1 j k1 f=>by
  obtain⟨v0,e0,_⟩:=f.look h1;refine#[v0,e0,r H1 Z1 U _ _ _ f λv2 H2 Z2 g k2 t l=>?_];obtain⟨a,gs,c,q,p,s⟩:=t.Si k h1;rw[e0]at c;cases c;exact#[a,_,rfl,l.key▸RB.k q (by rw[p];exact ru o Wp),λ_=>M.nx _ U _ Z2 (j.trans g) s kk])
theorem XZ(k:Key)(r:Qd7)(h1:bT X CL b e1 δ (.iY aU) δ1)(o:bT X CL b e2 δ1 (N2 k) δ2)(e:kF aU k=some d)(m:HM e2:=by exactλ_ _=>rfl):bT X CL b Qeq δ d δ2:=λH Z U ts vs Q S kk=>
 bM (Xn We bZ bZ m) (h1 H Z U ts vs _ S λv H1 Z1 g k1 q l=>o H1 Z1 U ts vs _ q λv2 H2 Z2 f k2 p j=>by
  cases l with
  | @iY a gs _ n h=>
   have c:=h.mono k2;rcases c.val (k:=k) with⟨h0,_⟩|⟨s,v',h0,hv,i⟩
   .rw[e]at h0;cases h0
   .rw[e]at h0;cases h0;refine#[a,v',rfl,?_,kk v' H2 Z2 Qf8 Qag p i];rw[j.key,<- hv];exact vO.k (k2 _ _ n))
def yh(a:Qnx):(i7 gs k).isSome=(kF aU k).isSome:=by
 rcases a.val (k:=k) with⟨h0,h1⟩|⟨b,v',h0,h1,_⟩
 .rw[h0,h1];rfl
 .rw[h0,h1];rfl
theorem X3(k:Key)(m:Qd7)(h1:QtH)(i:QxT)(hm:QhI) :
  kX X CL b Qdd δ (!(kF aU k).isSome) δ2:=λH Z U ts vs Q S kk=>
 se (BJ (Nj We bZ bZ) hm) (h1 H Z U ts vs _ S λv H1 Z1 d k1 l g=>i H1 Z1 U ts vs _ l λv2 H2 Z2 c k2 j f=>by
  cases f with
  | @iY a gs _ h e=>
   refine#[a,i7 gs k,rfl,by rw[g.key];exact vO.k h,_,rfl,?_];rw[yh e];exact kk H2 Z2 QeU Qag j)
end
variable{t:T}{w:V}{f c:Str}{QJ:B1}
theorem cZ.X4{b:BN}(rt:bL K CL H Z t v b):∀{HX:B1} {gs:CA} {fp:BN},cZ K CL H Z QlS gs fp->∃a,cZ K CL H Z QnS gs a/\a.Perm (fp++b)
 | [],_,_,r=>by
  cases r with
  | @cons _ _ v' _ _ f1 gp h r=>
   replace h:=h.El;obtain⟨rfl,h⟩:=h;cases h;exact#[ _,.cons rt r,iw]
 | (y,u)::HX,_,_,r=>by
  cases r with
  | @cons _ _ v' _ _ f1 gp h r=>
   obtain⟨a,c,p⟩:=cZ.X4 rt r;refine#[ _,.cons h c,?_];rw[eJ];exact p.append_left f1
theorem bC.X4{HX:B1}(S:bC K CL b H Z δ U (.ins c QlS::t::ts) (w::v::vs)):bC K CL b H Z δ U (.ins c QnS::ts) (w::vs):=by
 obtain⟨fp,gp,e,r,nd,k⟩:=S.rep;cases r with
 | @cons _ _ _ _ g1 g2 m l=>
  cases l with
  | @cons _ _ _ _ g3 g4 j i=>
   obtain⟨a,dx,gs,g,rfl,rfl,o,h⟩:=m.RJ;obtain⟨q,d,p⟩:=cZ.X4 j h;have pm:(fp++((a::q)++g4)).Perm (fp++((a::g)++(g3++g4))):=by
    refine kT fp ?_;rw[<- eJ];refine vJ g4 ?_;simp_all
   exact#[#[fp,_,e,.cons (.ins o d) i,pm.nodup_iff.2 nd,λc n=>k c (pm.mem_iff.1 n)],S.bh,S.zz,S.zh,S.new,S.tp,S.tab]
def w1(X:Cx)(CL:BM)(b:Bx)(es:CC)(δ:Ap)(dv:V->BC)(t:T)(δ':Ap):Prop:=
 ∀(H Z:Hp) (U:L2.St) (ts:B2) (vs:BY) (Q:EQ),bC X.K CL b H Z δ U ts vs →
  (∀us H' Z' v,aA Z Z'->aA H H'->bC X.K CL b H' Z' δ' U Qb2 QaW->aL X.K CL H' (dv v) us->Q us H')->Aa X es U H Q
theorem T.yi{f:Str}{v:V}{QJ:B1}(a:T.cy QJ=true):∀{HX:B1},T.cy HX=true->T.cy QlS=true
 | [],_=>‹_›
 | (x,t)::HX,h=>by
  rw[T.cy,gm]at h;rw[hS,T.cy,h.1,T.yi a h.2];rfl
variable{δ1 δ2:Ap}{e:Expr}{es:CC}{ds:BC}{d:D}{dv:V->BC}
def Sj(h:QaC)(r:Qut)(f:Qn3:=by rfl):w1 X CL b Qau δ (λv=>.val v::ds) t δ2:=λH Z U ts vs Q S k=>
 Ab (bI bZ B5 (aY f)) (h H Z U ts vs _ S λv H1 Z1 c k1 i=>r H1 Z1 U _ _ _ i λus H2 Z2 a k2 g d=>k _ H2 Z2 v Qco Qag g (.cons QcU d))
def EE(h:Qd5)(r:w1 X CL b es δ1 dv t δ2)(i:Qn3:=by rfl):w1 X CL b Qau δ (λv=>d::dv v) t δ2:=λH Z U ts vs Q S k=>
 Ab (bI bZ B5 (aY i)) (h H Z U ts vs _ S λv H1 Z1 c k1 l g=>r H1 Z1 U ts vs _ l λus H2 Z2 v2 a k2 j f=>k _ H2 Z2 v2 Qco Qag j Quu)
variable{arg:Qak}{Pre:Qae}
theorem M6{res:Qfb}(a:V->A){HX:B1}(F:QtS)(w:Qad)(h:w1 X CL b Qau δ dv t δ1)(D:∀v,arg (a v)=dv v)(u:∀v,Pre (a v))(g:∀v,res (a v)=HX++(f,.sh QcU)::QJ)(z:T.cy HX=true)(B:T.cy QJ=true)(hn:∀v,(arg (a v)).length+1=n:=by exactλ_=>rfl)
  (p:AD x:=by decide) (he:Qax:=by exact aY rfl) (hpl:QaU:=by rfl) :
  bG X CL b Qbb δ (.ins x QnS) δ1:=λH Z U ts vs Q S kk=>by
 obtain⟨E,fd,ps,M,C,hm,hb⟩:=F.ex;exact bM (KD M C F.room w hm hb .nil A0 B5 p he hpl) (h H Z U ts vs _ S λus H1 Z1 v l k1 d r y dx s c ne=>by
  rw[f6];refine#[H1,H1,a v,y,dx,us,rfl,s,c,ne,rfl,.refl _,λ_ _ q _=>q,WE,hn v,u v,d.Nq,λH' W' fp i ww o nw tp rt nd own=>#[rfl,?_]];obtain⟨Z',m,j⟩:=d.back i d.zh ww o nw tp rt nd own (.inr (by rw[g];exact T.yi B z));rw[g]at j;exact kk _ H' Z' (l.trans m) (k1.trans i) j.X4)
namespace Rv
def N3:PySem.Slot "reversed" "__init__" "object.__init__":=
 .of (owner:="object") (n:="__init__") (by rw[typeLookup_type,builtinLookup_eq_fast];kernel_rfl) Wl Wl Wl
  (by first|exact .inl Wl|exact .inr Wl) (by rw[isSubtype_type];kernel_rfl)
noncomputable def called:TypeCalled "reversed" "reversed.__new__" "object.__init__":=
 #[Wl,Wl,#[_,_,PySem.F.mro_reversed],PySem.F.made_reversed,Wl,PySem.F.sub_reversed_self,N3]
def obj(t:Addr)(i:Int):Obj:={cls:=.type "reversed",data:=.fields (List.toArray [.ref t,rawInt i])}
def Is(h:Heap)(a t:Addr)(i:Int):Prop:=∃o,h.get? a=some o/\o.cls=.type "reversed" /\ o.data=.fields (List.toArray [.ref t,rawInt i])
end Rv
noncomputable def pZ{p q:Bool}(h:QbS)(q':p=q):kX X CL b e δ q δ1:=q'▸h
section
inductive y5:Expr->Int->Prop
 | c {i:Int} {k:Nat} {p:Pos}:y5 Qua i
 | n {i:Int} {k:Nat} {p q:Pos}:y5 (.UnaryOp .USub Qua q) (-i)
inductive K4:CC->BA->Prop
 | nil:K4 [] []
 | cons {e:Expr} {x:Int} {es:CC} {l:BA}:y5 e x->K4 es l->K4 Qau Qgz
theorem X5{l:BA}(h:K4 es l:=by repeat constructor):B7 X CL b es δ ((l.map D.int).map T.sh) δ:=by
 induction h with
 | nil=>exact bP
 | cons r _ i=>
  cases r with
  | c=>exact aN fW i (aY rfl)
  | n=>exact aN (bQ (ak fW)) i (aY rfl)
end
variable{δ3:Ap}{e1 e2:Expr}{ds oz:BC}{p2:Pos}
theorem bC.vQ{d:L3.D}(S:QrB):bK K CL Z d v:=by
 obtain⟨fp,gp,e0,a,nd,ow⟩:=S.rep;cases a with
 | cons c e=>
  obtain⟨rfl,r⟩:=c.El;exact r
def mP{lo hi:Qd2}{l h:Bz}(h1:bG X CL b e δ (.sh QdI) δ1)(hw:¬ (HT.iO ds.length 0 l=0/\HT.iO ds.length ds.length h=ds.length))(y:QlQ)(x:QlR) :
  bG X CL b Qhq δ (.sh (.tup (cutD ds l h))) δ3:=λH Z U ts vs Q S k=>by
 obtain⟨t2,f,t⟩:=y;obtain⟨t3,d,s⟩:=x;refine bM (xR ach bZ f d) (h1 H Z U ts vs _ S λv H1 Z1 q k1 C=>t H1 Z1 U _ _ _ C λH2 Z2 o k2 B=>s H2 Z2 U _ _ _ B λD Z3 n k3 g=>?_);have r:=g.vQ;obtain⟨_,_,rfl,u,i⟩:=r.kW;refine#[_,_,rfl,aA.DY g.zh u,by rw[<- i.length];exact hw,λp w=>?_];have rc:=i.cut l h;obtain⟨a,c,A⟩:=(bC.nK rc g.pop).tY (by simp[rc.length]) w;obtain⟨z,m,j⟩:=A.xV;rw[T.ez,gX]at j;exact k _ _ z (q.trans (o.trans (n.trans (a.trans m)))) Qri j
theorem Sl(h1:QgT)(o:Qhu)(n1:ds≠[])(n2:Qpb)(v:Qg1) :
  bG X CL b QcG δ (.sh QiO) δ2:=λH Z U ts vs Q S k=>
 bM (uZ BQ bZ bZ) (h1 H Z U ts vs _ S λv1 H1 Z1 j k1 s=>o H1 Z1 U _ _ _ s λv2 H2 Z2 i k2 d=>by
  have l:=d.vQ;have m:=d.pop.vQ;obtain⟨_,_,rfl,t,g⟩:=m.kW;obtain⟨_,_,rfl,u,f⟩:=l.kW;have e1:=g.length;have e2:=f.length;refine#[_,_,_,_,rfl,rfl,aA.DY d.zh t,aA.DY d.zh u,λz=>n1 (o4 (by rw[e1,z];rfl)),We,λz=>absurd (o4 (by rw[e2,z];rfl)) n2,λ_ p n=>?_];have rc:=aL.app g f;obtain⟨a,c,r⟩:=(bC.nK rc d.pop.pop).tY (by simp[rc.length,e1,e2]) n;obtain⟨q,h,e⟩:=r.xV;rw[T.ez,gX]at e;exact k _ _ q (j.trans (i.trans (a.trans h))) Qen e)
variable{ι:Nat->Nat}
noncomputable def turned(ι:Nat->Nat)(i j:Nat):Nat->Nat:=λk=>if i<=k/\k<j then ι (i+j-1-k) else ι k
def M8(hi:X.N[i]? = some x)(h:X.env.scope.names.lookup x=some .local)(hf:X.fn x=true)(hd:AD x:=by decide)(a:AE x:=by decide):Ln X i x:=#[#[hi,.inl h,hd,a],.inl h,.inl hf]
def M9(hi:X.N[i]? = some x)(h:X.env.scope.names.lookup x=some .cell)(hf:X.fn x=true)(hd:AD x:=by decide)(a:AE x:=by decide):Ln X i x:=#[#[hi,.inr Qe0,hd,a],.inr h,.inl hf]
variable{δc:Ap}{scope:Scope}{y:Str}{Nc:AT}{ix:CO}{elt iter:Expr}{ifs:CC}{px pc:Pos}{p:Qfg}{g:Qfh}
def EF(sc:Qeb):jt X scope [y] Nc ix:=#[sc.kind,sc.Ci,sc.nd,sc.names,(λx a=>by rw[eL]at a;subst a;exact sc.own),sc.frees,sc.hd,sc.qy]
def X6(sc:Qeb)(h:Qrk)(h1:AD y)(c:AE y):t8 X CL scope Nc [y].length Qis part1 ifs elt δc ds p g:=λC s0 b f0 a=>
 #[yc sc.nd (Se (by rw[sc.hd];rfl) sc.own h1 c),λd hd=>#[[d],rfl,rfl,(h C s0 b f0 a d hd).1,(h C s0 b f0 a d hd).2]]
def gY(sc:Qeb)(c:QaH)(h:Qse)(hb:(δc=oj δ1 ix/\∀d∈ds,(g d).clean=true)\/δc=sj δ1 ix)(inner:Qrk)(hlen:QaP)
  (a:QaT:=by intro _;rfl) (h1:AD y:=by decide) (e:AE y:=by decide):bG X CL b QcD δ (.lst ((ds.filter p).map g)) δ1:=
 Sb Qc0 c (Ew h) hb (X6 sc inner h1 e) hlen a
variable{dP:CS}
def kY{D:c6}{pos':Pos}{gg:Qfh}(g:Gx X)(n:Qbm)(sc:Qeb)(h:Qse)(hb:(δc=oj δ1 ix/\∀d∈ds,(gg d).clean=true)\/δc=sj δ1 ix)(inner:Block X CL scope Nc ifs elt δc ds p gg)
  (hlen:QaP) (k:cJ X CL b dP (δ1.set i (some (.lst ((ds.filter p).map gg)))) D) (e:Qbl)
  (a:QpP) (c:QaT:=by intro _;rfl)
  (h1:AD y:=by decide) (f:AE y:=by decide):cJ X CL b QrP δ D:=
 acQ g n Qc0 (Ew h) hb (X6 sc inner h1 f) hlen k e a c
variable{d:L3.D}
def ao(n:Qbm)(h:δ[i]? = some Qbs:=by rfl):bT X CL b Qat δ d δ:=ak (v_ n.1 h)
structure A7(X:Cx):Prop where
 g:Gx X
 u:X.A.units+64<cLine
def p6{N P:AT}{sc:Scope}(h1:sc.kind=.function:=by rfl)(f:sc.isCoroutine=false:=by rfl)(e:sc.isGenerator=false:=by rfl)(d:N.Nodup:=by decide +kernel)(c:N.take P.length=P:=by rfl)(b:∀x∈P,sc.names.lookup x=some .local\/sc.names.lookup x=some .cell:=by decide +kernel)(a:∀y∈sc.names,y.2 ≠ .free:=by decide +kernel):cX N P sc:=#[h1,f,e,d,c,b,a]
variable{H' Z':Hp}{δ':Ap}{U':L2.St}{tl:B2}{us:BY}{y:Addr}
theorem bC.SE(S:QaB)(hi:δ[i]? = some (some (.pin y t))):U[i]? = some QwQ/\bC K CL b H Z (δ.set i QaD) U ts vs:=by
 obtain⟨fp,gp,e,r,nd,k⟩:=S.rep;obtain⟨v0,f1,f2,f3,hv,a,rt,put,_⟩:=e.get hi;subst a;replace rt:=rt.Nk;obtain⟨rfl,rt⟩:=rt;have e2:=put QF Qch rt;rw[dS hv]at e2;exact#[hv,#[#[_,gp,e2,r,nd,k],S.bh,S.zz,S.zh,S.new,S.tp,S.tab]]
noncomputable def oF(H:Hp)(gp:BN):Hp:=λc=>if c∈gp then none else H c
variable{gp:BN}
def jV{c:Addr}(h:c∉gp):oF H gp c=H c:=cq h
def sC{c:Addr}(h:c∈gp):oF H gp c=none:=ee h
def iT{c:Addr}{o:HO}(h:oF H gp c=some o):c∉gp/\H c=some o:=by
 by_cases a:c∈gp
 .rw[sC a]at h;cases h
 .rw[jV a]at h;exact#[a,h]
theorem bC.cut(S:QkH)(l:tl.length=us.length):∃gp,aS K CL H Z tl us gp/\gp.Nodup/\bC K CL b Qjy Z δ U ts vs:=by
 obtain⟨fp,g,e,r,nd,k⟩:=S.rep;obtain⟨g1,g2,rfl,j,i⟩:=aS.split l r;have f:(fp++Qgt).Perm (g1++(fp++g2)):=by
  rw[<- eJ,<- eJ];exact iw.append_right g2
 have d:=hV.1 (f.nodup_iff.1 nd);have ne:∀c∈fp++g2,c∉g1:=λc a h=>d.2.2 c h c a rfl;have own:∀c∈g1,Z c=none/\b.B c=none:=λc a=>k c (e4 _ Qgu);refine#[g1,j,d.1,#[#[fp,g2,e.mono QF (λc a=>jV (ne c Qgu)),i.mono QF (λc a=>jV (ne c (e4 _ a))),d.2.1,λc a=>k c (f.mem_iff.2 (e4 _ a))],λc o q=>?_,S.zz,λc o q=>?_,S.new,λc o q im=>S.tp c o (iT q).2 im,S.tab]]
 .rw[jV (λh=>by rw[(own c h).2]at q;cases q)];exact S.bh c o q
 .rw[jV (λh=>by rw[(own c h).1]at q;cases q)];exact S.zh c o q
theorem bC.SA{W':Hp}{fp:BN}(S:QaB)(k:QbM)(ww:aA Z W')(l:aA W' H')(new:∀a o,W' a=some o->Z a=none->H a=none)
  (tp:∀a o,H' a=some o->fV o=true->W' a=some o) (r:aS K CL H' W' tl us fp) (nd:fp.Nodup) (own:∀a∈fp,W' a=none/\H a=none):bC K CL b H' W' δ U (tl++ts) QjJ:=by
 obtain⟨f0,g0,e0,g,f,k0⟩:=S.rep;have old:∀a∈f0++g0,∃o,H a=some o:=λa d=>(eB.1 d).elim (e0.there a) (g.there a);have keep:∀a∈f0++g0,H' a=H a:=λa d=>by
  obtain⟨o,e⟩:=old a d;rw[e];exact k a o e
 have j:(f0++(fp++g0)).Perm (fp++(f0++g0)):=by
  rw[<- eJ,<- eJ];exact iw.append_right g0
 have wn:∀a∈f0++g0,W' a=none:=λa d=>by
  cases q:W' a with
  | none=>rfl
  | some o=>
   obtain⟨u,e⟩:=old a d;rw[new a o q (k0 a d).1]at e;cases e
 refine#[#[f0,fp++g0,e0.mono ww (λa d=>keep a (e6 _ d)),aS.app r (g.mono ww λa d=>keep a (e4 _ d)),?_,λa d=>?_],S.bh.trans k,S.zz.trans ww,l,λa o q z=>?_,tp,S.tab]
 .refine j.nodup_iff.2 (hV.2 #[nd,f,λa d c m e=>?_]);subst e;obtain⟨o,q⟩:=old a m;rw[(own a d).2]at q;cases q
 .obtain h|h:=eB.1 (j.mem_iff.1 d)
  .exact#[(own a h).1,HN S.bh (own a h).2]
  .exact#[wn a h,(k0 a h).2]
 .cases i:Z a with
  | none=>exact HN S.bh (new a o q i)
  | some u=>
   exact S.new a u i z
def Sn:B2->B2->Prop
 | [],[]=>True
 | .sh d::l,.sh e::m=>d=e/\Sn l m
 | .pin x _::l,.pin z _::m=>x=z/\Sn l m
 | _,_=>False
def Keeps(δ:Ap)(ol:B2):Prop:=∀(j:Nat) (y:Addr) (t:T),ol[j]? = some (T.pin y t)->δ[j]? = some (some (T.pin y t))
theorem Keeps.tail{o:QcB}{d:T}{ol:B2}(k:Keeps (o::δ) (d::ol)):Keeps δ ol:=λj y t h=>k QaF y t h
theorem d8.outs{W W':Hp}(ww:aA W W'):∀{al ol:B2} {vs:BY} {g0:BN} {δ:Ap} {U:L2.St} {fp:BN},Sn al ol->aS K CL H W al vs g0->d8 K CL H' W' δ U fp->Keeps δ ol->∃g,aS K CL H' W' ol vs g/\g.Sublist fp:=by
 intro al
 induction al with
 | nil=>
  intro ol vs g0 δ U fp b i _ _;cases i;cases ol with
  | nil=>exact#[[],.nil,List.nil_sublist _]
  | cons _ _=>cases b
 | cons a al f=>
  intro ol vs g0 δ U fp b i re k;cases i with
  | cons r rs=>
  cases ol with
  | nil=>cases a<;>cases b
  | cons o ol=>
  cases a with
  | sh d=>
   cases o with
   | sh e=>
    obtain⟨h1,c⟩:=b;subst h1;replace r:=r.El;obtain⟨rfl,r⟩:=r;cases re with
    | nil=>
     obtain⟨g,q,s⟩:=f c rs (.nil (H:=H') (Z:=W')) (λj y t h=>by have:=k QaF y t h;simp at this);exact#[[]++g,.cons QmE q,s]
    | skip re=>
     obtain⟨g,q,s⟩:=f c rs re k.tail;exact#[[]++g,.cons QmE q,s]
    | cons rt re=>
     obtain⟨g,q,s⟩:=f c rs re k.tail;exact#[[]++g,.cons QmE q,s.trans (o1 _ _)]
   | _=>cases b
  | pin x t0=>
   cases o with
   | pin z t=>
    obtain⟨h1,c⟩:=b;subst h1;have h0:=k 0 x t rfl;replace r:=r.Nk;obtain⟨rfl,r⟩:=r;cases re with
    | nil=>simp at h0
    | skip re=>simp at h0
    | cons rt re=>
     simp at h0;subst h0;obtain⟨g,q,s⟩:=f c rs re k.tail;replace rt:=rt.Nk;obtain⟨rfl,rt⟩:=rt;exact#[_,.cons (.pin rt) q,kc (jJ _) s]
   | _=>cases b
  | _=>cases o<;>cases b
noncomputable def rC(N:AT)(al:B2):Ap:=al.map some++List.replicate (N.length-al.length) none
def vp{al:B2}(n:Nat):aS K CL H Z al vs gp->d8 K CL H Z QrQ QkK gp:=
 aS.ind (P:=λal vs gp=>d8 K CL H Z QrQ QkK gp) (jT (ds:=[]) (vs:=[]) n .nil) λr _ i=>.cons r i
def t4(K:Frag)(CL:BM)(n:Nat)(arg:Qa4)(Pre:Qae)(res:QaA)(out:Qa4):Sp:=λvs H Q _=>
 ∃(W:Hp) (a:A) (gp:BN),aA W Qjy/\(∀c o,H c=some o->fV o=true->W c=some o)/\aS K CL H W Qb1 vs gp/\gp.Nodup/\(arg a).length=n/\Pre a/\iE CL W ∧
  ∀v H' W' fp,aA Qjy H'->aA W W'->aA W' H'->(∀c o,W' c=some o->W c=none->oF H gp c=none)->(∀c o,H' c=some o->fV o=true->W' c=some o) →
   aS K CL H' W' (res a::out a) QaW fp->fp.Nodup->(∀c∈fp,W' c=none/\oF H gp c=none)->Q v H'
def acY{P:Q2}{w:World}{mg:BS}{base:Heap}{qual:Str}{st:Stmt}{f:Addr}{fd:QaG}{N ps:AT}{arg:Qa4}{Pre:Qae}{res:QaA}{out:Qa4}(F:Qc8)(S:Qb5)(B:∀a,Pre a->Sn Qb1 Qe3)
  (hb:∀(dO:Value) (l:Qaj) (outer:Co) (s:Qb) (H:Hp) (E:XK) (b:Bx) (a:A),dJ k Qv8->Pre a →
   cJ (kE pT P w K mg base N qual Qan f dO l outer s H E).MN CL b Qba Qi4 {nx:=λδ=>res a=.sh .non/\Keeps δ Qe3,rt:=λt δ=>t=res a/\Keeps δ Qe3}) :
  eX P w K mg base pT Qaf f fd ps Qrl:=by
 refine Ce F S (λvs H Q E h=>?_) (λdO l outer s H vs Q E _ G h=>?_)
 .obtain⟨W,a,gp,_,_,r,_,C,_⟩:=h;rw[<- r.length];exact C
 .obtain⟨W,a,gp,u,tp,r,nd,C,m,tb,kk⟩:=h;have wn:∀c∈gp,W c=none:=λc i=>by
   cases q:W c with
   | none=>rfl
   | some o=>exact absurd i (iT (u c o q)).1
  refine#[_,Nn,hb dO l outer s H E #[oF H gp,W] a G m H W _ [] [] _ #[#[gp,[],?_,.nil,by rw[f6];exact nd,λc i=>?_],λc o q=>(iT q).2,.refl _,λc o q=>(iT (u c o q)).2,λc o q z=>?_,tp,tb] #[λδ' U' H' Z' s' d e=>?_,λt v H' Z' δ' U' s' d e=>?_,λ_ _ _ _ _ _ e=>e.elim,λ_ _ _ _ _ _ e=>e.elim]]
  .unfold rC L2.start;rw[<- r.length];exact vp _ r
  .rw[f6]at i;exact#[wn c i,sC i]
  .have q':W c=some o:=q;have p:W c=none:=z;rw[q']at p;cases p
  .obtain⟨e1,e2⟩:=e;obtain⟨fp,I,re,y,n,own⟩:=d.rep;obtain⟨g,q,j⟩:=d8.outs d.zz (B a m) r re e2;have nf:=(hV.1 n).1;exact kk .non H' Z' ([]++g) d.bh d.zz d.zh d.new d.tp (.cons (by rw[e1];exact .sh .non) q) (nf.sublist j) λc i=>own c (e6 _ (j.subset i))
  .obtain⟨e1,e2⟩:=e;subst e1;obtain⟨fp,I,re,y,n,own⟩:=d.rep;obtain⟨g,q,j⟩:=d8.outs d.zz (B a m) r re e2;cases y with
   | @cons _ _ _ _ f1 f2 D J=>
    have sub:(g++f1).Sublist (fp++QjH):=kc j (List.sublist_append_left _ _);have pm:(f1++g).Perm (g++f1):=iw;exact kk v H' Z' (f1++g) d.bh d.zz d.zh d.new d.tp (.cons D q) (pm.nodup_iff.2 (n.sublist sub)) λc i=>own c (sub.subset (pm.mem_iff.1 i))
def Bd(U:L2.St):CO->BN->Prop
 | [],[]=>True
 | i::is,y::ys=>U[i]? = some QwQ/\Bd U is ys
 | _,_=>False
def EG:B2->BN->B2->Prop
 | [],[],[]=>True
 | .sh _::ol,ys,ns=>EG ol ys ns
 | .pin y t::ol,z::ys,n::ns=>y=z/\(n=t\/n=.pin y t)/\EG ol ys ns
 | _,_,_=>False
def X7:Ap->CO->B2->Ap
 | δ,i::is,n::ns=>X7 (δ.set i Qgo) is ns
 | δ,_,_=>δ
theorem bC.NY:∀{ol:B2} {us:BY} {is:CO} {ys:BN} {ns:B2} {δ:Ap},bC K CL b H Z δ U (ol++ts) QjJ->ol.length=us.length->Bd U is ys->EG ol ys ns->(∀i∈is,i<δ.length)->bC K CL b H Z (X7 δ is ns) U ts vs:=by
 intro ol
 induction ol with
 | nil=>
  intro us is ys ns δ S e c a hi;cases us with
  | cons _ _=>cases e
  | nil=>
   cases ys with
   | cons _ _=>cases a
   | nil=>
    cases is with
    | cons _ _=>cases c
    | nil=>
     rw[X7.eq_def];exact S
 | cons o ol k=>
  intro us is ys ns δ S e c a hi;cases us with
  | nil=>cases e
  | cons u us=>
  cases o with
  | sh d=>exact k S.pop Qwd c a hi
  | pin y t=>
   cases ys with
   | nil=>cases a
   | cons z ys=>
   cases ns with
   | nil=>cases a
   | cons n ns=>
   cases is with
   | nil=>cases c
   | cons i is=>
   obtain⟨h1,hn,a⟩:=a;subst h1;obtain⟨g,c⟩:=c;have l:u=.ref y:=by
    obtain⟨_,_,_,r,_,_⟩:=S.rep;cases r with
    | cons r _=>cases r;rfl
   subst l;have f:=hi i eu;have h:=S.set f;rw[dS g]at h;have p:bC K CL b H Z (δ.set i Qgo) U (ol++ts) QjJ:=by
    obtain rfl|rfl:=hn
    .have:=(h.SE (pf f)).2
     rwa [List.set_set]at this
    .exact h
   exact k (δ:=δ.set i Qgo) p Qwd c a λj m=>by rw[ij];exact hi j (eE _ m)
  | _=>cases a
section
variable{D:c6}{is:CO}{fx:BN->Prop}{al:BN->B2}
def n4(X:Cx)(CL:BM)(b:Bx)(e:Expr)(δ:Ap)(t:T)(δ':Ap):Prop:=
 ∀(H Z:Hp) (U:L2.St) (ts:B2) (vs:BY) (Q:VK),bC X.K CL b H Z δ U ts vs->(∀v H' Z',aA Z Z'->bC X.K CL b H' Z' δ' U Qb2 QaW->Q v H')->z9 X e U H Q
theorem bG.m(h:QaC):n4 X CL b e δ t δ1:=λH Z U ts vs Q S k=>h H Z U ts vs Q S λv H' Z' z _ a=>k v H' Z' z a
def Ss(h:Qmj)(k:D.nx δ1)(c:QgE:=by rfl):QG X CL b (.Expr e pos) δ D:=λH Z U ts vs E S M=>n8 (rW bZ c) (h H Z U ts vs _ S λv H1 Z1 a d=>M.nx δ1 U H1 Z1 a d.pop k)
def nZ(X:Cx)(CL:BM)(b:Bx)(es:CC)(δ:Ap)(is:CO)(fx:BN->Prop)(al:BN->B2)(δ':Ap):Prop:=
 ∀(H Z:Hp) (U:L2.St) (ts:B2) (vs:BY) (Q:EQ),bC X.K CL b H Z δ U ts vs →
  (∀ys us H' Z',ys.length=is.length->Bd U is ys->fx ys->us.length=(al ys).length->aA Z Z'->aA H H'->bC X.K CL b H' Z' δ' U ((al ys).reverse++ts) Qew->Q us H')->Aa X es U H Q
def ac1:nZ X CL b [] δ [] (λ_=>True) (λ_=>[]) δ:=λH Z U ts vs Q S k=>Ab cQ (k [] [] H Z rfl trivial trivial rfl QF QF S)
def Kt(h1:QhN)(j:nZ X CL b es δ1 is fx al δ2)(g:Qax:=by exact aY rfl):nZ X CL b Qau δ is fx (λys=>.sh d::al ys) δ2:=λH Z U ts vs Q S k=>
 Ab (bI bZ B5 g) (h1 H Z U ts vs _ S λv H1 Z1 c k1 m=>j H1 Z1 U _ _ _ m λys us H2 Z2 f i hf h a k2 l=>k ys (v::us) H2 Z2 f i hf (by simp[h]) Qco Qag (by
  rw[ka,ka,eJ,eJ];exact l))
noncomputable def T.isRef:T->Bool
 | .lst _=>true
 | .ins _ _=>true
 | .iY _=>true
 | .dct _=>true
 | _=>false
theorem bC.ac2(S:Qb7)(h:t.isRef=true):∃y,v=.ref y/\bC K CL b H Z δ U (.pin y t::ts) (.ref y::vs):=by
 obtain⟨fp,gp,e,r,nd,k⟩:=S.rep;cases r with
 | cons r rs=>
  cases r with
  | sh r=>cases h
  | tup r _=>cases h
  | pin r=>cases h
  | B4 r _ _=>cases h
  | lst r q=>exact#[_,rfl,#[#[fp,_,e,.cons (.pin (.lst r q)) rs,nd,k],S.bh,S.zz,S.zh,S.new,S.tp,S.tab]]
  | ins r q=>exact#[_,rfl,#[#[fp,_,e,.cons (.pin (.ins r q)) rs,nd,k],S.bh,S.zz,S.zh,S.new,S.tp,S.tab]]
  | iY r q=>exact#[_,rfl,#[#[fp,_,e,.cons (.pin (.iY r q)) rs,nd,k],S.bh,S.zz,S.zh,S.new,S.tp,S.tab]]
  | dct r q=>exact#[_,rfl,#[#[fp,_,e,.cons (.pin (.dct r q)) rs,nd,k],S.bh,S.zz,S.zh,S.new,S.tp,S.tab]]
def Su(n:Qa3)(h:δ[i]? = some QaD)(f:t.isRef=true)(l:nZ X CL b es (δ.set i none) is fx al δ2)(d:starEach (.Name x pos::es) X.env=(false,eval Qat X.env)::starEach es X.env:=by exact aY rfl) :
  nZ X CL b (.Name x pos::es) δ (i::is) (λys=>fx ys.tail) (λys=>.pin (ys.headD 0) t::al ys.tail) δ2:=λH Z U ts vs Q S k=>by
 obtain⟨v,e,o⟩:=S.move h;obtain⟨y,rfl,p⟩:=o.ac2 f;exact Ab (bI QhX B5 d) #[_,e,l H Z U _ _ _ p λys us H2 Z2 c j hf g a k2 m=>k (y::ys) (.ref y::us) H2 Z2 (by simp[c]) #[e,j] hf (by simp[g]) a k2 (by
  show bC _ _ _ _ _ _ _ ((T.pin y t::al ys).reverse++ts) _;rw[ka,ka,eJ,eJ];exact m)]
def Sv{f:Addr}{fd:QaG}{ps:AT}{arg:Qa4}{Pre:Qae}{res:QaA}{out:Qa4}(a:BN->A)(ns:B2)(F:eX X.prog X.w X.K X.mg X.base pT k f fd ps Qsf)(N:Qcx)(hm:Qd0)(P:Qd1)(hb:QgX)
  (h:nZ X CL b Qau δ is fx al δ1) (W:∀ys,ys.length=is.length->fx ys->arg (a ys)=al ys/\(arg (a ys)).length=n/\Pre (a ys)/\res (a ys)=t/\EG (out (a ys)) ys ns) (Y:∀i∈is,i<δ1.length) (V:Qad)
  (M:AD x:=by decide) (he:Qax:=by exact aY rfl) (hpl:QaU:=by rfl) :
  n4 X CL b Qbb δ t (X7 δ1 is ns):=λH Z U ts vs Q S kk=>
 bM (wC F N V hm P hb .nil A0 B5 M he hpl) (h H Z U ts vs _ S λys us H1 Z1 m p hf o I k1 y=>by
  rw[f6];obtain⟨s,q,O,j,l⟩:=W ys m hf;obtain⟨g,r,nd,u⟩:=y.cut (by simp[o]);obtain⟨g',B,pm⟩:=r.rev;have ec:oF H1 g=oF H1 g':=funext λc=>by
   by_cases d:c∈g
   .rw[sC d,sC (pm.mem_iff.2 d)]
   .rw[jV d,jV (λz=>d (pm.mem_iff.1 z))]
  rw[ec]at u;rw[<- s]at B;refine#[Z1,a ys,g',u.zh,y.tp,B,pm.nodup_iff.2 nd,q,O,y.Xq,λv H' W' fp R ww J nw tp rt K5 own=>?_];cases rt with
  | @cons _ _ _ _ f1 f2 L C=>
   have G:(f2++(f1++[])).Perm QjH:=by rw[f6];exact iw
   have E:=u.SA R ww J nw tp (aS.app C (.cons L .nil)) (G.nodup_iff.2 K5) λc d=>own c (G.mem_iff.1 d);rw[eJ,eJ]at E;have D:=E.NY C.length p l Y;rw[j]at D;exact kk v H' W' (I.trans ww) D)
structure z4(X:Cx)(CL:BM)(x:Str)(k n:Nat){A:Type}(arg:Qa4)(Pre:Qae)(res:QaA)(out:Qa4):Prop where
 ex:∃f fd ps,eX X.prog X.w X.K X.mg X.base pT k f fd ps Qsf/\X.mg x=some Qaq/\keepIn X.K Qaq=true/\Binds X.K fd ps []
 room:dJ k X.A
def Nl{arg:Qa4}{Pre:Qae}{res:QaA}{out:Qa4}(a:Addr->A)(c:T)(F:z4 X CL x k n arg Pre res out)(v:Qad)(h:nZ X CL b Qau δ [i] fx al δ1)(p:∀y,fx [y]->Pre (a y))(l:∀y,fx [y]->res (a y)=t)(g:∀y,fx [y]->EG (out (a y)) [y] [c])
  (d:∀y,fx [y]->arg (a y)=al [y]:=by intros;rfl) (hlen:∀y,(arg (a y)).length=n:=by intros;rfl) (w:Qbl:=by exact ew rfl)
  (o:AD x:=by decide) (he:Qax:=by exact aY rfl) (hpl:QaU:=by rfl) :
  n4 X CL b Qbb δ t (δ1.set i (some c)):=by
 obtain⟨⟨f,fd,ps,G,m,q,bd⟩,r⟩:=F;exact Sv (λys=>a (ys.headD 0)) [c] G r m q bd h (λys s hf=>match ys,s,hf with | [y],_,hf=>#[d y hf,hlen y,p y hf,l y hf,g y hf]) (λj u=>by cases eL.1 u;exact w) v o he hpl
def wL(h:Qmj)(k:cJ X CL b dP δ1 D)(a:QgE:=by rfl):cJ X CL b Qm8 δ D:=bR (Ss h k a)
end
variable{y:Str}
def Sw(sc:Qeb)(L:QaH)(h:QkS)(cl:∀d∈ds,(g d).clean=true)(inner:Qkt)(hlen:QaP)
  (G:QaT:=by intro _;rfl) (n1:AD y:=by decide) (n2:AE y:=by decide):bG X CL b QcD δ (.lst ((ds.filter p).map g)) δ1:=λH Z U ts vs Q S k pins s I=>by
 rw[eval_ListComp];refine oT (use:=none) rfl G (ic Qc0 I) sc.kind sc.names ?_;have hw:=(BK (tg:=.Name y px) Qtd) pins s U H (λJ H1=>∃Z1 us,aA Z Z1/\aA H H1/\bC X.K CL b H1 Z1 δ1 U ts vs/\aL X.K CL H1 ds us/\(∀i H2,aA H1 H2->i<ds.length->J.go i H2)/\(∀i H2 x H',aA H1 H2->i<ds.length->J.Ks i H2 x H'->H'=H2/\us[i]? = some x)/\∀H2,aA H1 H2->J.stop ds.length H2) I (h H Z U ts vs _ S λv H1 Z1 n k1 f r=>by
  obtain⟨a,us,rfl,l,c⟩:=r.i9;refine#[a,rfl,#[us,l],Z1,us,n,k1,f,c,λi H2 s hi=>?_,λi H2 y H' s hi j=>#[j.1,j.2 us (s.seq l)],λH2 s=>#[us,s.seq l,by rw[c.length];exact eA _]];have O:i<us.length:=by rw[<- c.length];exact hi
  exact#[us,us[i],s.seq l,by simp[O]])
 refine cR hw λv s1 h1=>cR h1 λE s2 zz=>?_;obtain⟨it,fp,tn,J,H1,e,R,M,st,hf,Z1,us,n,k1,f,c,go,A,u⟩:=zz;subst e;have t:∀i Z2 H2 x H',aA H1 Z2->aA Z2 H2->(∀a o,H2 a=some o->fV o=true->Z2 a=some o)->i<ds.length->J.Ks i H2 x H'->∃Z3 d,ds[i]? = some d/\x9 Z2 H2 Z3 H'/\bK X.K CL Z3 d x:=λi Z2 H2 x H' s1 s2 tp hi j=>by
  obtain⟨e,F⟩:=A i H2 x H' Qi0 hi j;subst e;obtain⟨d,hd,B⟩:=c.RH F;exact#[Z2,d,hd,.refl s2 tp,B.mono s1]
 refine rB QfD (xs:=[y]) Qc0 L R M st hf (yd (W1:=H1) f f.zh QF Qmv (sq f ix) Qva go t u hlen QoX) (λD V s' H' m io T ch ci zz=>?_) λ_ _ _ _ _ _ _ z=>z.elim;obtain⟨Z',w,C,N⟩:=zz;obtain⟨m,hn⟩:=m;exact#[m,hn,λh' P=>#[.ref D,H',ci h' P,rfl,k _ H' Z' (n.trans w) (k1.trans C) N]]
variable{o:Expr}{apos:Pos}{l:AT}
theorem X8{its:B0}(r:Vals QcO its):∃ps:List (Str×Tok),its=strValues ps/\ps.map (·.1)=l:=by
 induction l generalizing its with
 | nil=>cases r;exact#[[],rfl,rfl]
 | cons x l a=>
  rw[eM]at r;cases r with
  | cons r rs=>
   obtain⟨t,rfl⟩:=r;obtain⟨ps,e1,e2⟩:=a rs;exact#[(x,t)::ps,by rw[e1];rfl,by rw[eM,e2]]
def X9:l8 X "str.join" (λx vs H Q=>∃(z:Str) (p:Addr) (l:AT),x=.str z/\vs=[.ref p]/\mE X.K H p QcO/\JoinOk z l=true/\Q Qux H):=by
 intro pins s U H x vs v us Q I a b h;obtain⟨z,p,l,rfl,rfl,f,bW,q⟩:=h;obtain⟨t,rfl⟩:=a;obtain⟨u,rfl,c⟩:=b.one;cases c;obtain⟨its,r,d,_⟩:=I.list f;obtain⟨ps,rfl,e⟩:=X8 r;exact SC.join d.isList e bW λt' k=>#[.str _,H,I.tok k,#[_,rfl],q]
def Yb{z:Str}(h1:Qfd)(n:bT X CL b e δ1 (.lst Qv9) δ2)(bW:JoinOk z l=true)
  (q:attributeBase o "join" X.env Qcf=eval o X.env:=by rfl)
  (j:Qff:=by rfl)
  (a:Qde:=by rfl) (c:Qaz:=by exact aY rfl) :
  bG X CL b (.Call (.Attribute o "join" apos) [e] [] pos) δ (.sh Qux) δ2:=λH Z U ts vs Q S k=>
 bM (r9 pd PySem.F.slot_str_join PySem.F.type_str_join X9 bZ Qn9 q j a c rfl)
  (h1 H Z U ts vs _ S λv1 H1 Z1 f k1 s i=>by
   have e1:=i.sc rfl;subst e1;refine#[rfl,n H1 Z1 U ts vs _ s λv2 H2 Z2 d k2 r h=>?_];obtain⟨p,us,rfl,m,g⟩:=h.i9;have e2:=g.strs;subst e2;exact#[z,p,l,rfl,rfl,m,bW,k _ _ _ Qf7 Qag (r.push QcY)])
def F1(lo c:Int)(n:Nat):It:=#[λi _=>i<n,λi H x H'=>H'=H/\x=.int (lo+i*c),λi _=>n<=i]
theorem N5{P:Q2}{w:World}{tg:Expr}(it:Addr)(lo c:Int)(n:Nat):Turn P w K tg (F1 lo c n) [it] it (λi h=>IsRangeIter h it (lo+(i:Nat)*c) ((n:Int)-(i:Nat)) c) where
 mem:=eL.2 rfl
 obj:=λi h st b hb=>by
  cases eL.1 hb;exact#[_,st,λv z=>by
   have m:Data.fields _=Data.cell v:=z;cases m]
 keep:=λi h h' st k=>k it QcR _ st
 item:=by
  intro X f hw g d i pins s U H E I hf st a;subst f hw g;obtain⟨f0,f1,f2,f3,f4,j⟩:=hf it QcR;have W:=Walks.range (prog:=X.prog) (w:=X.w) (I.ok.hd d) it lo c n;refine W.item i s _ _ a st λv h' tk hv l kk=>?_;obtain⟨t,rfl⟩:=hv;have q:Inv X pins U H {s with heap:=h',toks:=tk}:=I.turned (λb o hb e=>kk b o (by simpa using hb) e) f0 f1 f3 f4 j;exact#[_,rfl,AK (s:={s with heap:=h',toks:=tk}) (n:="range_iterator") l rfl rfl Wp #[.int (lo+i*c),H,q,#[t,rfl],#[rfl,rfl],l,λb hb=>(hf b hb).1]]
 done:=by
  intro X f hw g d i pins s U H E I hf st a;subst f hw g;obtain⟨f0,f1,f2,f3,f4,j⟩:=hf it QcR;exact wpAny_pyNext_range_end (I.ok.hd d) st (by have:n<=i:=a;lia) λh' p=>#[rfl,I.turned (t':=s.toks) Qlb f0 f1 f3 f4 j]
 self:=λ_ _ _ _ _ st h=>wpAny_pyIter_rangeiter st h
noncomputable def nQ(lo hi:Int):Nat:=((hi-lo+1) / 2).toNat
theorem step_size{lo hi:Int}(h0:0<=lo)(h1:lo<=1000)(b:0<=hi)(a:hi<=1000):Builtin.Range.rangeSize lo hi 2=(nQ lo hi:Int)/\Builtin.Range.small lo hi 2=true:=by
 have e:Builtin.Range.rangeSize lo hi 2=(nQ lo hi:Int):=by
  unfold Builtin.Range.rangeSize nQ;simp only[show(2:Int) > 0 by decide,if_true];split<;>lia
 refine#[e,?_];unfold Builtin.Range.small;rw[e];unfold nQ;simp only[Builtin.Range.rangeFitsLong,gm,nC,pw,ip,show(2:Int) > 0 by decide,if_true];lia
variable{tg:Expr}
def Sr(ta:TA):TI:=λU H R=>ta U H λvs H1=>∃i j:Int,vs=[.int i,.int j,.int 2]/\(0<=i/\i<=1000/\0<=j/\j<=1000)/\R (F1 i 2 (nQ i j)) H1
theorem N6{a b c:Expr}{ta:TA}{p:Pos}(A:Qe5)(hm:Qe6)(B:PA X [a,b,c] ta)(z:starEach [a,b,c] X.env=[(false,eval a X.env),(false,eval b X.env),(false,eval c X.env)]:=by rfl)(n:AR X b c:=by rfl) :
  PI X tg (.Call QmA [a,b,c] [] pos) (Sr ta):=by
 intro pins s U H R I h;refine Call_ (qW I A hm boot_range (r8 (cR (B pos pins s U H _ I h) λus s1 ⟨vs,H1,C,u,k⟩=>?_) (by rw[z,n]) (by rw[n];rfl)));obtain⟨i,j,e,⟨k,y,x,w⟩,q⟩:=k;subst e;cases u with
 | cons r d=>
  cases d with
  | cons v d=>
   cases d with
   | cons g d=>
    cases d;obtain⟨t,rfl⟩:=r;obtain⟨t',rfl⟩:=v;obtain⟨f,rfl⟩:=g;obtain⟨hn,l⟩:=step_size k y x w;refine call_range_3 Wp ?_ (.inl (PyProof.noPylong_small Wp));refine wpAny_pyIter_range (IsRange.new ..) l ?_;have m:=C.kept (t':=s1.toks) (h':=s1.heap.push {cls:=.type "range",data:=.fields (List.toArray [.int i t,.int j t',.int 2 f])}) λb o e=>f7 _ e;refine#[_,[_],_,_,H1,rfl,m.kept (t':=s1.toks) λb o e=>f7 _ e,N5 _ i 2 (nQ i j),?_,λb hb=>?_,q]
    .have e1:i+((0:Nat):Int)*2=i:=by lia
     have e2:((nQ i j:Nat):Int)-((0:Nat):Int)=Builtin.Range.rangeSize i j 2:=by rw[hn];lia
     show IsRangeIter _ _ (i+((0:Nat):Int)*2) (((nQ i j:Nat):Int)-((0:Nat):Int)) 2;rw[e1,e2];exact hX _ rfl
    .cases eL.1 hb;exact m.z6 (eA _) (m.bW.fresh (eA _))
def qE(lo:Int)(n:Nat):BC:=(List.range n).map λ(i:Nat)=>D.int (lo+i*2)
variable{e3:Expr}{pr:Pos}
def Sx(lo:Int)(n:Nat):aL K CL Z (qE lo n) ((List.range n).map λ(i:Nat)=>V.int (lo+i*2)):=by
 unfold qE;generalize List.range n=l
 induction l with
 | nil=>exact .nil
 | cons i r a=>exact .cons Qbx a
def N7{m n:Int}(hm:Qe6)(h:DZ X CL b [e1,e2,e3] δ [.int m,.int n,.int 2] δ1)(hn:0<=m/\m<=1000/\0<=n/\n<=1000)(l:Qe5)
  (j:starEach [e1,e2,e3] X.env=[(false,eval e1 X.env),(false,eval e2 X.env),(false,eval e3 X.env)]:=by rfl) (p:AR X e2 e3:=by rfl) :
  QH X CL b tg (.Call Qmp [e1,e2,e3] [] pc) δ (qE m (nQ m n)) δ1:=by
 refine#[_,N6 l hm B5 j p,λH Z U ts vs R S k=>h H Z U ts vs _ S λd H1 Z1 c k1 o r=>?_];cases r with
 | cons g r=>
  cases r with
  | cons f r=>
   cases r with
   | cons e r=>
    cases r;rw[g.sc rfl,f.sc rfl,e.sc rfl];refine#[m,n,rfl,hn,k _ _ #[Z1,_,c,k1,o,Sx m (nQ m n),λi H2 s hi=>?_,λi H2 y H' s hi a=>?_,λH2 s=>?_]]
    .show i<nQ m n;rw[qE,ed,gi]at hi;exact hi
    .rw[qE,ed,gi]at hi;refine#[a.1,?_];rw[fR,h5 hi,a.2];rfl
    .show nQ m n<=(qE m (nQ m n)).length;rw[qE,ed,gi];exact eA _
def So(K:Frag):R2:=λx y H Q=>∃a b xs ys,x=.ref a/\y=.ref b/\lK K H a xs/\lK K H b ys/\ys≠[]/\xs.length+ys.length<=sizeLine ∧
 (xs=[]->Q Qgm H)/\(xs≠[]->∀p,H p=none->Q Qbi Qty)
def Yc:nG X QeC (So X.K):=by
 intro pins s U H x y v u Q I g f h;obtain⟨a,b,xs,ys,rfl,rfl,k,hb,t,r,q,p⟩:=h;by_cases c:xs=[]
 .subst c;cases g;cases f;obtain⟨its,o,p1,_⟩:=I.tuple k;obtain⟨B,A,p2,_⟩:=I.tuple hb;cases o;obtain⟨⟨cls,dd,data,sl⟩,i,j,n,hd⟩:=id p1;obtain⟨⟨w,d,data2,z⟩,m,l,n2,hd2⟩:=id p2;simp only at j hd l hd2;subst j hd l hd2;exact concat_meets #[_,i,rfl] #[_,m,rfl] noFill_tuple_add seq_tuple_add FR FF (FK _ _)
   (tuple_addW0 a b _ _ n n2 dd d sl z rfl) #[i,m,#[.ref b,H,I,rfl,q rfl]]
 .exact BQ pins s U H _ _ v u Q I g f #[a,b,xs,ys,rfl,rfl,k,hb,c,r,λe=>absurd e t,λ_=>p c]
theorem jc(h1:QgT)(q:Qhu)(n2:Qpb)(w:Qg1) :
  bG X CL b QcG δ (.sh QiO) δ2:=λH Z U ts vs Q S k=>
 bM (uZ Yc bZ bZ) (h1 H Z U ts vs _ S λv1 H1 Z1 g k1 t=>q H1 Z1 U _ _ _ t λv2 H2 Z2 f k2 d=>by
  have h:=d.vQ;have n:=d.pop.vQ;have e:=h;obtain⟨_,_,rfl,u,l⟩:=n.kW;obtain⟨_,_,rfl,v,j⟩:=h.kW;have e1:=l.length;have e2:=j.length;refine#[_,_,_,_,rfl,rfl,aA.DY d.zh u,aA.DY d.zh v,λz=>n2 (o4 (by rw[e2,z];rfl)),We,λz=>?_,λ_ p o=>?_]
  .have:ds=[]:=o4 (by rw[e1,z];rfl);subst this;exact k _ _ _ Qf8 Qag (d.pop.pop.push e)
  .have rc:=aL.app l j;obtain⟨a,c,s⟩:=(bC.nK rc d.pop.pop).tY (by simp[rc.length,e1,e2]) o;obtain⟨r,m,i⟩:=s.xV;rw[T.ez,gX]at i;exact k _ _ r (g.trans (f.trans (a.trans m))) Qen i)
def Yd:nG X QvZ (λx y H Q=>∃i n,x=.str i/\y=.int n/\MulOk i n/\Q (.str (Txt.mul i n)) H):=by
 intro pins s U H x y v u Q I b a h;obtain⟨i,n,rfl,rfl,c,q⟩:=h;obtain⟨t,rfl⟩:=b;obtain⟨t',rfl⟩:=a;exact SB.mul c λt' k=>#[.str (Txt.mul i n),H,I.tok _,#[_,rfl],q]
def Ye{n:Int}(h1:Qd6)(a:Qs6)(c:MulOk x n):bG X CL b QtB δ (.sh (.str (Txt.mul x n))) δ2:=oh Yd h1 a rfl rfl rfl λ_ _ q=>#[x,n,rfl,rfl,c,q]
def ac3(h:Qe9)(he:∀whole,isTrue e X.env whole=(do let v ← whole;standAt e.pos;holding [v] Qgc):=by intro _;rfl):kX X CL b e δ (!ds.isEmpty) δ1:=λH Z U ts vs Q S k=>
 se (Rh bZ he) (h H Z U ts vs _ S λv H1 Z1 c k1 g r=>by
  obtain⟨a,us,rfl,f,d⟩:=r.i9;refine#[_,.inl #[us,f,rfl],?_];have e:us.isEmpty=ds.isEmpty:=by
   have:=d.length;cases us<;>cases ds<;>simp at this ⊢
  rw[e];exact k H1 Z1 c k1 g)
noncomputable def NU(y:Str):Value->Bool
 | .str i _ => i == y
 | _=>false
theorem N8:l8 X "list.index" (λx xs H Q=>∃(p:Addr) (l:AT) (y:Str) (j:Nat),x=.ref p/\xs=[.str y]/\mE X.K H p Qci/\l[j]? = some y/\(∀i,i<j->l[i]? ≠ some y)/\Q Qxt H):=by
 intro pins s U H x xs v us Q I C rs h;obtain⟨p,l,y,j,rfl,rfl,J,o,B,q⟩:=h;cases C;obtain⟨u,rfl,D⟩:=rs.one;obtain⟨t,rfl⟩:=D;obtain⟨its,r,⟨⟨oc,od,E,BP⟩,n,e,A,hd,f⟩,G⟩:=I.list J;dsimp only at A hd f;subst A hd f;have at':∀{i:Nat} (hi:i<its.toArray.size),∃k t,its.toArray[i]=.str k t/\l[i]? = some k:=λ{i} a=>by
  have c:i<its.length:=by simpa using a
  have g:i<l.length:=by have:=r.length;rw[ed]at this;lia
  obtain⟨u,e1,e2⟩:=r.get (i:=i) (x:=.str l[i]) (by rw[fR,ft g];rfl);obtain⟨t,rfl⟩:=e2;refine#[l[i],t,?_,ft g];rw[ft c]at e1;simpa using Option.some.inj e1
 have d:j<its.toArray.size:=by
  have h1:=(hH.1 o).1;have:=r.length;rw[ed]at this;simp;lia
 have hsz:its.toArray.size<=sizeLine:=by
  have:=r.length;rw[sv,<- this];exact G
 refine m3 F.slot_list_index #[_,e,rfl] F.entry_list_index (F.args_list_index_2 _ _) (SeqAt.list_indexAt p its.toArray n none BP QoK (NU y) j d (by rw[gc]at hsz;lia) ?hit λm hm b=>?no) #[e,λw hw=>?eqs,?_]
 case hit=>
  obtain⟨k,t',e1,e2⟩:=at' d;rw[e1];rw[o]at e2;cases e2;exact beq_self_eq_true y
 case no=>
  obtain⟨k,t',e1,e2⟩:=at' hm;rw[e1];exact kP.2 λz=>B m b (by rw[e2,z])
 case eqs=>
  obtain⟨i,a,rfl⟩:=Array.mem_iff_getElem.1 hw;obtain⟨k,t',e1,e2⟩:=at' a;rw[e1];exact SeqAt.EqAt.str_str k t' y t
 exact#[.int (j:Int),H,I.tok _,#[_,rfl],q]
def A8{j:Nat}(h1:bT X CL b o δ (.lst Qci) δ1)(u:Qfe)(t:l[j]? = some y)(m:∀i,i<j->l[i]? ≠ some y)
  (v:attributeBase o "index" X.env Qcf=eval o X.env:=by rfl) (s:((backTo pos Qu1).all QeI&&(backToKw pos Qep).all Qes
   && decide (([e]:CC).length+([]:EN).length+Qei<30))=true:=by rfl)
  (c:Qde:=by rfl) (d:Qaz:=by exact aY rfl) (n:(backTo pos (starEach [] X.env)).any (·.1)=false:=by rfl) :
  bG X CL b (.Call (.Attribute o "index" apos) [e] [] pos) δ (.sh Qxt) δ2:=λH Z U ts vs Q S k=>
 bM (r9 (T:="list") (id:="list.index") F.plainAttrs_list F.slot_list_index F.type_list_index N8 bZ Qje v s c d n) (h1 H Z U ts vs _ S λv1 H1 Z1 h k1 z r=>by
  obtain⟨a,us,rfl,f,p⟩:=r.i9;have:=p.strs;subst this;refine#[?_,u H1 Z1 U ts vs _ z λv2 H2 Z2 g k2 w q=>?_]
  .exact .inl #[rfl,_,f]
  .cases q;exact#[a,l,y,j,rfl,rfl,k2.seq f,t,m,k _ H2 Z2 QeT Qag (w.push Qbx)])
noncomputable def EH{α:Type}(aU:Qpt)(k:EO):Option α:=(aU.find? λa=>decide Qgj).map (·.2)
def Sy{α:Type}{p:Qf1}{r:Qpt}{k:EO}(e:p.1=k):EH (p::r) k=some p.2:=by simp[EH,e]
def Sz{α:Type}{p:Qf1}{r:Qpt}{k:EO}(e:¬ p.1=k):EH (p::r) k=EH r k:=by simp[EH,e]
theorem nI.length{aU:Da}{gs:Bn}(h:nI K CL Z aU gs):aU.length=gs.length:=
 nI.ind (P:=λaU gs=>aU.length=gs.length) rfl (λ_ _ i=>congrArg (· + 1) i) h
theorem fP.length{aU:Cl}{gs:Bn}{fp:BN}(h:QvF):aU.length=gs.length:=
 fP.ind (P:=λaU gs _=>aU.length=gs.length) rfl (λ_ _ i=>congrArg (· + 1) i) h
def N9:bootBuiltins "set" = some QiY:=by decide +kernel
def SD{op a:CmpOp}{f g:QvY}{i j k:Int}(s:nG X QpX (WK λi j=>.bl (f i j)))(v:nG X (compareOp a) QxR)(h1:QaY)(u:Qa5)(t:bT X CL b e3 δ2 QdD δ2)(hm:lastMarks [op,a] [e2,e3]=false) :
  kX X CL b Qr6 δ (f i j&&g j k) δ2/\bG X CL b Qr6 δ (.sh (.bl (f i j&&g j k))) δ2:=by
 constructor
 .intro H Z U ts vs Q S q;refine se (Rg s v bZ bZ bZ hm) (h1 H Z U ts vs _ S λv1 H1 Z1 d k1 p n=>u H1 Z1 U ts vs _ p λv2 H2 Z2 c k2 e m=>?_);rw[n.sc rfl,m.sc rfl];refine#[i,j,rfl,rfl,f i j,rfl,?_];cases hf:f i j with
  | false=>exact ite_ff #[false,rfl,by rw[hf]at q;exact q H2 Z2 QeU Qag e]
  | true=>
   refine ite_tt (t H2 Z2 U ts vs _ e λw r Z3 h k3 o l=>?_);rw[l.sc rfl];exact#[j,k,rfl,rfl,g j k,rfl,by rw[hf]at q;exact q r Z3 ((d.trans c).trans h) ((k1.trans k2).trans k3) o]
 .intro H Z U ts vs Q S q;refine bM (Rf s v bZ bZ bZ hm) (h1 H Z U ts vs _ S λv1 H1 Z1 d k1 p n=>u H1 Z1 U ts vs _ p λv2 H2 Z2 c k2 e m=>?_);rw[n.sc rfl,m.sc rfl];refine#[i,j,rfl,rfl,f i j,rfl,?_];cases hf:f i j with
  | false=>exact ite_ff (by rw[hf]at q;exact q _ H2 Z2 QeU Qag (e.push Qb0))
  | true=>
   refine ite_tt (t H2 Z2 U ts vs _ e λw r Z3 h k3 o l=>?_);rw[l.sc rfl];exact#[j,k,rfl,rfl,by rw[hf]at q;exact q _ r Z3 ((d.trans c).trans h) ((k1.trans k2).trans k3) (o.push Qb0)]
def SG{d:Nat}(h:bT X CL b e1 δ .non δ1):kX X CL b Qku δ true δ1/\bG X CL b Qku δ (.sh QaV) δ1:=by
 constructor
 .exactλH Z U ts vs Q S k=>se (BJ (Hq bZ)) (h H Z U ts vs _ S λv H1 Z1 a k1 c r=>by
   cases r;exact#[_,rfl,by simpa using k H1 Z1 a k1 c])
 .exactλH Z U ts vs Q S k=>bM (Q0 (Hq bZ)) (h H Z U ts vs _ S λv H1 Z1 a k1 c r=>by
   cases r;exact by simpa using k _ H1 Z1 a k1 (c.push QaV))
def kL(ns:AT)(i:Nat)(q:Str):Bool:=decide (q∈ns.take i)
def SJ(prog:Q2)(w:World)(a:Addr)(n:Nat)(h:Heap):Prop:=∃S,h.SetOf QcJ a S n
theorem Cv:jB X QmH (λxs H Q=>∃(p:Addr) (n:Nat),xs=[.ref p]/\H p=some (.ext (SJ X.prog X.w p n))/\n<=1000/\Q QdA H):=by
 intro pins s U H xs us Q I r h;obtain⟨p,n,rfl,b,hn,q⟩:=h;obtain⟨u,rfl,a⟩:=vals1 r;cases a;obtain⟨⟨S,o,es,ep,t,e,ex,c,_,_,_,hf,en⟩,_,_⟩:=I.bW p _ b;exact call_len_set e ex c hf (by rw[en];lia) #[.int n,H,I.tok _,#[s.toks+1,by rw[en]],q]
def Oa(h:aL K CL Z (l.map D.str) us):us=l.map V.str:=by
 refine aL.ind (P:=λds us=>∀l:AT,ds=l.map D.str->us=l.map V.str) ?_ ?_ h l rfl
 .intro l e;cases l with
  | nil=>rfl
  | cons _ _=>cases e
 .intro d ds v vs r _ a l e;cases l with
  | nil=>cases e
  | cons x l=>
   obtain⟨e1,e2⟩:=hE e;subst e1;cases r;rw[a l e2];rfl
variable{aU:CI}
theorem ac4(k:Key)(m:Qd7)(h1:QtH)(i:QxT)(hm:QhW) :
  bG X CL b Qdf δ (.sh (.bl (kF aU k).isSome)) δ2:=λH Z U ts vs Q S kk=>
 bM (Q0 (acq We bZ bZ) hm) (h1 H Z U ts vs _ S λv H1 Z1 d k1 l g=>i H1 Z1 U ts vs _ l λv2 H2 Z2 c k2 j f=>by
  cases f with
  | @iY a gs _ h e=>
   refine#[a,i7 gs k,rfl,by rw[g.key];exact vO.k h,?_];rw[yh e];exact kk _ H2 Z2 QeU Qag Qm4)
theorem A9{K:Frag}{CL:BM}{H Z:Hp}:∀us:BY,aS K CL H Z QhD us []
 | []=>.nil
 | u::us=>.cons (fp:=[]) (gp:=[]) (.sh (.val u)) (A9 us)
theorem uc{K:Frag}{CL:BM}{H Z:Hp}:∀{ts:B2} {us:BY} {fp:BN} {b:B2} {a:BY} {gp:BN},aS K CL H Z ts us fp->aS K CL H Z b a gp->aS K CL H Z (ts++b) (us++a) QcZ
 | [],_,_,_,_,_,.nil,c=>c
 | _::_,_,_,_,_,_,.cons r d,c=>by
  rw[eJ];exact .cons r (uc d c)
variable{u:T}{a:Addr}
theorem bC.spread(S:bC K CL b H Z δ U (.lst tl::ts) QaW):∃a us,v=.ref a/\us.length=tl.length/\bC K CL b H Z δ U (.pin a (.lst QhD)::(tl++ts)) (.ref a::QjJ):=by
 obtain⟨fp,gp,e,r,nd,k⟩:=S.rep;cases r with
 | cons f d=>
  obtain⟨a,us,f4,rfl,rfl,g,c⟩:=f.i9;refine#[a,us,rfl,c.length.symm,#[fp,[a]++(f4++_),e,.cons (.pin (.lst g (A9 us))) (uc c d),?_,?_],S.bh,S.zz,S.zh,S.new,S.tp,S.tab]
  .exact nd
  .exact k
theorem bC.ac5(S:bC K CL b H Z δ U (.pin a (.lst QhD)::ts) (.ref a::vs)):H a=some QeR:=by
 obtain⟨fp,gp,e,r,nd,k⟩:=S.rep;cases r with
 | cons d n=>
  replace d:=d.Nk;obtain⟨c,d⟩:=d;cases c;obtain⟨_,ws,f4,c,g,l,i⟩:=d.i9;cases c;cases g;have:∀{us ws:BY} {f:BN},aS K CL H Z QhD ws f->ws=us:=by
   intro us
   induction us with
   | nil=>intro ws f h;cases h;rfl
   | cons u us j=>
    intro ws f h;cases h with
    | cons h1 m=>
     replace h1:=h1.El;obtain⟨rfl,h1⟩:=h1;cases h1;rw[j m]
  rw[l,this i]
section
variable{D:c6}
def K6(h:δ[i]? = some QaD)(q:t.ez=d)(k:cJ X CL b dP (δ.set i Qbs) D):cJ X CL b dP δ D:=λH Z U ts vs E S M=>by
 subst q;obtain⟨v,Z',_,z,a⟩:=S.KL h;exact k H Z' U ts vs E a.pop (M.mono z)
def EI:nG X QeC (λx y H Q=>∃a b ys,x=.ref a/\y=.ref b/\lK X.K H a []/\lK X.K H b ys/\Q Qgm H):=by
 intro pins s U H x y v u Q I j i h;obtain⟨a,b,ys,rfl,rfl,l,hb,q⟩:=h;cases j;cases i;obtain⟨its,k,p1,_⟩:=I.tuple l;obtain⟨p,r,p2,_⟩:=I.tuple hb;have e1:=k.wF.2 rfl;subst e1;obtain⟨⟨cls,dd,data,sl⟩,d,e,n,hd⟩:=id p1;obtain⟨⟨m,c,data2,o⟩,g,f,n2,hd2⟩:=id p2;simp only at e hd f hd2;subst e hd f hd2;exact concat_meets #[_,d,rfl] #[_,g,rfl] noFill_tuple_add seq_tuple_add FR FF (FK _ _)
   (tuple_addW0 a b #[] p.toArray n n2 dd c sl o rfl) #[d,g,.ref b,H,I,rfl,q]
def EJ(h1:QgT)(f:Qhu)(n2:Qpb)(j:Qg1) :
  bG X CL b QcG δ (.sh QiO) δ2:=by
 cases ds with
 | cons d ds=>exact Sl h1 f QjK n2 j
 | nil=>
   intro H Z U ts vs Q S k;exact bM (uZ EI bZ bZ) (h1 H Z U ts vs _ S λv1 H1 Z1 h k1 l=>f H1 Z1 U _ _ _ l λv2 H2 Z2 g k2 a=>by
    have e:=a.vQ;have i:=a.pop.vQ;obtain⟨_,_,rfl,m,o⟩:=i.kW;cases o;have c:=e;obtain⟨_,_,rfl,n,p⟩:=e.kW;exact#[_,_,_,rfl,rfl,aA.DY a.zh m,aA.DY a.zh n,k _ _ Z2 QeT Qag (a.pop.pop.push c)])
end
end L3
namespace L2
open PySem PySem.Spec PyProof.Rows
noncomputable abbrev mQ:B0:=[.type "ValueError",.type "Exception",.type "BaseException",.type "object"]
def p7(fr:Co)(h h':Heap):Prop:=∀b∈nF fr,∀o,h.get? b=some o->∃sl,h'.get? b=some {o with slots:=sl}
def iG(B:Heap)(l:Co)(e C:Addr)(d:Bi)(fl:Do)(h:Heap):Prop:=
 B.StaysIn h/\B.get? e=none/\h.FunFrames B l/\∃a vs,h.get? e=some a/\(a.cls=.ref C/\a.dict=d)/\a.data=.fields vs/\match fl with
  | none=>vs[1]? = some .none
  | some f=>∃T b ts,vs[1]? = some (.ref T)/\B.get? T=none/\T≠e/\h.get? T=some b/\b.data=.fields ts/\ts[3]? = some f
structure Lay(P:Q2)(w:World)(l:Co)(H:Hp)(h0:Heap)(H':Hp)(B h:Heap):Prop where
 bW:nU P w H' B
 keep:∀b o,h0.get? b=some o->H b=none->b∉nF l->B.get? b=some o
 free:∀b o,h0.get? b=some o->H b=none->H' b=none
 there:∀b o,h0.get? b=some o->b∉nF l->∃o',B.get? b=some o'
 nV:∀b xs,H b=some Qa2->H' b=some Qa2
 fK:∀b o u,H b=some QdL->H' b=some QdL
 nW:∀b ps,H b=some (.WD ps)->∃more,H' b=some QmW
 fr:p7 l h0 h
variable{H:Hp}{B h:Heap}
theorem Lay.un{P:Q2}{w:World}{l:Co}{h0:Heap}{H':Hp}{a:Heap}(y:Ql4)(st:B.StaysIn a)(fr:p7 l h0 a):Un (nF l) [] H H' h0 a:=
 #[λb o z n m _=>st b o (y.keep b o z n m),λb o z _ m _=>fr b m o z,λb o z n _=>y.free b o z n,λb o z _=>by
  by_cases m:b∈nF l
  .obtain⟨sl,w⟩:=fr b m o z;exact#[_,w]
  .obtain⟨o',w⟩:=y.there b o z m;exact#[o',st b o' w],y.nV,y.fK,y.nW]
def HY(P:Q2)(w:World):M0:=λouter H s E ev s'=>∃(e C:Addr) (d:Bi) (B:Heap) (H':Hp),ev=.ref e/\s'.os=s.os/\AllBare s'.gens/\iG B outer e C d QnW s'.heap/\Lay P w outer H s.heap H' B s'.heap/\E QU d H'
def XE(X:Cx)(W:XK):Value->Shared->Prop:=λev s'=>∃(e C:Addr) (d:Bi) (pins:At) (U:St) (H H':Hp) (s:Qb) (B:Heap) (fl:Do),ev=.ref e/\Inv X pins U H s/\W QU d H'/\s'.os=s.os/\AllBare s'.gens ∧
 Lay X.prog X.w X.stack H s.heap H' B s'.heap/\iG B X.stack e C d fl s'.heap
theorem p7.up{fr:Co}{h1 c base:Heap}(a:p7 fr h h1)(f:h1.FunFrames base fr)(u:h1.UpToSlots c):p7 fr h c:=λb hb o g=>by
 obtain⟨sl,e⟩:=a b hb o g;obtain⟨_,o',d,hd⟩:=f.mem hb;rw[e]at d;cases d;obtain⟨i,e2⟩:=u b _ e hd;exact#[i,e2]
variable{M:Model}{A:Qaj}{E:BB}{s:Qb}{l outer:Co}{env:Env}{e C L:Addr}{d:Bi}{fl:Do}{f:Value}{Q:Dx}
theorem iG.there(x:Qm1):∃a,h.get? e=some a/\a.cls=.ref C/\a.dict=d:=by
 obtain⟨_,_,_,b,_,he,c,_⟩:=x;exact#[b,he,c]
theorem HZ{a:Addr}{o:Obj}{vs:D1}{g:D1->D1}(he:h.get? a=some o)(hd:o.data=.fields vs) :
  (∀b,b≠a->(h.update a QmF).get? b=h.get? b)/\h.UpToSlots (h.update a QmF):=by
 have k:∀b,b≠a->(h.update a QmF).get? b=h.get? b:=λb ne=>Heap.get?_update_other _ _ ne.symm;refine#[k,λb c q nf=>#[ _,(k b λz=>?_).trans q]];simp_all
theorem iG.yj(x:Qk7)(o:Bi)(q:∀h',iG B l e C d QqV h'->s.heap.UpToSlots h'->Q () {s with heap:=h'}):wpAny M A (setFlight QaE o) Q E s:=by
 obtain⟨k1,k2,k3,h,vs,he,i,hd,T,m,ts,h1,hn,ne,g,a,j⟩:=x;obtain⟨lt,_⟩:=wo.1 j;refine eh (oD he hd h1 ?_);obtain⟨k,u⟩:=HZ g a;refine wpAny_setField g a lt (q _ #[λb c z=>(k b λy=>?_).trans (k1 b c z),k2,k3.of_keeps λb c z nf=>?_,h,vs,(k e ne.symm).trans he,i,hd,T,_,_,h1,hn,ne,vx _ g (Obj.isFreed_of_fields (Obj.data_mapFields a _)),Obj.data_mapFields a _,by simp[lt]] u)
 .lia
 .obtain⟨sl,z⟩:=u b c z nf;exact#[_,z,rfl]
theorem iG.xl{m:QaS}(x:Qk7)(o:Bi)(q:∀h',iG B l e C d QqV h'->s.heap.UpToSlots h'->Q () {s with heap:=h'}):wpAny M A (do
   if (← field QaE 1) == .none then unsupported m
   setFlight QaE o) Q E s:=by
 obtain⟨_,_,_,a,vs,he,g,hd,T,c,ts,h1,r⟩:=id x;refine eh (oD he hd h1 ?_);exact x.yj o q
theorem FX{g:Obj}{vs:D1}{head:Value}{j:Bool}(l:QwR)(hf:env.frame=some L)(k1:B.StaysIn s.heap)(k2:B.get? e=none)(k3:s.heap.FunFrames B QeJ)(he:s.heap.get? e=some g)(i:g.cls=.ref C/\g.dict=d)(hd:g.data=.fields vs)(lt:1<vs.size)
  (q:∀h',iG B QeJ e C d Qyi h'->s.heap.UpToSlots h'->Q () {s with heap:=h'}) :
  wpAny M A (do let a ← frameOf env;let I ← entryPlaceOf L j;let b ← EntryCells.newEntry head a .none QvG .none I;setField QaE 1 b) Q E s:=by
 have nf:∀{b:Addr} {o:Obj},b∈nF QeJ->s.heap.get? b=some o->b≠e:=λ{b o} hb z y=>by
  obtain⟨_,p,m,n⟩:=k3.mem hb;simp_all
 refine eh (wpAny_frameOf_fun l k3 hf λh1 h=>eh (wpAny_entryPlaceOf λI hpl=>?_));refine eh (wpAny_newObj_type ?_ (hpl.sizeOk5 _ _ _ _ _));have f:=(h.2.1 e λz=>nf z he rfl).trans he;have st:B.StaysIn h1:=λb o z=>(h.2.1 b λy=>by rw[(k3.mem y).1]at z;cases z).trans (k1 b o z);have c:=f7 {cls:=.type "traceback",dict:=none,data:=.fields ([head,.ref L,.none,rawInt L,.none]++(if I.isEmpty then List.replicate 6 Value.none else I)).toArray} f;obtain⟨k,u⟩:=HZ c hd;have neT:=Nat.ne_of_gt (fv f);have dd:=Obj.data_mapFields hd (·.setIfInBounds 1 (Value.ref h1.objs.size));have u0:s.heap.UpToSlots h1:=λb o z _=>h.2.2 b o z;have u1:=u0.trans ((Heap.UpToSlots.of_keeps λb o z=>f7 _ z).trans u);refine wpAny_setField c hd lt (q _ #[λb o z=>(k b λy=>?_).trans (f7 _ (st b o z)),k2,k3.of_keeps λb o z n=>?_,_,_,vx _ c (Obj.isFreed_of_fields dd),#[(Obj.cls_mapFields _ _).trans i.1,?_],dd,_,_,_,by simp[lt],st.fresh,neT,(k _ neT).trans (hX h1 rfl),rfl,?_] u1)
 .lia
 .obtain⟨sl,z⟩:=u1 b o z n;exact#[_,z,rfl]
 .rw[<- i.2];unfold Obj.mapFields;split<;>rfl
 rfl
theorem iG.note{a:Env}(x:iG B QeJ e C d fl s.heap)(j:QwR)(hf:env.frame=some L)(p:a.frame=env.frame)(q:∀h',iG B QeJ e C d Qyi h'->s.heap.UpToSlots h'->Q () {s with heap:=h'}) :
  wpAny M A (noteFrame QaE a) Q E s:=by
 have m:noteFrame QaE a=noteFrame QaE env:=by unfold noteFrame PySem.frameOf;rw[p]
 rw[m];obtain⟨k1,k2,k3,t,vs,he,h,hd,r⟩:=id x;unfold noteFrame;simp only[hf];cases fl with
 | none=>
  refine eh (oD he hd r ?_);exact FX j hf k1 k2 k3 he h hd (wo.1 r).1 q
 | some f=>
  obtain⟨T,v,ts,h1,hn,ne,c,g,i⟩:=r;refine eh (oD he hd h1 ?_);refine eh (oD c g i ?_);by_cases w:(f==rawInt L)=true
  .rw[ee w];refine fo (q _ ?_ QF);simp_all
  .rw[cq w];obtain⟨k,u⟩:=HZ c g;refine eh (wpAny_setField c g (wo.1 i).1 ?_);refine FX j hf (λb o z=>(k b λy=>?_).trans (k1 b o z)) k2 (k3.of_keeps λb o z n=>?_) ((k e ne.symm).trans he) h hd (wo.1 h1).1 λl f2 u2=>q l f2 (u.trans u2)
   .lia
   .obtain⟨sl,z⟩:=u b o z n;simp_all
section
variable{X:Cx}{pins:At}{U:St}
theorem Inv.ac7(I:QK):nU X.prog X.w H QhE:=λa o e=>by
 refine(I.bW a o e).qV (λb u hb q=>nz _ q λhm=>?_) (λb q=>q) (λb xs q=>q);have hn:=I.rS b hm;simp_all
theorem Inv.ac8(I:QK):s.heap.FunFrames QhE X.stack:=funFrames_hide I.stack λenv he a b=>o7.2 #[env,he,b]
theorem Lay.up{P:Q2}{w:World}{H':Hp}{h0 h':Heap}(y:Ql4)(f:Qm1)(u:h.UpToSlots h'):Lay P w l H h0 H' B h':=#[y.bW,y.keep,y.free,y.there,y.nV,y.fK,y.nW,y.fr.up f.2.2.1 u]
theorem ac9{W:XK}{ev:Value}{s':Qb}{x:BB}(a:QbR)(y:QbP)(hex:X.ex=[])(c:X.fs=nF X.outer)(h:XE X W ev s') :
  wpAny QE X.A (leaving X.env ev) (λ_ r=>HY X.prog X.w X.outer X.iB X.eI W ev r) x s':=by
 obtain⟨e,C,d,pins,U,H,H',s,B,fl,rfl,I,hw,l,p,hm,g⟩:=h;have t:X.A.frames=some QiH:=by rw[I.ok.frames,a]
 have f0:=g;rw[a]at g;refine eh (g.note t y rfl λh1 f1 u1=>f1.yj _ λf f2 u2=>?_);have m2:=hm.up f0 (u1.trans u2);have nx:∀{b:Addr},b∉X.ex:=λ{b} z=>by grind
 have low:∀{b:Addr} {o:Obj},X.eI.heap.get? b=some o->b∉nF X.outer->b∉nF _:=λ{b o} z n m=>by
  obtain w|w:=eg.1 (I.xK b m)
  .have h1:=fv z;have f:=I.ok.above;rw[<- w]at f;exact absurd h1 (Nat.not_lt.2 f)
  simp_all
 refine#[e,C,d,B,H',rfl,l.trans I.os,p,#[f2.1,f2.2.1,f2.2.2.1.2.2,f2.2.2.2],#[m2.bW,λb o z n m=>m2.keep b o (I.base.keep b o z n (c▸m) nx) QtI (low z m),λb o z n=>?_,λb o z m=>?_,λb xs z=>m2.nV b xs (I.base.nV b xs z),λb o u z=>m2.fK b o u (I.base.fK b o u z),λb ps z=>?_,λb hb o k=>?_],hw]
 .obtain⟨o',w⟩:=I.base.there b o z nx;exact m2.free b o' w QtI
 .obtain⟨o',w⟩:=I.base.there b o z nx;exact m2.there b o' w (low z m)
 .obtain⟨m1,e1⟩:=I.base.nW b ps z;obtain⟨j,e2⟩:=m2.nW b _ e1;exact#[m1++j,by simp_all ]
 .obtain⟨sl,q⟩:=I.base.slot b o k (I.ok.WH b ‹_›) ‹_› nx;obtain⟨v,i⟩:=m2.fr b (by simp_all [a,nF,hb]) _ q;exact#[v,i]
def K7{W:XK}(a:QbR)(i:QbP):PassesOwn QE X.A X.env (XE X W):=λev s' h=>by
 obtain⟨e,C,d,pins,U,H,H',s,B,fl,rfl,I,hw,c,f,hm,b⟩:=h;have g:X.A.frames=some QiH:=by rw[I.ok.frames,a]
 have f0:=b;rw[a]at b;refine b.note g i rfl λh1 f1 u1=>?_;refine iG.xl f1 _ λj f2 u2=>?_;rw[<- a]at f2;exact#[e,C,d,pins,U,H,H',s,B,_,rfl,I,hw,c,f,hm.up f0 (u1.trans u2),f2]
structure mR(K:Frag)(C:Addr):Prop where
 ex:∃nm q N bs bm hdct sn sub ab col dd k0 k1 k2 k3 k5,K.lookup C=some Qee/\nsOkIn K N=true/\nsIn K N "__init__" = some none/\tailIn K mQ bm=true
theorem Sk{h':Heap}(I:QK)(hm:Heap.MadeExcOf s.heap h' e QU []):Lay X.prog X.w X.stack H s.heap H QhE h'/\iG QhE X.stack e C none none h':=by
 obtain⟨t,he,a,d⟩:=hm.there;refine#[#[I.ac7,λb o z _ m=>nz _ z m,λb o _ n=>n,λb o z m=>#[o,nz _ z m],λb xs z=>z,λb o u z=>z,λb ps z=>#[#[],‹_› ],λb _ o q=>#[ _,hm.keeps _ _ q]],λb o q=>hm.keeps b o (nu _ q),?_,I.ac8.of_keeps λb o q _=>#[o,hm.keeps b o q,rfl],_,_,he,WA,rfl,rfl];cases c:(hideAll _ _).get? e with
 | none=>rfl
 | some o'=>have:=nu _ c;rw[hm.new]at this;cases this
def Ob{W:XK}{x:Str}{np iP pos:Pos}{D:Ends}(j:QaH)(i:Qad)(hm:Qnv)(O:mR X.K C)(hw:W QU none H)(hd:AD x:=by decide) :
  L3.RK Qac (.Raise (some (.Call Qjg [] [] iP)) none pos) D U H:=λpins s I=>by
 have J:=I.dQ;obtain⟨nm,q,N,bs,bm,hdct,sn,sub,ab,col,dd,k0,k1,k2,k3,k5,g,c,f,d⟩:=O.ex;have tl:=tail_of_in J.lJ d;refine wpAny_Raise_call_subT (nm:=nm) (q:=q) (N:=N) (bs:=bs) (k0:=k0) (k1:=k1) (k2:=k2) (k3:=k3) (k5:=k5) (dd:=dd) (col:=col) (ab:=ab) (sub:=sub) (sn:=sn) (hdct:=hdct) x3 (tl.hasType rfl) (J.ok.hd j) rfl (PySem.W.nsMap_none_of_in J.lJ c f) (iC I i hm #[rfl,?_] hd);refine evalArgs_empty #[rfl,WA,J.lJ _ _ g,.of_isNs (isNs_of_in J.lJ c),tl,λh' e h=>?_];obtain⟨a,b⟩:=Sk J h;exact#[e,C,_,pins,U,H,H,s,_,_,rfl,J,hw,rfl,J.bare,a,b]
structure Lies(X:Cx)(pins:At)(U:St)(H:Hp)(s:Qb)(H':Hp)(e C:Addr)(d:Bi)(B:Heap)(s':Qb):Prop where
 inv:Inv X pins U H s
 os:s'.os=s.os
 bare:AllBare s'.gens
 SN:iG B X.stack e C d QnW s'.heap
 lay:Lay X.prog X.w X.stack H s.heap H' B s'.heap
variable{H':Hp}{s':Qb}
theorem Lies.now(L:QkV):Inv X pins U H' s':=L.inv.JJ L.os (L.lay.un L.SN.1 L.lay.fr) (L.lay.bW.kept L.SN.1) L.bare λb z=>absurd z fw
theorem Lies.move(L:QkV){h':Heap}{t':Nat}(hf:iG B X.stack e C d QnW h')(u:s'.heap.UpToSlots h'):Lies X pins U H s H' e C d B {s' with heap:=h',toks:=t'}:=
 #[L.inv,L.os,L.bare,hf,L.lay.up L.SN u]
abbrev Cx.hand(X:Cx)(e:Addr):Cx:={X with A:=X.A.mark (some QaE),calm:=false}
theorem Inv.hand(I:QK)(e:Addr):Inv (X.hand e) pins U H s:=
 #[#[I.ok.mod,I.ok.kind,I.ok.glob,I.ok.blt,I.ok.above,I.ok.inj,I.ok.has,I.ok.mI,WA,I.ok.frames,I.ok.oe,I.ok.uu,I.ok.bs,I.ok.QY,I.ok.Ho,I.ok.MJ,I.ok.rR,I.ok.WH],I.os,I.bare,I.base,I.loc,I.cell,I.free,I.jA,I.pin,I.bW,I.len]
theorem Inv.ada(ok:X.Ok)(I:Inv (X.hand e) pins U H s):Inv X pins U H s:=#[ok,I.os,I.bare,I.base,I.loc,I.cell,I.free,I.jA,I.pin,I.bW,I.len]
def NP{Q:QlX}{h:Qiw}(f:QbR)(n:QbP)(L:QkV)
  (k:∀s3,Lies X pins U H s H' e C d B s3->wpAny QE X.A Qte Q E s3) :
  wpAny QE X.A (noteFrame QaE X.env) (λ_ b=>wpAny QE X.A (setFlight QaE none) (λ_ a=>wpAny QE X.A Qte Q E a) E b) E s':=by
 have m:X.A.frames=some QiH:=by rw[L.inv.ok.frames,f]
 have i:=L.SN;rw[f]at i;refine i.note m n rfl λp g l=>iG.yj g _ λo c j=>k _ ?_;rw[<- f]at c;exact L.move c (l.trans j)
end
variable{X:Cx}
abbrev Cx.pinned(X:Cx)(p:At):Cx:={X with pn:=X.pn++p}
theorem Cx.Ok.pinned(ok:X.Ok)(p:At):(X.pinned p).Ok:=#[ok.mod,ok.kind,ok.glob,ok.blt,ok.above,ok.inj,ok.has,ok.mI,ok.hd,ok.frames,ok.oe,ok.uu,ok.bs,ok.QY,ok.Ho,ok.MJ,ok.rR,ok.WH]
theorem Inv.Kk{pins:At}{U:St}(I:QK):Inv QwS [] U H s:=
 #[I.ok.pinned pins,I.os,I.bare,I.base,I.loc,I.cell,I.free,I.jA,(λp a=>I.pin p (by rw[f6]at a;exact a)),I.bW,I.len]
theorem Inv.SQ{pins p2:At}{U:St}(ok:X.Ok)(I:Inv QwS p2 U H s):Inv X pins U H s:=
 #[ok,I.os,I.bare,I.base,I.loc,I.cell,I.free,I.jA,(λp a=>I.pin p Qgu),I.bW,I.len]
end L2
namespace L3
open PySem PySem.Spec PyProof.Rows L2
abbrev Ex:=Str×Option CA
noncomputable abbrev xk(c:Str):Ex:=(c,none)
def QL(Z:Hp)(d:Bi):Option CA->Prop
 | none=>d=none
 | some fs=>∃dx,d=some dx/\Z dx=some (.xd fs)
variable{H:Hp}
theorem QL.iQ{Z Z':Hp}{d:Bi}{p:Qg4}(h:QL Z d p)(zh:Qfc)(tp:∀a o,H a=some o->fV o=true->Z' a=some o):QL Z' d p:=by
 cases p with
 | none=>exact h
 | some fs=>
  obtain⟨dx,e,q⟩:=h;exact#[dx,e,tp _ _ (zh _ _ q) rfl]
def fc(b:Bx)(E:XK)(C:Addr)(p:Qg4:=none):Prop:=∀(H' Z':Hp) (d:Bi),aA b.B H'->aA b.Z Z'->aA Z' H'->(∀a o,Z' a=some o->b.Z a=none->b.B a=none)->(∀a o,H' a=some o->fV o=true->Z' a=some o)->QL Z' d p->E QU d H'
variable{A:Type}
def qr(K:Frag)(CL:BM)(n:Nat)(arg:Qak)(Pre:Qae)(exc:QbN):Sp:=λvs H _ E=>
 ∃(W:Hp) (a:A),aA W H/\(∀c o,H c=some o->fV o=true->W c=some o)/\aL K CL W Qb1 vs/\(arg a).length=n/\Pre a/\iE CL W/\fc #[H,W] E Qdq (exc a).2
section
variable{X:Cx}{CL:BM}{b:Bx}{δ δ1 δ2:Ap}{e:Expr}{es:CC}{dP:CS}{D:c6}{x c:Str}{cx:Ex}{i:Nat}{pos pp:Pos}{W:XK}
def Cw{np iP:Pos}(d:QaH)(a:Gl X c)(hm:X.mg c=some QfZ)(O:mR X.K (CL c))(e:fc b W (CL c))(hd:AD c:=by decide) :
  cJ Qac CL b (.Raise (some (.Call (.Name c np) [] [] iP)) none pos::dP) δ D:=bR λH Z U ts vs E S M=>
 Ob d a hm O (e H Z none S.bh S.zz S.zh S.new S.tp rfl) hd
structure tm(X:Cx)(CL:BM)(x:Str)(k n:Nat){A:Type}(arg:Qak)(Pre:Qae)(exc:QbN):Prop where
 ex:∃f fd ps,eX X.prog X.w X.K X.mg X.base QfV k f fd ps Qtf/\X.mg x=some Qaq/\keepIn X.K Qaq=true/\Binds X.K fd ps []
 room:dJ k X.A
def Cy(X:Cx)(CL:BM)(b:Bx)(Z:Hp)(δ1:Ap)(ts:B2)(vs:BY)(C:Addr)(p:Qg4)(ev:Value)(s':Qb):Prop:=
 ∃(e:Addr) (d:Bi) (B:Heap) (pins:At) (U:L2.St) (H:Hp) (s:Qb) (H' Z':Hp),ev=.ref e/\Lies X pins U H s H' e C d B s'/\aA Z Z'/\bC X.K CL b H' Z' δ1 U ts vs/\QL Z' d p
def sx(X:Cx)(CL:BM)(b:Bx)(e:Expr)(δ:Ap)(c:Ex)(δ1:Ap):Prop:=
 ∀(H Z:Hp) (U:L2.St) (ts:B2) (vs:BY),bC X.K CL b H Z δ U ts vs->z9 QqL e U H λ_ _=>False
def LH(X:Cx)(CL:BM)(b:Bx)(st:CS)(δ:Ap)(c:Ex)(δ1:Ap):Prop:=
 ∀(H Z:Hp) (U:L2.St) (ts:B2) (vs:BY) (D:Ends),bC X.K CL b H Z δ U ts vs->Nm QqL st D U H
def Oc{U:L2.St}{Q:EQ}{E:BB}(a:Qg5)(h:Aa X es U H Q):Aa Qe1 es U H Q:=λpos pins s I=>
 hF (h pos pins s I.dQ) (λus s' ⟨vs,H',b,r,q⟩=>#[vs,H',b.d7 E,r,q]) λev s' z=>by rw[a]at z;exact z.elim
theorem bC.grown{K:Frag}{H' Z W W':Hp}{U:L2.St}{ts:B2}{vs:BY}(S:QaB)(e:QbM)(c:aA Z W)(ww:aA W W')(d:aA W' H')(new:∀a o,W' a=some o->W a=none->H a=none)
  (tp:∀a o,H' a=some o->fV o=true->W' a=some o):∃Z',aA Z Z'/\bC K CL b H' Z' δ U ts vs:=by
 obtain⟨Z',z,g⟩:=S.back e c ww d new tp Qgd l0 (λa f=>by cases f) Qas;exact#[Z',z,g.pop]
theorem Yh{k n:Nat}{arg:Qak}{Pre:Qae}{exc:QbN}{f:Addr}{fd:QaG}{ps:AT}{ds:BC}{dv:B0}{i:BY}(a:A)(T:Qg5)(z:eX X.prog X.w X.K X.mg X.base QfV k f fd ps Qtf)(G:Qcx)(hm:Qd0)(W:Qd1)(hb:Binds X.K fd ps dv)(L:Vals i dv)(hd:∀H ws,aL X.K CL H ds ws->aL X.K CL H Qb1 (ws++i))(hg:Qad)(h:DZ X CL b Qau δ ds δ1)(V:Pre a)(hn:Qb4)(R:AD x)(he:Qax)(hpl:QaU) :
  sx X CL b Qbb δ (exc a) δ1:=λH Z U ts vs S pins s I=>by
 have hA:Aa X Qau U H λus H1=>∃Z1,aA Z Z1/\bC X.K CL b H1 Z1 δ1 U ts vs/\aL X.K CL H1 ds us:=h H Z U ts vs _ S λus H1 Z1 l k1 g r=>#[Z1,l,g,r];refine nt (iC I hg hm ?_ R);refine we (h₀:=X.base) I.ok.mod.WG W (cR (Oc T hA pos pins s I) λus s1 zz=>?_) he hpl;obtain⟨ws,H1,j,r,Z1,l,g,J⟩:=zz;refine#[j.lJ,?_];have y:qr X.K CL n arg Pre exc (ws++i) H1 Qub (λcv d H'=>cv=.ref Qdq/\∃Z',aA Z Z'/\bC X.K CL b H' Z' δ1 U ts vs/\QL Z' d (exc a).2):=#[H1,a,.refl _,λ_ _ q _=>q,hd _ _ J,hn,V,g.Nq,λH' Z' d Y ww m nw tp pp=>#[rfl,by
  obtain⟨Z2,D,t⟩:=g.grown Y g.zh ww m nw tp;exact#[Z2,l.trans D,t,pp.iQ m t.tp]]]
 have o:Vals (ws++i) (us++dv):=r.append L;have p:=z.len _ _ _ _ y;rw[o.length]at p;refine kq (mN (z.run X.A X.stack s1 H1 #[us,[]] _ _ _ _ G j.dQ.W9 (hb s1 us j.lJ p) o y) λF s' c=>?_);cases F with
 | error ev=>
  obtain⟨e1,C,d,B,H',rfl,P,O,N,M,hC,Z',E,S'⟩:=c;cases hC;exact#[e1,d,B,pins,U,H1,s1,H',Z',rfl,#[j.dQ,P,O,N,M],E,S']
 | ok fl=>
  cases fl with
  | ret u=>
   obtain⟨v,H',_,_,_,_,_,q⟩:=c;exact q.elim
  | next=>exact False.elim c
  | brk=>exact False.elim c
  | cont=>exact False.elim c
def adb{k n:Nat}{arg:Qak}{Pre:Qae}{exc:QbN}(a:A)(d:Qg5)(F:QtT)(j:Qad)(h:QgY)(g:Pre a)(hn:Qb4:=by rfl)
  (c:AD x:=by decide) (he:Qax:=by exact aY rfl) (hpl:QaU:=by rfl) :
  sx X CL b Qbb δ (exc a) δ1:=by
 obtain⟨f,fd,ps,l,hm,i,hb⟩:=F.ex;exact Yh a d l F.room hm i hb .nil (λ_ ws r=>by rw[f6];exact r) j h g hn c he hpl
theorem sx.any{Z:Hp}{U:L2.St}{ts:B2}{vs:BY}{Q:VK}(h:Qvb)(S:QhO):z9 (X.d7 (Cy X CL b Z δ1 ts vs (CL cx.1) cx.2)) e U H Q:=λpins s I=>
 hF (h H Z U ts vs S pins s I) (λ_ _ ⟨_,_,_,_,q⟩=>q.elim) λ_ _ z=>z
def ade(h:Qvb)(a:QgE:=by rfl):LH X CL b Qm8 δ cx δ1:=λH Z U ts vs D S=>Np QoH (n8 (rW (X:=X.d7 (Cy X CL b Z δ1 ts vs _ _)) bZ a) (h.any S))
theorem Vn.pin{p:At}(h:Qa3):Vn QnX i x:=#[h.hi,h.hv,h.hd,h.iM]
theorem tm.pin{p:At}{k n:Nat}{arg:Qak}{Pre:Qae}{exc:QbN}(F:QtT):tm QnX CL x k n arg Pre exc:=#[F.ex,F.room]
theorem adf{body:CS}{h0:ExceptHandler}{c:Qiw}(a:Qg5)(h:cJ X CL b body δ {D with nx:=λδ2=>cJ X CL b dP δ2 D}):cJ X CL b (.Try body (h0::c) [] [] pos::dP) δ D:=bR λH Z U ts vs E S M pins s I=>by
 refine wpAny_Try_except (hF (h H Z U ts vs E S M pins s I) (λf s1 z=>?_) λev s1 z=>by rw[a]at z;exact z.elim);cases f with
 | next=>exact wpAny_execs_nil z
 | brk=>exact z
 | cont=>exact z
 | ret u=>exact z
end
end L3
namespace L2
open PySem PySem.Spec PyProof.Rows
structure jW(K:Frag)(D:Addr):Prop where
 ga:findIn K QaQ "__getattribute__" = some (some (.builtin "BaseException.__getattribute__"))
 gn:findIn K QaQ "__getattr__" = some none
 hd:hasDictIn K D=true
 fi:findIn K QaQ "__class__" = some (some Qft)
 sp:PySem.W.specialIn K Qft "__get__" = some (some QkA)
 tk:PySem.W.takesIn K Qft=some true
 mr:PySem.W.mroIn K D QiE=some true
 mb:PySem.W.mroIn K D Qh0=some true
def excAt(e D:Addr)(d:Bi)(h:Heap):Prop:=∃o,h.get? e=some o/\(o.cls=.ref D/\o.dict=d)/\∃vs,o.data=.fields vs
section
variable{prog:Q2}{w:World}{A:Qaj}{E:BB}{s:Qb}{K:Frag}{x D:Addr}{dE:Bi}
open PySem.W in
def EK{M:Model}{a:Value}{Q:Dx}(ty:Looks M s.heap QwT QaQ)(d:Looks M s.heap (isSubtype QaQ Qh0) true)(b:Q () s):wpAny M A (checkBuiltinCall "BaseException.__getattribute__" #[[.ref x,a],[]]) Q E s:=by
 obtain⟨f,gn,h,tk,os⟩:=s;have c:builtinKind "BaseException.__getattribute__" = some .slot:=by decide +kernel
 have e:splitId "BaseException.__getattribute__" = some ("BaseException","__getattribute__"):=by decide +kernel
 have g:=F.args_bexc_ga Qa9 a;simp only[checkBuiltinCall,c,e];refine eh ?_;unfold isInstance;refine eh (ty.at (d.at ?_))
 repeat (first|wp_step)
 exact b
open PySem PySem.Calls PyProof.Rows Builtin Builtin.ObjectAttr Builtin.Getset_descriptor PySem.W PySem.Builtin.ObjectAttr in
def Od{Q:Do->Shared->Prop}(O:jW K D)(X:QdZ)(d:excAt x D dE s.heap)(h:Q (some QaQ) {s with toks:=s.toks+1}):wpAny Qab A (getAttr? Qa9 "__class__") Q E s:=by
 obtain⟨c,gn,l,tk,os⟩:=s;obtain⟨ox,b,⟨i,_⟩,_⟩:=d;have ty:Looks Qab c QwT QaQ:=i▸(Looks.ld b).andThen .now;have f1:=looks_findIn (M:=model prog w) X O.ga;have f2:=looks_findIn (M:=model prog w) X O.gn;have f3:=looks_findIn (M:=model prog w) X O.fi;have f4:=looks_specialIn (M:=model prog w) X O.sp;have g:=looks_takesIn (M:=model prog w) X O.tk;have k:=looks_mroIn (M:=model prog w) X O.mr;have f:=looks_mroIn (M:=model prog w) X O.mb;have fd:Looks Qab c (find Qa9 QaQ "__class__") (.bind QkA Qft):=
  f3.andThen (f4.andThen ((show Looks Qab c (dataDescriptor? (some Qft) (some QkA)) (some (.builtin "getset_descriptor.__get__",.builtin "object.__class__")) from g.andThen .now).andThen (Looks.tag .now)))
 have e:=vr.ga.bind Qa9;have j:builtinKind "BaseException.__getattribute__" = some .slot:=by decide +kernel
 have m:splitId "BaseException.__getattribute__" = some ("BaseException","__getattribute__"):=by decide +kernel
 unfold getAttr? getAttrBy? getAttrBy;refine eh (wpAny_mkText (eh (wpAny_attempt (js (eh (ty.at (eh (f1.at ?_))))))));dsimp only;rw[cq (λq=>by rw[gm]at q;exact absurd q.2 Wl)];unfold getAttrByItsOwn hookBefore;rw[ee (show onTheHeap QaQ=true from rfl)];refine eh (f2.at ?_);refine eh (wpAny_attempt (js ?_));unfold callGetattribute;rw[cq Wp];unfold boundAndCalled;rw[e];refine eh (fo ?_);refine kq (sk vr.ga.plain F.entry_bexc_ga (EK ty f ?_));unfold Builtin.«object.__getattribute__»
 iterate 10 lk
 refine eh (fo (a:=("__class__":Str)) (eh (ty.at (eh (fd.at ?_)))));show wpAny _ _ (holding [_] (call _ [_,.ref x,.ref D]) >>= ret) _ _ _;refine eh (js (kq ?_));refine sk KF.slot_gs.plain KF.entry_gs (KF.slot_gs.check _ _ _ _ _ _ _ _ KF.type_class (KF.args_gs _ _ _) ?_);unfold Builtin.«getset_descriptor.__get__» descrGet;rw[dga_obj];refine eh (fo ?_);unfold descrGetter descrCheckInstance descrNameAndClass isInstance;simp only[KF.owner_class]
 repeat lk
 refine#[vT _ Wl,codeAny_builtin KF.entry_class ?_];unfold Builtin.«object.__class__» shownTypeOf
 repeat lk
 first|exact h|exact handed_on rfl h|exact fo (handed_on rfl (fo h))
theorem jW.there(O:jW K D):∃c d cd sl,K.lookup D=some #[c,d,.cls cd,sl]:=by
 obtain⟨cd,q,_⟩:=PySem.W.any_some O.hd;unfold clsIn at q;split at q
 .rename_i c d a sl e;exact#[c,d,a,sl,e]
 .cases q
def ER(O:jW K D):PySem.W.KitX K Qa9 QaQ (excAt x D dE):=by
 obtain⟨c,d,cd,sl,e⟩:=O.there;refine#[λ_ _ _ ⟨o,h1,g,_⟩=>g.1▸(PySem.W.Looks.ld h1).andThen .now,λ_ _ WG _ l i j s' k q=>?_,λh tp dd its n b WG a=>?_,Od O]
 .exact eh (wpAny_loadPart (k _ _ (WG _ _ e)) (fo q))
 .cases f:(Value.ref D==Value.ref tp) with
  | false=>rfl
  | true=>
   cases Value.ref.inj (ip.1 f);have z:=(WG _ _ e).symm.trans a;cases z
noncomputable def Ba:V->Bool
 | .ref _=>true
 | .ty _=>true
 | _=>false
def hP:V->Value
 | .ref a=>.ref a
 | .ty n=>.type n
 | _=>.none
def Bb{v:V}{u:Value}(a:Ba v=true)(r:Qcw):u=hP v:=by
 cases v<;>first|exact r|cases a
theorem Bc:∀{vs:BY} {us:B0},vs.all Ba=true->Vals vs us->us=vs.map hP
 | _,_,_,.nil=>rfl
 | _,_,a,.cons r t=>by
  rw[k4,gm]at a;rw[eM,Bb a.1 r,Bc a.2 t]
theorem Og{cs:B0}{t:Value}(h:∀c∈cs,kitOne K t c=some false):kitAny K t cs=some false:=by
 induction cs with
 | nil=>rfl
 | cons c r a=>
  unfold kitAny;rw[h c (eu ..)];exact a λz b=>h z Qbw
def Kj(K:Frag)(H:Hp)(D:Addr)(y:V)(bb:Bool):Prop:=
 (Ba y=true/\kitOne K QaQ (hP y)=some bb)\/∃tp vs,y=.ref tp/\lK K H tp vs/\vs.all Ba=true/\kitAny K QaQ (vs.map hP)=some bb
variable{X:Cx}
def SR:jB X Qs8 (λxs H Q=>∃(e D:Addr) (d:Bi) (y:V) (bb:Bool),xs=[.ref e,y]/\H e=some (.ext (excAt e D d))/\jW X.K D/\Kj X.K H D y bb/\Q (.bl bb) H):=by
 intro pins s U H xs us Q I r h;obtain⟨e,D,dE,y,bb,rfl,he,O,a,q⟩:=h;obtain⟨u,u2,rfl,i,b⟩:=r.two;cases (i);have fin:∀tk,EP X pins U Q _ _:=λtk=>#[.bl _,H,I.tok tk,rfl,q];have ex:=(I.bW e _ he).1;obtain⟨c,a⟩|⟨tp,vs,rfl,j,c,a⟩:=a
 .exact Bb c b▸nH (ER O) I.lJ ex a WA fin
 .cases (b);obtain⟨its,f,⟨o,g,cl,n,k⟩,_⟩:=I.tuple j;obtain⟨c0,l,t0,s0⟩:=o;subst cl k;rw[<- Bc c f]at a;exact PySem.W.kia_tup (ER O) I.lJ ex g a (λz=>nomatch z) fin
theorem fJ.got{P:Q2}{H:Hp}{h:Heap}{a:Addr}{o:HO}(x:QnN):∃u,h.get? a=some u:=by
 cases o with
 | lst xs=>obtain⟨_,_,_,_,z⟩:=x;exact#[_,z]
 | tup xs=>obtain⟨_,_,_,_,z,_⟩:=x;grind
 | dK aU=>obtain⟨_,_,_,_,_,_,_,z,_⟩:=x;grind
 | dT aU=>obtain⟨_,_,_,_,_,_,_,z,_⟩:=x;grind
 | set S n=>obtain⟨_,_,_,_,z,_⟩:=x;grind
 | ins C dx fs=>obtain⟨_,_,_,z,_⟩:=x;exact#[_,z]
 | own y=>exact x
 | xd fs=>obtain⟨_,⟨_,_,_,z,_⟩,_⟩:=x;grind
 | mi lo hi=>obtain⟨_,_,_,z⟩:=x;exact#[_,z]
 | ez b u=>exact#[_,x.1]
 | WD ps=>exact#[_,x]
 | tabs q=>obtain⟨_,z,_⟩:=x;simp_all
 | cod q=>obtain⟨_,_,_,z,_⟩:=x;exact#[_,z]
 | met f y=>exact#[_,x]
 | ext φ=>exact x.2.1
variable{pins:At}{U:St}{H H':Hp}{s':Qb}{e C:Addr}{B:Heap}
theorem Lies.fresh(L:QhB):s.heap.get? e=none:=by
 cases a:s.heap.get? e with
 | none=>rfl
 | some o=>
  obtain⟨o',z⟩:=L.lay.there e o a λhb=>by
   obtain⟨_,c,h1,d1⟩:=L.SN.2.2.1.mem hb;obtain⟨b,vs,d,_,d2,_⟩:=L.SN.2.2.2;grind
  rw[L.SN.2.1]at z;cases z
theorem Lies.no(L:QhB):H' e=none:=by
 cases a:H' e with
 | none=>rfl
 | some o=>
  obtain⟨u,z⟩:=(L.lay.bW e o a).got;rw[L.SN.2.1]at z;cases z
theorem Lies.taken(L:QhB)(hex:X.ex=[]):Inv X pins U Qx7 s':=by
 have I:=L.now;have J:=L.inv;have fr:=L.fresh;have no:∀{b:Addr} {o:Obj},s.heap.get? b=some o->b≠e:=λ{b o} q z=>by simp_all
 have up:∀{b:Addr},b≠e->upd H' e QqW b=H' b:=λ{b} q=>cq q;have keep:∀{b:Addr} {v:HO},H' b=some v->upd H' e _ b=some v:=λ{b v} q=>by
  rw[up λz=>by simp_all [L.no]];exact q
 obtain⟨_,_,_,r,h,d,i,l,_⟩:=L.SN;have first:∀{b:Addr} {o:Obj},X.eI.heap.get? b=some o->b≠e:=λ{b o} q=>by
  obtain⟨o',z⟩:=J.base.there b o q WF;exact no z
 refine#[I.ok,I.os,I.bare,#[I.base.keep,I.base.slot,λb o h1 y D=>up (first h1)▸I.base.free b o h1 y D,I.base.there,λb xs q=>keep (I.base.nV b xs q),λb o u q=>keep (I.base.fK b o u q),λb ps q=>?_],I.loc,I.cell,?_,λx c q=>?_,λp t=>?_,λa o q=>?_,I.len]
 .obtain⟨more,z⟩:=I.base.nW b ps q;exact#[more,keep z]
 .obtain⟨m,⟨E,_,_,j,_⟩,_⟩:=J.loc;exact up (no j)▸I.free
 .obtain⟨v,z⟩:=J.cell x c q;obtain⟨oc,n,_⟩:=z;exact up (no n)▸I.jA x c q
 .obtain⟨g,f,A⟩:=I.pin p t;refine#[g,?_,A];exact up (no (J.pin p t).1)▸f
 .by_cases w:a=e
  .subst w;rw[show upd H' a _ a=some _ from ee rfl]at q;cases q;exact#[#[r,d,i,h,l],#[r,d],λh1 y ⟨o,g,f⟩ k=>#[o,k _ g,f]]
  .rw[up w]at q;exact(I.bW a o q).qV WA (λb z=>keep z) (λb xs z=>keep z) λb u z=>keep z
theorem Yi{M:Model}{i:Nat}{x:Str}{ps:Pos}{Q:Dx}(I:QK)(P:QaX)(hi:X.N[i]? = some x)(O:X.env.kindOf x=some .local)
  (h:∀s2,Inv X pins (U.set i none) H s2->Q () s2):wpAny M A (do bindName X.env x .none;unbindBehindTheSuite X.env x ps) Q E s:=by
 obtain⟨m,hn,L⟩:=id I.loc;have F:(X.env.scope.kind == .class || (X.env.scope.kind == .module&&X.env.locals != X.env.globals))=false:=by rw[I.ok.kind];rfl
 have cn:=I.lj;have below:∀{b:Addr} {o:Obj},X.eI.heap.get? b=some o->b≠X.env.locals:=λ{b o} q=>hB (hW (fv q) I.ok.above);refine wpAny_nameGoes_keeps O hn F λh' v C f=>h _ #[I.ok,I.os,I.bare,#[λb o d e g B=>(f.2 b QoZ).trans (I.base.keep b o d e g B),λb o d e g B=>?_,I.base.free,λb o d e=>?_,I.base.nV,I.base.fK,I.base.nW],#[_,C,λj y w d e g=>?_],λy c q=>?_,I.free,I.jA,λp K=>?_,λa o q=>?_,by simpa using I.len]
 .obtain⟨sl,z⟩:=I.base.slot b o d e g B;exact#[sl,(f.2 b QoZ).trans z]
 .obtain⟨o',z⟩:=I.base.there b o d e;exact#[o',(f.2 b QoZ).trans z]
 .by_cases D:j=i
  .subst D;have R:=I.len▸(hH.1 hi).1;simp_all
  .rw[so (i8 D)]at e;obtain⟨u,r,z⟩:=L j y w d e g;refine#[u,r,?_];obtain⟨k,z⟩|⟨k,c,l,t⟩:=z
   .refine .inl #[k,?_];have:y≠x:=λq=>D (xM P d (q▸hi));simp_all
   .exact .inr #[k,c,l,t.sameBut f (cn y c l)]
 .obtain⟨w,z⟩:=I.cell y c q;exact#[w,z.sameBut f (cn y c q)]
 .obtain⟨l,t,G,J⟩:=I.pin p K;exact#[(f.2 p.1 G).trans l,t,G,J]
 .refine(I.bW a o q).qV (λc w n z=>(f.2 c ?_).trans z) WA WA;rintro rfl;obtain rfl|n:=n
  .rw[I.free]at q;cases q
  .rw[I.free]at n;cases n
def adh{Q:QlX}{x n:Str}{i:Nat}{p:Addr}{np ps:Pos}{b:Stmt}{a:CS}{rest:Qiw}(L:QhB)(hex:X.ex=[])(m:QaX)(hi:X.N[i]? = some n)
  (D:QuN) (y:Loc X.env.scope n) (hf:AM X n) (F:Qad) (hm:X.mg x=some Qbi) (u:exmOne X.K QU Qbi=some true)
  (k:∀s4,Inv X pins (U.set i (some QaE)) Qx7 s4->wpAny QE (X.hand e).A (execs (b::a) X.env) (λf s5=>∃l c o,Inv X l c o s5/\∀j,Inv X l (c.set i none) o j->Q f j) Qub s4)
  (hd:AD x:=by decide) :
  wpAny QE X.A (handleBy QaE X.env (.ExceptHandler (some Qjg) Qgo (b::a) ps::rest)) Q E s':=by
 have I:=L.now;obtain⟨O,g,d,_⟩:=L.SN.there;have LT:PySem.W.Looks QE s'.heap (typeOf QaE) QU:=d▸(PySem.W.Looks.ld g).andThen .now;refine wpAny_handleBy_cons (codeAny_handlers_test (iC (I.hand e) F hm ?_ hd)) (λq=>by cases q);apply(PySem.W.exm_one I.lJ LT u).here;refine codeAny_handlers_suite_as (L.SN.yj _ λP h r=>?_);refine rT ((L.move h r).taken hex) m hi y (v:=.ref e) rfl (λt G=>?_) hf;refine hF (k t G) (λf M z=>?_) WA;obtain⟨_,_,_,J,q⟩:=z;exact Yi J m hi D q
end
theorem aA.off{H H':Hp}{a:Addr}(h:QbM)(n:H' a=none):H a=none:=by
 cases q:H a with
 | none=>rfl
 | some o=>rw[h a o q]at n;cases n
end L2
namespace L3
open PySem PySem.Spec PyProof.Rows L2
section
variable{X:Cx}{CL:BM}{b:Bx}{δ δ1 δ2:Ap}{e e1 e2:Expr}{dP:CS}{D:c6}{x c:Str}{i:Nat}{pos pp:Pos}{W:XK}
def mS{v:V}{u:Value}(a:Qad)(hm:QoG)(r:Qcw)(hd:AD x:=by decide):bG X CL b Qat δ (.sh QcU) δ:=λH Z U ts vs Q S k=>bM (wA a hm r hd) Qq6
def K8{v:V}{u:Value}(a:Qad)(hm:QgB)(hv:Qmt)(r:Qcw)(hn:QgC:=by decide)(hd:AD x:=by decide):bG X CL b Qat δ (.sh QcU) δ:=λH Z U ts vs Q S k=>bM (Kp a hm hv r hn hd) Qq6
inductive SV(K:Frag)(C:Addr):L3.D->Bool->Prop
 | one {v:V} {bb:Bool}:Ba v=true->kitOne K QU (hP v)=some bb->SV K C QcU bb
 | non {vs:BY}:vs.all Ba=true->(∀v∈vs,kitOne K QU (hP v)=some false)->SV K C (.tup (vs.map .val)) false
theorem EV{K:Frag}{H:Hp}:∀{vs us:BY},aL K CL H (vs.map .val) us->us=vs
 | [],_,h=>by cases h;rfl
 | v::vs,_,h=>by
  cases h with
  | cons r t=>cases r;rw[EV t]
theorem SV.Nw{K:Frag}{C:Addr}{d:L3.D}{bb:Bool}{H:Hp}{y:V}(h:SV K C d bb)(r:bK K CL H d y):Kj K H C y bb:=by
 cases h with
 | one c b=>cases r;exact .inl #[c,b]
 | @non vs c b=>
  obtain⟨a,us,rfl,f,g⟩:=r.kW;cases EV g;refine .inr #[a,vs,rfl,f,c,Og λz e=>?_];obtain⟨v,hv,rfl⟩:=ef.1 e;exact b v hv
def jX{a C:Addr}{dE:Bi}{d2:L3.D}{bb:Bool}(g:Qtg)(O:jW X.K C)(hm:Qic)(j:QiD)(h:DZ X CL b [e1,e2] δ [.val Qah,d2] δ1)(l:SV X.K C d2 bb)
  (i:Qhk:=by exact aY rfl) (hpl:(backTo pos QlW).any (·.1)=false:=by rfl) :
  bG X CL b (.Call Qh3 [e1,e2] [] pos) δ (.sh (.bl bb)) δ1:=λH Z U ts vs Q S k=>
 bM (iD SR j hm boot_isinstance B5 (he:=i) (hpl:=hpl)) (h H Z U ts vs _ S λus H1 Z1 d k1 c r=>by
  cases r with
  | cons f r=>
   cases r with
   | cons e r=>
    cases r;cases f;exact#[a,C,dE,_,bb,rfl,c.zh _ _ (c.zz _ _ g),O,l.Nw e,k _ H1 Z1 d k1 (c.push Qb0)])
abbrev Bx.with(b:Bx)(a:Addr)(o:HO):Bx:=#[upd b.B a o,upd b.Z a o]
theorem dX{H:Hp}{a:Addr}{o:HO}(h:H a=none):aA H Qa8:=λc u q=>by
 rw[show upd H a o c=H c from cq We];exact q
def sE{H H':Hp}{a:Addr}{o:HO}(h:QbM):aA Qa8 (upd H' a o):=λc u q=>by
 by_cases z:c=a
 .rw[show upd H' a o c=some o from ee z];rw[show upd H a o c=some o from ee z]at q;exact q
 .rw[show upd H' a o c=H' c from cq z];rw[show upd H a o c=H c from cq z]at q;exact h c u q
theorem bC.with{K:Frag}{H Z:Hp}{U:L2.St}{ts:B2}{vs:BY}{a:Addr}{o:HO}(S:QaB)(n:H a=none)(hi:fV o=false):bC K CL Qoa (upd H a o) (upd Z a o) δ U ts vs:=by
 obtain⟨fp,gp,e,r,nd,k⟩:=S.rep;have h:=S.zh.off n;have ne:∀c u,H c=some u->c≠a:=λc u q z=>by grind
 have up:∀{J:Hp} {c:Addr},c≠a->upd J a o c=J c:=λ{J c} z=>cq z;have nf:∀c∈fp++gp,c≠a:=λc d=>by
  obtain z|z:=eB.1 d
  .obtain⟨u,q⟩:=e.there c z;simp_all
  .obtain⟨u,q⟩:=r.there c z;simp_all
 refine#[#[fp,gp,e.mono (dX h) λc d=>up (nf c (e6 _ d)),r.mono (dX h) λc d=>up (nf c (e4 _ d)),nd,λc d=>?_],sE S.bh,sE S.zz,sE S.zh,λc u g f=>?_,λc u g f=>?_,S.tab.mono (dX (S.zz.off h))]
 .exact#[(up (nf c d)).trans (k c d).1,(up (nf c d)).trans (k c d).2]
 .have z:c≠a:=λz=>by rw[show(b.with a o).Z c=some o from ee z]at f;cases f
  rw[up z]at g;rw[show(b.with a o).Z c=b.Z c from up z]at f;exact(up z).trans (S.new c u g f)
 .by_cases z:c=a
  .rw[show upd H a o c=some o from ee z]at g;grind
  .rw[up z]at g ⊢;exact S.tp c u g f
theorem bC.without{K:Frag}{H Z:Hp}{U:L2.St}{ts:B2}{vs:BY}{a:Addr}{o:HO}(S:bC K CL Qoa H Z δ U ts vs)(nb:b.B a=none)(h:b.Z a=none)(tb:iE CL b.Z):bC K CL b H Z δ U ts vs:=by
 obtain⟨fp,gp,e,r,nd,k⟩:=S.rep;refine#[#[fp,gp,e,r,nd,λc d=>#[(k c d).1,(dX nb).off (k c d).2]],(dX nb).trans S.bh,(dX h).trans S.zz,S.zh,λc u g f=>?_,S.tp,tb];by_cases z:c=a
 .exact z▸nb
 .exact(dX nb).off (S.new c u g (by rw[show(b.with a o).Z c=b.Z c from cq z];exact f))
theorem Meets.with{K:Frag}{Z:Hp}{ts:B2}{vs:BY}{a:Addr}{o:HO}{E:Ends}(M:Qh2)(n:Z a=none)(nb:b.B a=none)(c:b.Z a=none)(tb:iE CL b.Z):Meets K CL Qoa (upd Z a o) ts vs D E:=
 #[λ_ _ _ _ q S=>M.nx _ _ _ _ ((dX n).trans q) Qil,λ_ _ _ _ _ _ q S=>M.rt _ _ _ _ _ _ ((dX n).trans q) Qil,λ_ _ _ _ q S=>M.bk _ _ _ _ ((dX n).trans q) Qil,λ_ _ _ _ q S=>M.ct _ _ _ _ ((dX n).trans q) Qil]
theorem d8.unset{K:Frag}{H Z:Hp}{U:L2.St}{fp:BN}(e:Qio):∀{j:Nat},(δ[j]? = some none\/∃d,δ[j]? = some Qbs)->d8 K CL H Z (δ.set j none) (U.set j none) fp:=by
 induction e with
 | nil=>exactλ_=>.nil
 | skip q b=>
  intro j a;cases j with
  | zero=>exact .skip q
  | succ j=>exact .skip (b a)
 | @cons t v δ' U' f1 f2 rt re b=>
  intro j a;cases j with
  | zero=>
   obtain q|⟨d,q⟩:=a
   .cases q
   .cases q;cases rt;exact .skip re
  | succ j=>exact .cons rt (b a)
theorem bC.unset{K:Frag}{H Z:Hp}{U:L2.St}{ts:B2}{vs:BY}{j:Nat}(S:QaB)(a:δ[j]? = some none\/∃d,δ[j]? = some Qbs):bC K CL b H Z (δ.set j none) (U.set j none) ts vs:=by
 obtain⟨fp,gp,e,r,nd,k⟩:=S.rep;exact#[#[fp,gp,e.unset a,r,nd,k],S.bh,S.zz,S.zh,S.new,S.tp,S.tab]
theorem bC.xi{K:Frag}{H Z:Hp}{U:L2.St}{ts:B2}{vs:BY}{E:Ends}{d:Bi}{p:Qg4}(S:QaB)(M:Qh2)(h:QL Z d p):∃b1:Bx,bC K CL b1 H Z δ U ts vs/\Meets K CL b1 Z ts vs D E/\QL b1.Z d p:=by
 cases p with
 | none=>exact#[b,S,M,h]
 | some fs=>
  obtain⟨dx,rfl,l⟩:=h;cases q:b.Z dx with
  | some o=>
   have:=S.zz _ _ q;rw[l]at this;cases this;exact#[b,S,M,dx,rfl,q]
  | none=>
   have nb:=S.new _ _ l q;have at':∀{J m:Hp},aA J m->m dx=some _->aA (upd J dx (.xd fs)) m:=λ{J m} e g c u w=>by
    by_cases z:c=dx
    .subst z;rw[aR]at w;exact w▸g
    .rw[aB z]at w;exact e c u w
   obtain⟨fp,gp,e,r,nd,k⟩:=S.rep;have j:∀{Z2 H2:Hp} {δ2:Qe8} {t:L2.St} {i:B2} {f:BY},bC K CL (b.with dx (.xd fs)) H2 Z2 δ2 t i f->bC K CL b H2 Z2 δ2 t i f:=λ{_ _ _ _ _ _} a=>a.without nb q S.tab;refine#[ _,#[#[fp,gp,e,r,nd,λc s=>#[(k c s).1,?_]],at' S.bh (S.zh _ _ l),at' S.zz l,S.zh,λc u w n=>?_,S.tp,S.tab.mono (dX q)],#[λ_ _ _ _ q a=>M.nx _ _ _ _ q (j a),λ_ _ _ _ _ _ q a=>M.rt _ _ _ _ _ _ q (j a),λ_ _ _ _ q a=>M.bk _ _ _ _ q (j a),λ_ _ _ _ q a=>M.ct _ _ _ _ q (j a)],dx,rfl,aR]
   .rw[show(b.with dx _).B c=b.B c from aB λz=>by simp_all];exact(k c s).2
   .have z:c≠dx:=λz=>by
     subst z;rw[show(b.with c _).Z c=_ from aR]at n;cases n
    rw[show(b.with dx _).Z c=b.Z c from aB z]at n;rw[show(b.with dx _).B c=b.B c from aB z];exact S.new c u w n
theorem adi{body:CS}{n:Str}{T:Addr}{np hp:Pos}{m:Stmt}{j:CS}{rest:Qiw}{c:Ex}(kI:QbR)(D3:QbP)(aa:Qg5)(hex:X.ex=[])(nd:QaX)(nl:Ln X i n)(hk:QuN)
  (r:∀p,LH QnX CL b body δ c δ1) (hg:Qad) (hm:X.mg x=some (.ref T)) (hx:exmOne X.K (.ref Qm9) (.ref T)=some true) (hi:Qbl)
  (k:∀(a:Addr) (d:Bi) (C:Bx),C.Z a=some (.ext (excAt a Qm9 d))->QL C.Z d c.2->cJ Qoy CL C (m::j) (δ1.set i (some (.sh (.val Qah)))) {nx:=λδ2=>(δ2[i]? = some none\/∃d,δ2[i]? = some Qbs)/\cJ X CL C dP (δ2.set i none) D,rt:=λ_ _=>False})
  (hd:AD x:=by decide) :
  cJ X CL b (.Try body (.ExceptHandler (some Qjg) Qgo (m::j) hp::rest) [] [] pos::dP) δ D:=λH Z U ts vs E S M=>Np QoH λpins s I=>by
 refine wpAny_Try_except (hF (r pins H Z U ts vs {nx:=λ_ _=>False,rt:=λ_ _=>False} S [] s (I.Kk.d7 _)) (λf s1 z=>?_) λev s1 z=>?_)
 .cases f with
  | next=>obtain⟨_,_,_,q⟩:=z;exact q.elim
  | brk=>obtain⟨_,_,_,q⟩:=z;exact q.elim
  | cont=>obtain⟨_,_,_,q⟩:=z;exact q.elim
  | ret u=>obtain⟨_,_,_,_,_,q⟩:=z;exact q.elim
 .obtain⟨e,d,B,AJ,U',H1,s0,H',Z',rfl,L,Y,P,P'⟩:=z;obtain⟨b1,y,M',P1⟩:=P.xi (M.mono Y) P';refine NP (X:=X.pinned pins) kI D3 L λs3 L3=>?_;have hn:=L3.no;have R:=y.zh.off hn;have O:=y.bh.off hn;have w:=y.zz.off R;have S2:=((y.with (o:=.ext Qx3) hn rfl).push (v:=.ref e) (.val _)).set hi;have M2:=M'.with (o:=.ext Qx3) R O w y.tab;refine adh L3 hex nd nl.hi hk nl.loc nl.hf hg hm hx (λs4 I4=>?_) hd;have J:=(I4.SQ I.ok).hand e;have P2:QL (b1.with e (.ext (excAt e (CL c.1) d))).Z d c.2:=by
   revert P1
   unfold QL;cases c.2 with
   | none=>exact id
   | some fs=>exactλ⟨dx,W,V⟩=>#[dx,W,(dX w) _ _ V]
  have done:∀(g:L2.St) (l:Hp),(∃h t,aA _ t/\bC X.K CL _ l t h g ts vs/\(h[i]? = some none\/∃d,h[i]? = some Qbs)/\cJ X CL _ dP _ D) →
    Nm X dP E (g.set i none) l:=λg l ⟨h,t,G,F,A,q4⟩=>q4 l t _ ts vs E (F.unset A) (M2.mono G)
  have run:=k e d _ (ee rfl) P2 _ _ _ ts vs {nx:=λg l=>Nm X dP E (g.set i none) l,rt:=λ_ _=>False} S2 #[λh g l t G F A=>done g l #[h,t,G,F,A.1,A.2],WA,WA,WA ] pins s4 J;refine hF run (λf s5 z=>?_) We;cases f with
  | next=>
   obtain⟨g,l,I5,q⟩:=z;exact#[[],g,l,(I5.ada I.ok).Kk,λs6 I6=>#[_,_,I6.SQ I.ok,q]]
  | brk=>obtain⟨_,_,_,q⟩:=z;exact q.elim
  | cont=>obtain⟨_,_,_,q⟩:=z;exact q.elim
  | ret u=>obtain⟨_,_,_,_,_,q⟩:=z;exact q.elim
theorem Vn.hand{a:Addr}(h:Qa3):Vn Qoy i x:=#[h.hi,h.hv,h.hd,h.iM]
theorem Ln.hand{a:Addr}(h:Qbm):Ln Qoy i x:=#[#[h.hi,h.hv,h.hd,h.iM],h.loc,h.hf]
def adj{t:T}{pos':Pos}(nd:QaX)(n:Qbm)(h:QaC)(k:Qr3)(c:Qbl:=by exact ew rfl)(a:Qef:=by rfl) :
  cJ X CL b QkR δ D:=bR (HP i h k c nd n.hi n.loc a n.hf)
def nL:bootBuiltins "ValueError" = some QlT:=by decide +kernel
theorem SW{ds oz:BC}(h1:QgT)(i:Qhu)(o:Qg1) :
  bG X CL b QcG δ (.sh QiO) δ2:=by
 cases oz with
 | cons d oz=>exact EJ h1 i WA o
 | nil=>
  simp;cases ds with
  | cons d ds=>
   intro H Z U ts vs Q S k;exact bM (uZ BQ bZ bZ) (h1 H Z U ts vs _ S λv1 H1 Z1 g k1 j=>i H1 Z1 U _ _ _ j λv2 H2 Z2 f k2 a=>by
    have c:=a.vQ;have e:=a.pop.vQ;have q:=e;obtain⟨_,_,rfl,m,p⟩:=c.kW;cases p;obtain⟨_,_,rfl,l,n⟩:=e.kW;have e1:=n.length;refine#[_,_,_,_,rfl,rfl,aA.DY a.zh l,aA.DY a.zh m,(λz=>by simp_all),e1▸o,λ_=>k _ _ Z2 Qf8 Qag (a.pop.pop.push q),absurd rfl])
  | nil=>
   intro H Z U ts vs Q S k;exact bM (uZ EI bZ bZ) (h1 H Z U ts vs _ S λv1 H1 Z1 g k1 j=>i H1 Z1 U _ _ _ j λv2 H2 Z2 f k2 a=>by
    have c:=a.vQ;have e:=a.pop.vQ;obtain⟨_,_,rfl,l,n⟩:=e.kW;cases n;have h:=c;obtain⟨_,_,rfl,m,p⟩:=c.kW;exact#[_,_,_,rfl,rfl,aA.DY a.zh l,aA.DY a.zh m,k _ _ Z2 Qf8 Qag (a.pop.pop.push h)])
end
variable{prog:Q2}{w:World}{A:Qaj}{E:BB}{s:Qb}
def cD(ns:AT):Nat->Nat
 | 0=>0
 | i+1=>cD ns i+Qkj
theorem EW(ns:AT):∀i,cD ns i<=i
 | 0=>eA _
 | i+1=>by have:=EW ns i;unfold cD;split<;>lia
variable{a:Addr}{ns:AT}
theorem Oh{R:Qh8}{I:Addr}{items:D1}(V:A.in1.handled=none)(Y:a≠I){S:Addr}(l:S≠I)(G:S≠a)(hn:QvH)(hb:QwU)
  (hv:∀(i:Nat) (v:Value),items[i]? = some v->∃x t,ns[i]? = some x/\v=Value.str x t) :
  ∀(k i:Nat) (h:Heap) (tk:Nat),i+k=ns.length->h.IsListIter I a i->h.IsList a items->h.SetOf QcJ S (kL ns i) (cD ns i) →
   (∀h' c,(∀b o,b≠S->b≠I->h.get? b=some o->h'.get? b=some o)->h'.SetOf QcJ S QmL Qds->R Qvc {s with heap:=h',toks:=c}) →
   codeAny Qab A (.builtin "set.update.loop" #[[.ref S,.ref I],[]]) R {s with heap:=h,toks:=tk}:=by
 have W:=Walks.list (prog:=prog) (w:=w) (A:=A.in1) V I a Y items;have p:∀{h h':Heap} {f:Qoz} {n:Nat},(∀b o,b∉[I]->h.get? b=some o->h'.get? b=some o)->h.SetOf QcJ S f n->h'.SetOf QcJ S f n:=λg ⟨o,es,ep,t,U,r⟩=>#[o,es,ep,t,g S o (by simp[l]) U,r];intro k
 induction k with
 | zero=>
  intro i h tk hi hit D u H;have K:i=items.size:=by lia
  refine codeAny_builtin F.entry_set_update_loop ?_;rw[Around.under_plainId xI _];refine eh (m:=pyNext (.ref I)) (W.done {s with heap:=h,toks:=tk} _ _ #[K▸hit,D] λh' c g=>?_);refine fo (H h' c (λb o _ b2 e=>g b o (by simp[b2]) e) (p g ?_));rw[<- hn,<- K];rw[K]at u ⊢;exact u
 | succ k O=>
  intro i h tk hi hit D u H;refine codeAny_builtin F.entry_set_update_loop ?_;rw[Around.under_plainId xI _];refine eh (m:=pyNext (.ref I)) (W.item i {s with heap:=h,toks:=tk} _ _ We #[hit,D] λv h1 t1 z j g=>?_);obtain⟨x,t,y,rfl⟩:=hv i v z;have C:=p g u;have P:i<ns.length:=by lia
  have T:ns[i]=x:=(hH.1 y).2;have hle:=EW ns i;have E:ns.getD i Str.empty=x:=by rw[eD,y];rfl
  refine eh (m:=holding [Value.str x t] (setAdd S QoF)) (js ?_);unfold setAdd;refine js (eh ((strKind prog w).pyHash (k:=x) QuO ?_));refine wpAny_setAddHashed_of (knd:=strKind prog w) QuO rfl C We λJ N M=>?_;have B:J.SetOf QcJ S (kL ns Qai) (cD ns Qai):=by
   have ec:cD ns Qai=(if kL ns i x=true then cD ns i else cD ns i+1):=by
    show cD ns i+Qkj=_;rw[E];split<;>rfl
   have e:(λL=>kL ns i L || decide (L=x))=kL ns Qai:=by
    funext q;unfold kL;rw[iq,y,<- Bool.decide_or];exact oC.2 WA
   rw[<- e,ec];exact M
  have d:∀b o,b≠S->h1.get? b=some o->J.get? b=some o:=λb o hb e=>(N.2 b hb).trans e;refine fo #[plainId_quiet xI _,O Qai J _ We (j.1.at λo e=>d I o (i8 l) e) (j.2.at λo e=>d a o (i8 G) e) B λh' c X Z=>?_];exact H h' c (λb o b1 b2 e=>X b o b1 b2 (d b o b1 (g b o (by simp[b2]) e))) Z
theorem Cz{items:D1}{Q:BB}(I:QnO)(y:s.heap.IsList a items)(hn:QvH)(hb:QwU)
  (hv:∀(i:Nat) (v:Value),items[i]? = some v->∃x t,ns[i]? = some x/\v=Value.str x t)
  (L:∀h' tk,h'.SetOf QcJ s.heap.objs.size QmL Qds->(∀b o,s.heap.get? b=some o->h'.get? b=some o)->Q Qb9 {s with heap:=h',toks:=tk}) :
  wpAny Qab A (call QiY [.ref a]) Q E s:=by
 obtain⟨c,tl,X⟩:=lr.mro;have W:=lr.made;have V:=lr.sub;have U:=lr.notType;have T:=lr.canCreate;have P:=F.typeCall_set_1 Qah;refine kq (codeAny_of_tree (show wpAny _ _ (callAny QiY _) _ _ _ from fo #[vT _ Wl,codeAny_builtin F.entry_type_call ?_]));rw[Around.under_plain (weight_type_call_type "set" [.ref a] []) rfl]
 repeat (any_goals (first|assumption|wp_step))
 refine mN (code_set_new_1 Qah (E:=E) (Q₁:=λz g=>∃led:Bool,z=.ref s.heap.objs.size/\g={s with heap:=s.heap.push {cls:=.type "set",dict:=none,data:=.set #[] 0 Qce}}) λled=>#[led,rfl,rfl]) λr s1 l=>?_;cases r with
 | error e=>exact l
 | ok fl=>
  cases fl with
  | ret z=>
   obtain⟨led,rfl,rfl⟩:=l;have C:(s.heap.push {cls:=.type "set",dict:=none,data:=.set #[] 0 Qce}).get? s.heap.objs.size=some {cls:=.type "set",dict:=none,data:=.set #[] 0 Qce}:=hX _ rfl;have K:Shared.TypeIs {s with heap:=s.heap.push {cls:=.type "set",dict:=none,data:=.set #[] 0 Qce}} (.ref s.heap.objs.size) "set":=#[_,C,rfl];have O:=lr.init.lookup;have N:=lr.init.bind Qb9
   repeat (any_goals (first|assumption|wp_step))
   refine mN (sk (R:=wants (λr s2=>r=.none/\∃h' tk,s2={s with heap:=h',toks:=tk}/\h'.SetOf QcJ s.heap.objs.size QmL Qds/\∀b o,s.heap.get? b=some o->h'.get? b=some o) E) lr.init.plain F.entry_set_init (check_set_init_1 K ?body)) λG s2 d=>?back
   case back=>
    cases G with
    | error e=>exact d
    | ok fl=>
     cases fl with
     | ret z=>
      obtain⟨rfl,h',tk,rfl,f,m⟩:=d
      repeat (any_goals (first|assumption|wp_step))
      exact L _ _ f m
     | _=>exact d.elim
   case body=>
    have h0:=y;obtain⟨⟨oc,od,Z,os⟩,h,n,nl,M⟩:=y;cases n;cases M;have u:(s.heap.push {cls:=.type "set",dict:=none,data:=.set #[] 0 Qce}).get? a=some {cls:=.type "list",dict:=od,data:=.seq items nl,slots:=os}:=f7 _ h;have D:(s.heap.push {cls:=.type "set",dict:=none,data:=.set #[] 0 Qce}).IsList a items:=#[_,u,rfl,nl,rfl];have p1:=F.sub_list_set;have p2:=F.sub_list_frozenset;have Y:(Value.type "list" == Value.type "dict")=false:=by decide
    have B:a<s.heap.objs.size:=fv h;have k:(s.heap.push {cls:=.type "set",dict:=none,data:=.set #[] 0 Qce}).objs.size=s.heap.objs.size+1:=Heap.size_push ..;unfold Builtin.«set.__init__» noKeywords Builtin.Frozenset.updateFrom;generalize p:pyIter=PI
    wp_walk
    subst p;refine wpAny_pyIter_list D (eh (wpAny_runValue ?_));refine Oh (A:=A.in1.in1) (S:=s.heap.objs.size) (by simp[I]) (by rw[k];exact hB (Nat.lt_succ_of_lt B)) (by rw[k];exact hB (l6 _)) (Nat.ne_of_gt B) hn hb hv ns.length 0 _ _ Qwe #[_,hX _ rfl,rfl,rfl] (D.push _) ?_ λh' j H f=>?_
    .have J:((s.heap.push {cls:=.type "set",dict:=none,data:=.set #[] 0 Qce}).push {cls:=.type "list_iterator",data:=.fields (List.toArray [.ref a,.int 0 0])}).get? s.heap.objs.size=some {cls:=.type "set",dict:=none,data:=.set #[] 0 Qce}:=f7 _ C;exact SetOf_congr ((setObjOf_fresh (knd:=strKind prog w) led).setOf J (by unfold scanBound;lia)) (λq=>by unfold kL;simp) rfl
    .refine fo (fo #[rfl,h',j,rfl,f,λb o e=>H b o Qog ?_ (f7 _ (f7 _ e))]);rw[k];exact hB (Nat.lt_succ_of_lt (fv e))
  | _=>exact l.elim
variable{X:Cx}
theorem Ic(n:QaH):jB X QiY (λxs H Q=>∃(p:Addr) (ns:AT),xs=[.ref p]/\mE X.K H p Qxu/\ns.length<=1000/\∀l,H l=none->Q (.ref l) (upd H l (.ext (SJ X.prog X.w l Qds)))):=by
 intro pins s U H xs us Q I r h;obtain⟨p,ns,rfl,j,hn,q⟩:=h;obtain⟨u,rfl,c⟩:=vals1 r;cases c;obtain⟨its,b,f,A⟩:=I.list j;have m:its.length=ns.length:=by rw[<- b.length,ed]
 have hv:∀{ns:AT} {us:B0},Vals Qxu us->∀(i:Nat) (v:Value),us[i]? = some v->∃x t,ns[i]? = some x/\v=Value.str x t:=by
  intro ns
  induction ns with
  | nil=>intro us h i v e;cases h;cases i<;>cases e
  | cons y ns g=>
   intro us h i v e;cases h with
   | cons r d=>
    obtain⟨t,rfl⟩:=r;cases i with
    | zero=>cases e;exact#[y,t,rfl,rfl]
    | succ i=>exact g d i v e
 refine Cz (ns:=ns) (I.ok.hd n) f.isList (by rw[List.size_toArray,m]) (by unfold scanBound;lia) (λi v e=>hv b i v (by simpa using e)) λh' tk z ek=>?_;have a:SJ X.prog X.w s.heap.objs.size Qds h':=#[_,z];refine#[.ref s.heap.objs.size,_,I.laid (t':=tk) (o:=.ext (SJ X.prog X.w s.heap.objs.size Qds)) ek (eA _) #[a,?_,?_],rfl,q _ Qdo]
 .obtain⟨_,o,_,_,_,e,_⟩:=a;exact#[o,e]
 .rintro h1 B ⟨S,o,es,ep,t,e,rest⟩ k;exact#[S,o,es,ep,t,k o e,rest]
variable{CL:BM}{b:Bx}{δ δ1:Ap}{e:Expr}{pos pp pq pr:Pos}
def rD(g:Gx X)(hm:QgU)(d:X.mg "set" = none)(h:bT X CL b e δ (.lst (ns.map D.str)) δ1)(hn:ns.length<=1000)(u:QgV)(f:Gl X "set")(j:Qaz:=by exact aY rfl) :
  bG X CL b (.Call (.Name "len" pp) [.Call (.Name "set" pq) [e] [] pr] [] pos) δ (.sh QsU) δ1:=λH Z U ts vs Q S k=>
 bM (iD Cv u hm PySem.boot_len (bI (jM (Ic g.calm) f d N9 Qn7 (he:=j)) cQ (aY rfl)) (he:=aY rfl)) (h H Z U ts vs _ S λv H1 Z1 l k1 i r=>by
  cases r with
  | lst s n=>
  have x:=Oa n;refine#[_,ns,rfl,by rw[<- x];exact s,hn,λr p=>#[r,cD ns ns.length,rfl,aR,gr (EW ns ns.length) hn,?_]];have same:aA H1 (upd H1 r (.ext (SJ X.prog X.w r Qds))):=aA.upd p;obtain⟨Z',m,y⟩:=i.back (t:=.sh QsU) (v:=.int (cD ns ns.length:Nat)) (fp:=[]) (W:=Z1) (W':=Z1) same QF QF (i.zh.trans same) (λa o q z=>by rw[q]at z;cases z) (λa o q im=>by
   by_cases c:a=r
   .subst c;rw[aR]at q;cases q;cases im
   .rw[aB c]at q;exact i.tp a o q im) (.sh Qbx) l0 (λa c=>by cases c) Qay
  exact k _ _ _ (l.trans m) (k1.trans same) y)
theorem K9{ns:AT}:∀i,i<=ns.length->(cD ns i=i↔(ns.take i).Nodup)
 | 0,_=>by rw[List.take_zero];exact#[λ_=>l0,λ_=>rfl]
 | i+1,hi=>by
  have b:=K9 (ns:=ns) i We;have hle:=EW ns i;have d:ns[i]? = some (ns.getD i Str.empty):=by rw[eD,ft We];rfl
  rw[iq,d,Option.toList_some,hV,<- b];show cD ns i+Qkj=i+1↔_;unfold kL;by_cases z:ns.getD i Str.empty∈ns.take i
  .rw[ee (eC z)];refine#[λq=>by lia,λq=>absurd rfl (q.2.2 _ z _ QcR)]
  .rw[cq (λq=>z (er q))];refine#[λq=>#[We,iu.2 #[fw,l0],λa g c f e=>z ?_],λq=>by lia];rw[<- eL.1 f,<- e];exact g
def Ie:cD ns ns.length=ns.length↔ns.Nodup:=by
 have:=K9 (ns:=ns) ns.length (eA _)
 rwa [hR]at this
inductive EY where
 | ix (j:Nat)|fld (f:Str)|key (k:EO)
def Oj{α:Type}(k:EO)(t:α):List Qf1->List Qf1
 | []=>[]
 | (x,u)::r=>if x=k then(x,t)::r else(x,u)::Oj k t r
def T.core:T->T
 | .pin _ t=>t
 | t=>t
noncomputable def T.Ig:T->T->T
 | .pin y _,u=>.pin y u
 | _,u=>u
def T.lh:EY->T->Option T
 | .ix j,.lst ts=>ts[j]?
 | .ix j,.tup ts=>ts[j]?
 | .fld f,.ins _ fs=>fs.lookup f
 | .key k,.dct aU=>EH aU k
 | _,_=>none
def T.SY:EY->T->T->T
 | .ix j,.lst ts,u=>.lst (ts.set j u)
 | .ix j,.tup ts,u=>.tup (ts.set j u)
 | .fld f,.ins c fs,u=>.ins c (Ad f u fs)
 | .key k,.dct aU,u=>.dct (Oj k u aU)
 | _,t,_=>t
def T.oG:List EY->T->Option T
 | [],t=>some t.core
 | s::p,t=>(t.core.lh s).bind (T.oG p)
def T.ud:List EY->T->T->T
 | [],u,t=>t.Ig u
 | s::p,u,t=>match t.core.lh s with
  | some k=>t.Ig (t.core.SY s (T.ud p u k))
  | none=>t
def Yk(H:Hp)(v:V):EY->V->Prop
 | .ix j,w=>∃a us,v=.ref a/\(H a=some QeR\/H a=some QlK)/\us[j]? = some w
 | .fld f,w=>∃a C dx gs,v=.ref a/\H a=some (.ins C dx gs)/\gs.lookup f=some w
 | .key k,w=>∃a gs,v=.ref a/\(∃en,H a=some Qoq)/\i7 gs k=some w
def Ae(H:Hp):V->List EY->V->Prop
 | v,[],w=>v=w
 | v,s::p,w=>∃u,Yk H v s u/\Ae H u p w
variable{H H':Hp}{v:V}
theorem Yk.mono(e:QbM){w:V}{s:EY}(h:Yk H v s w):Yk H' v s w:=by
 cases s with
 | ix j=>obtain⟨a,us,h1,c,b⟩:=h;exact#[a,us,h1,c.imp QjO QjO,b]
 | fld f=>obtain⟨a,C,dx,gs,h1,c,b⟩:=h;exact#[a,C,dx,gs,h1,e _ _ c,b]
 | key k=>obtain⟨a,gs,h1,c,b⟩:=h;exact#[a,gs,h1,c.imp λ_ q=>e _ _ q,b]
theorem Yk.inj{w l:V}{s:EY}(h:Yk H v s w)(q:Yk H v s l):w=l:=by
 cases s with
 | ix j=>
  obtain⟨a,us,h1,c,n⟩:=h;obtain⟨o,d,g,b,m⟩:=q;subst h1;cases g;have e:us=d:=by
   obtain c|c:=c<;>obtain b|b:=b<;>rw[c]at b<;>cases b<;>rfl
  simp_all
 | fld f=>
  obtain⟨a,C,dx,gs,h1,c,n⟩:=h;obtain⟨o,r,p,i,g,b,m⟩:=q;grind
 | key k=>
  obtain⟨a,gs,h1,⟨_,c⟩,n⟩:=h;obtain⟨o,i,g,⟨_,b⟩,m⟩:=q;simp_all
theorem Ae.mono{H H':Hp}(e:QbM):∀{p:Qfi} {v w:V},Ae H v p w->Ae H' v p w
 | [],_,_,h=>h
 | _::_,_,_,⟨u,h,q⟩=>#[u,h.mono e,Ae.mono e q]
theorem Ae.inj{H:Hp}:∀{p:Qfi} {v w a:V},Ae H v p w->Ae H v p a->w=a
 | [],_,_,_,h,q=>h.symm.trans q
 | _::_,_,_,_,⟨_,h1,d⟩,⟨_,c,b⟩=>by
  have:=h1.inj c;subst this;exact Ae.inj d b
theorem Ae.snoc{H:Hp}{s:EY}:∀{p:Qfi} {v w z:V},Ae H v p w->Yk H w s z->Ae H v (p++[s]) z
 | [],_,_,z,h,q=>by
  have h':=h;subst h';exact#[z,q,rfl]
 | _::_,_,_,_,⟨u,h1,a⟩,q=>#[u,h1,Ae.snoc a q]
variable{K:Frag}{Z Z':Hp}{U:L2.St}{ts tl:B2}{vs us:BY}{t u t0:T}{v0 w:V}{fp:BN}{i:Nat}{p:Qfi}
theorem bL.S7(h:QgN):bL K CL H Z t.core v fp/\∀{H' Z':Hp} {u:T} {g:BN},bL K CL H' Z' u v g->bL K CL H' Z' (t.Ig u) v g:=by
 cases h with
 | pin r=>exact#[r,.pin]
 | sh r=>exact#[.sh r,λq=>q]
 | tup r q=>exact#[.tup r q,λq=>q]
 | lst r q=>exact#[.lst r q,λq=>q]
 | ins r q=>exact#[.ins r q,λq=>q]
 | iY r q=>exact#[.iY r q,λq=>q]
 | dct r q=>exact#[.dct r q,λq=>q]
 | B4 r q p=>exact#[.B4 r q p,λq=>q]
theorem cZ.at{f:Str}:∀(fs:B1) {gs:CA} {fp:BN},cZ K CL H Z fs gs fp->fs.lookup f=some t->∃w f1 f2 f3,gs.lookup f=some w/\fp=f1++Qdv/\bL K CL H Z t w f2 ∧
  ∀{H':Hp} {t':T} {g:BN},(∀a∈f1++f3,H' a=H a)->bL K CL H' Z t' w g->cZ K CL H' Z (Ad f t' fs) gs Qbt:=by
 intro fs
 induction fs with
 | nil=>intro gs fp h e;cases e
 | cons p fs j=>
  obtain⟨x,t0⟩:=p;intro gs fp h e;cases h with
  | @cons _ _ v _ vs f0 g0 r rs=>
   rw[hT]at e;cases b:f==x with
   | true=>
    rw[b]at e;cases e;have d:=(ip.1 b).symm;refine#[v,[],f0,g0,by rw[hT,b],rfl,r,λ{H' t' g} kk c=>?_];rw[Ad,ee d];exact cZ.cons (fp:=g) c (rs.mono QF λa i=>kk a (‹_›))
   | false=>
    rw[b]at e;obtain⟨w,f1,f2,f3,h1,m,l,k⟩:=j rs e;subst m;refine#[w,f0++f1,f2,f3,by rw[hT,b];exact h1,WA,l,λ{H' t' g} kk c=>?_];rw[Ad,cq (λz=>by grind),eJ];exact .cons (r.mono QF λa i=>kk a WF) (k (λa i=>kk a (by rw[eJ];exact e4 _ i)) c)
theorem fP.lh{k:EO}{aU:Cl}{gs:Bn}(h:QvF)(b:EH aU k=some t) :
  ∃v f1 f2 f3,i7 gs k=some v/\fp=f1++Qdv/\bL K CL H Z t v f2 ∧
   ∀{H':Hp} {t':T} {g:BN},(∀a∈f1++f3,H' a=H a)->bL K CL H' Z t' v g->fP K CL H' Z (Oj k t' aU) gs Qbt:=by
 refine fP.ind (P:=λaU gs fp=>EH aU k=some t->∃v f1 f2 f3,i7 gs k=some v/\fp=f1++Qdv/\bL K CL H Z t v f2 ∧
   ∀{H':Hp} {t':T} {g:BN},(∀a∈f1++f3,H' a=H a)->bL K CL H' Z t' v g->fP K CL H' Z (Oj k t' aU) gs Qbt) (λe=>by cases e) (λ{x t0 v0 ts vs fp gp} r d i b=>?_) h b
 by_cases e:x=k
 .rw[Sy e]at b;cases b;refine#[v0,[],fp,gp,n5 e,rfl,r,λ{H' t' g} c q=>?_];rw[Oj,ee e];exact(show fP K CL H' Z _ _ (g++gp) from .cons q (d.mono QF c))
 .rw[Sz e]at b;obtain⟨v,f1,f2,f3,h1,m,l,j⟩:=i b;refine#[v,_,f2,f3,by rw[lM e];exact h1,by rw[m,eJ],l,λ{H' t' g} c q=>?_];rw[Oj,cq e,eJ];exact .cons (r.mono QF λa f=>c a WF) (j (λa f=>c a (by rw[eJ];grind)) q)
theorem bL.lh{s:EY}{k:T}(zh:Qfc)(h:QgN)(e:t.lh s=some k):∃w f1 f2 f3,Yk H v s w/\fp=f1++Qdv/\bL K CL H Z k w f2 ∧
  ∀{H':Hp} {n:T} {g:BN},(∀c∈f1++f3,H' c=H c)->bL K CL H' Z n w g->bL K CL H' Z (t.SY s n) v Qbt:=by
 cases s with
 | ix j=>
  cases h with
  | @lst a us ts g b rs=>
   obtain⟨w,f1,f2,f3,h1,m,l,i⟩:=rs.at e;subst m;refine#[w,a::f1,f2,f3,#[a,us,rfl,.inl b,h1],rfl,l,λ{H' n g} kk d=>?_];have q:=i Qll d;rw[dS h1]at q;exact .lst ((kk a eu).trans b) q
  | @tup a us ts g b rs=>
   obtain⟨w,f1,f2,f3,h1,m,l,i⟩:=rs.at e;subst m;refine#[w,f1,f2,f3,#[a,us,rfl,.inr (zh _ _ b),h1],rfl,l,λ{H' n g} kk d=>?_];have q:=i kk d;rw[dS h1]at q;exact .tup b q
  | _=>cases e
 | fld f=>
  cases h with
  | @ins a dx c gs fs g b rs=>
   obtain⟨w,f1,f2,f3,h1,m,l,i⟩:=cZ.at fs rs e;subst m;refine#[w,a::f1,f2,f3,#[a,_,dx,gs,rfl,b,h1],rfl,l,λ{H' n g} kk d=>?_];exact .ins ((kk a eu).trans b) (i Qll d)
  | _=>cases e
 | key x=>
  cases h with
  | @dct a gs aU g en b rs=>
   obtain⟨w,f1,f2,f3,h1,m,l,i⟩:=rs.lh e;subst m;refine#[w,a::f1,f2,f3,#[a,gs,rfl,#[_,b],h1],rfl,l,λ{H' n g} kk d=>?_];exact .dct ((kk a eu).trans b) (i Qll d)
  | _=>cases e
theorem bL.focus(zh:Qfc):∀(p:Qfi) {t u:T} {v:V} {fp:BN},bL K CL H Z t v fp->T.oG p t=some u->∃w f1 f2 f3,Ae H v p w/\fp=f1++Qdv/\bL K CL H Z u w f2 ∧
  ∀{H':Hp} {a:T} {g:BN},(∀c∈f1++f3,H' c=H c)->bL K CL H' Z a w g->bL K CL H' Z (T.ud p a t) v Qbt
 | [],t,u,v,fp,h,e=>by
  obtain⟨h1,d⟩:=h.S7;cases e;exact#[v,[],fp,[],rfl,WA,h1,λ{H' a g} _ r=>by rw[f6];exact d r]
 | s::p,t,u,v,fp,h,e=>by
  obtain⟨h1,d⟩:=h.S7;rw[T.oG]at e;cases b:t.core.lh s with
  | none=>rw[b]at e;cases e
  | some k=>
   rw[b]at e;obtain⟨f,a1,a2,a3,z,y,x,o⟩:=h1.lh zh b;obtain⟨w,f1,f2,f3,m,l,j,i⟩:=bL.focus zh p x e;subst y l;refine#[w,a1++f1,f2,f3++a3,#[f,z,m],WA,j,λ{H' a g} kk n=>?_];rw[T.ud,b];have q:=d (o Qwf (i Qwf n));simpa [List.append_assoc] using q
theorem bC.Ih(S:QaB)(ev:U[i]? = some QdJ)(hi:δ[i]? = some QdK)(L:QnY)(M:Qg6):∃f2 gp,bL K CL H Z u w f2/\aS K CL H Z ts vs gp/\(f2++gp).Nodup ∧
  ∀{a:Addr} {o:HO} {v:T} {l:B2} {j:BY} {g m:BN},w=.ref a->a∈f2->fV o=false->bL K CL Qa8 Z v w g->aS K CL Qa8 Z l j m->(g++m).Nodup->(∀c∈g++m,c∈f2++gp) →
   bC K CL b Qa8 Z (δ.set i (some (T.ud p v t0))) U l j:=by
 obtain⟨fp,gp,e,r,nd,k⟩:=S.rep;obtain⟨v1,e1,e2,e3,hv,F,rt,put,_⟩:=e.get hi;rw[ev]at hv;cases hv;obtain⟨N,f1,f2,f3,at',hf,D,put2⟩:=rt.focus S.zh p L;have hw:=at'.inj M;subst hw;subst hf;subst F;have q:(Qwg++gp).Perm ((e1++QnJ)++(f2++gp)):=o8.2 λc=>by
  simp only[rp];lia
 have x:=q.nodup_iff.1 nd;have t:=hV.1 x;refine#[f2,gp,D,r,t.2.1,λ{a o v l j g m} G B hm I J y C=>?_];have n:∀c∈e1++QnJ,upd H a o c=H c:=λc f=>aB λz=>t.2.2 c f a (e6 _ B) z;have E:=put2 (H':=upd H a o) (λc f=>n c (by
  obtain h|h:=eB.1 f
  .simp[h]
  .simp[h])) I
 have A:=put (H':=upd H a o) QF (λc f=>n c (by
  obtain h|h:=eB.1 f
  .simp[h]
  .simp[h])) E
 rw[dS ev]at A;have s:((e1++(Qbt++e3))++m).Perm ((e1++QnJ)++(g++m)):=o8.2 λc=>by
  simp only[rp];lia
 refine S.R4 hm k (by simp[B]) A J (s.nodup_iff.2 (hV.2 #[t.1,y,λc f d hd=>t.2.2 c f d (C d hd)])) λc f=>?_;refine q.mem_iff.2 ?_;obtain h|h:=eB.1 (s.mem_iff.1 f)
 .exact e6 _ h
 .exact e4 _ (C c h)
theorem bC.y0(S:QaB)(ev:U[i]? = some QdJ)(hi:δ[i]? = some QdK)(d:QnY):∃w f2,Ae H v0 p w/\bL K CL H Z u w f2:=by
 obtain⟨fp,gp,e,r,nd,k⟩:=S.rep;obtain⟨v1,e1,e2,e3,hv,f,rt,put,_⟩:=e.get hi;rw[ev]at hv;cases hv;obtain⟨a,f1,f2,f3,at',hf,c,put2⟩:=rt.focus S.zh p d;exact#[a,f2,at',c]
theorem bC.Yl(S:Qb7)(ev:U[i]? = some QdJ)(hi:δ[i]? = some QdK)(m:T.oG p t0=some QeS)(o:Qg6) :
  ∃a us,w=.ref a/\H a=some QeR/\us.length=tl.length/\bC K CL b QtC Z (δ.set i (some (T.ud p Qk0 t0))) U ts vs:=by
 obtain⟨f2,gp,h,j,nd,go⟩:=S.Ih ev hi m o;obtain⟨a,us,g,rfl,rfl,n,rs⟩:=h.i9;cases j with
 | @cons _ _ _ _ f e l k=>
  have ne:∀c∈g++Qe4,c≠a:=λc d z=>by subst z;simp_all
  have pm:((a::(g++(f++[])))++e).Perm ((a::g)++Qe4):=o8.2 λc=>by simp
  exact#[a,us,rfl,n,rs.length.symm,go rfl eu rfl (.lst aR (aS.app (rs.mono QF λc d=>aB (ne c (by simp[d]))) (.cons (l.mono QF λc d=>aB (ne c (by simp[d]))) .nil)))
   (k.mono QF λc d=>aB (ne c (by simp[d]))) (pm.nodup_iff.2 nd) λc d=>pm.mem_iff.1 d]
variable{j:Nat}
theorem bC.adn(S:Qb7)(ev:U[i]? = some QdJ)(hi:δ[i]? = some QdK)(q:T.oG p t0=some QeS)(y:Qg6)(r:j<tl.length) :
  ∃a us,w=.ref a/\H a=some QeR/\us.length=tl.length/\bC K CL b (upd H a (.lst (us.set j v))) Z (δ.set i (some (T.ud p Qvd t0))) U ts vs:=by
 obtain⟨f2,gp,l,m,nd,go⟩:=S.Ih ev hi q y;obtain⟨a,us,g,rfl,rfl,s,rs⟩:=l.i9;cases m with
 | @cons _ _ _ _ f e o n=>
  obtain⟨A,g1,g2,g3,h1,x,B,u⟩:=rs.at (ft r);subst x;have ne:∀c∈(g1++(g2++g3))++Qe4,c≠a:=λc d z=>by subst z;simp_all
  have k:((a::(g1++g3))++Qe4).Sublist ((a::(g1++(g2++g3)))++Qe4):=by simp
  have pm:((a::(g1++(f++g3)))++e).Perm ((a::(g1++g3))++Qe4):=o8.2 λc=>by simp[rp,List.count_cons];lia
  exact#[a,us,rfl,s,rs.length.symm,go rfl eu rfl (.lst aR (u (λc d=>aB (ne c (by
    obtain h|h:=eB.1 d
    .simp[h]
    .simp[h]))) (o.mono QF λc d=>aB (ne c (by simp[d])))))
   (n.mono QF λc d=>aB (ne c (by simp[d]))) (pm.nodup_iff.2 (nd.sublist k)) λc d=>k.subset QvI]
theorem bC.Ol{c f:Str}{fs:B1}(S:Qb7)(ev:U[i]? = some QdJ)(hi:δ[i]? = some QdK)(q:T.oG p t0=some QeW)(x:Qg6) :
  ∃a dx gs,w=.ref a/\H a=some QfF/\gs.length=fs.length/\bC K CL b (upd H a Qk4) Z (δ.set i (some (T.ud p (.ins c Qos) t0))) U ts vs:=by
 obtain⟨f2,gp,l,m,nd,go⟩:=S.Ih ev hi q x;obtain⟨a,dx,gs,g,rfl,rfl,r,rs⟩:=l.RJ;cases m with
 | @cons _ _ _ _ h e o n=>
  have ne:∀c∈g++(h++e),c≠a:=λc d z=>by subst z;exact(iu.1 nd).1 d
  obtain⟨g',k,h1,u,s⟩:=cZ.put (f:=f) (o.mono (H':=upd H a Qk4) QF λc d=>aB (ne c (by simp[d]))) (rs.mono (H':=upd H a Qk4) QF λc d=>aB (ne c (by simp[d])));have j:((a::k)++(h++e)).Sublist ((a::g)++(h++e)):=kc (List.Sublist.cons₂ _ u) (jJ _);have pm:((a::g')++e).Perm ((a::k)++(h++e)):=((s.cons a).append_right e).trans (o8.2 λc=>by simp only[rp,List.count_cons];lia);exact#[a,dx,gs,rfl,r,rs.length.symm,go rfl eu rfl (.ins aR h1) (n.mono QF λc d=>aB (ne c (by simp[d]))) (pm.nodup_iff.2 (nd.sublist j)) λc d=>j.subset QvI]
theorem bC.S9(S:QaB)(ev:U[i]? = some QdJ)(hi:δ[i]? = some QdK)(g:QnY)(j:Qg6):bC K CL b H Z (δ.set i (some (T.ud p (.sh .any) t0))) U (u::ts) (w::vs):=by
 obtain⟨fp,gp,e,r,nd,k⟩:=S.rep;obtain⟨v1,e1,e2,e3,hv,f,rt,put,_⟩:=e.get hi;rw[ev]at hv;cases hv;obtain⟨l,f1,f2,f3,at',hf,d,put2⟩:=rt.focus S.zh p g;have hw:=at'.inj j;subst hw;subst hf;subst f;have a:=put QF Qch (put2 Qch (.sh (.any _)));rw[dS ev]at a;have pm:((e1++((f1++([]++f3))++e3))++(f2++gp)).Perm (Qwg++gp):=o8.2 λc=>by simp[rp,List.count_nil];lia
 exact#[#[_,_,a,.cons d r,pm.nodup_iff.2 nd,λc h=>k c (pm.mem_iff.1 h)],S.bh,S.zz,S.zh,S.new,S.tp,S.tab]
section
variable{e0 e2:Expr}{t1:T}{tl0:B2}{d:L3.D}{D:c6}{pa pb ps:Pos}{x:Str}{dP:CS}
def nT(X:Cx)(CL:BM)(b:Bx)(e:Expr)(δ:Ap)(i:Nat)(p:Qfi):Prop:=
 ∀(H Z:Hp) (U:L2.St) (ts:B2) (vs:BY) (Q:VK),bC X.K CL b H Z δ U ts vs->(∀v0 v H' Z',aA Z Z'->aA H H'->bC X.K CL b H' Z' δ U ts vs->U[i]? = some QdJ->Ae H' v0 p v->Q v H')->z9 X e U H Q
def b8(n:Qa3)(h:δ[i]? = some QaD):nT X CL b Qat δ i []:=λH Z U ts vs Q S k=>by
 obtain⟨v,hv,_⟩:=S.look h;exact bM QhX #[v,hv,k v v H Z QF QF S hv rfl]
def fH{z:Int}(h:QmM)(hi:δ[i]? = some QaD)(s:T.oG p t=some QeS)(u:bT X CL b e2 δ (.int z) δ)(c:DX tl.length z=some j)(o:mG e2:=by exactλ_ _=>rfl) :
  nT X CL b (.Subscript e e2 pos) δ i (p++[.ix j]):=λH Z U ts vs Q S k=>
 bM (AY BU bZ bZ o) (h H Z U ts vs _ S λv0 v H' Z' m s1 x ev y=>u H' Z' U ts vs _ x λv2 H2 Z2 l s2 f n=>by
  have at2:=y.mono s2;obtain⟨w,f2,at',r⟩:=f.y0 ev hi s;have:=at'.inj at2;subst this;obtain⟨a,us,g,rfl,rfl,d,rs⟩:=r.i9;have q:=(wG c).2.1;obtain⟨w,_,_,_,hw,_,_,_⟩:=rs.at (ft q);refine#[a,us,z,w,rfl,n.sc rfl,mE.of d,?_,k v0 w H2 Z2 (m.trans l) Qi0 f ev (at2.snoc #[a,us,rfl,.inl d,hw])];unfold mD;rw[<- rs.length,c];exact hw)
def i6(h:QmM)(hi:δ[i]? = some QaD)(c:T.oG p t=some u)(hd:u.ez=d):bT X CL b e δ d δ:=λH Z U ts vs Q S k=>
 h H Z U ts vs _ S λv0 v H' Z' z s a ev f=>by
  obtain⟨w,f2,at',r⟩:=a.y0 ev hi c;have:=at'.inj f;subst this;subst hd;exact k _ H' Z' z s a (r.ez a.zh λ_ _=>rfl)
def La(h:QmM)(hi:δ[i]? = some QaD)(a:T.oG p t=some u):bG X CL b e δ u (δ.set i (some (T.ud p (.sh .any) t))):=λH Z U ts vs Q S k=>
 h H Z U ts vs _ S λv0 v H' Z' z s c ev d=>k v H' Z' z s (c.S9 ev hi a d)
def CB(x:nT X CL b e0 δ i p)(h0:δ[i]? = some QdK)(f:T.oG p t0=some QvC)(h:QaC)(h1:δ1[i]? = some (some t1))(d:T.oG p t1=some QeS)(u:Qxp)(k:cJ X CL b dP (δ1.set i (some (T.ud p Qk0 t1))) D)
  (y:attributeBase e0 "append" X.env Qxv=eval e0 X.env:=by rfl)
  (q:AB X pb e:=by rfl)
  (c:Qlo:=by rfl) (j:Qaz:=by exact aY rfl) (o:swapsWith QqF none pos.line X.env=pure false:=by rfl) :
  cJ X CL b (.Expr QqF pos::dP) δ D:=bR λH Z U ts vs E S M=>
 n8 (rW (r9 PySem.F.plainAttrs_list PySem.F.slot_list_append PySem.F.type_list_append tX bZ Qn7 y q c j rfl) o) (x H Z U ts vs _ S λv0 v G A z0 s0 l ev m=>by
  obtain⟨w,f2,at',r⟩:=l.y0 ev h0 f;have:=at'.inj m;subst this;refine#[?_,h G A U ts vs _ l λv2 H1 Z1 n k1 C=>?_]
  .obtain⟨_,_,_,rfl,rfl,g,_⟩:=r.i9;exact .inl #[rfl,_,mE.of g]
  .obtain⟨a,us,z,g,s,B⟩:=C.Yl ev h1 d (m.mono k1);exact#[a,us,v2,z,rfl,g,by rw[s];exact ru u Wp,M.nx _ U _ Z1 (z0.trans n) B k])
def k6{z:Int}(h:QaC)(s:nT X CL b e0 δ1 i p)(u:bT X CL b e2 δ1 Qcn δ1)(h1:δ1[i]? = some (some t1))(c:T.oG p t1=some QeS)(f:DX tl.length z=some j)(kk:cJ X CL b dP (δ1.set i (some (T.ud p Qvd t1))) D)
  (r:∀v,assign Quy X.env v=(do
   let ov ← holding [v] Qxv
   let I ← holding [v,ov] (eval e2 X.env)
   standAt ps
   holding [v,ov,I] (setItem ov I v)
   release [v,ov,I] []):=by intro _;rfl)
  (o:swapsWithSole [.Subscript e0 e2 ps] e pos.line X.env=pure false:=by rfl) (hw:swappedStores [.Subscript e0 e2 ps] e X.env=pure none:=by rfl) (d:(assignEach [.Subscript e0 e2 ps] X.env).map (·.2)=[assign Quy X.env]:=by rfl) :
  cJ X CL b (.Assign [.Subscript e0 e2 ps] e pos::dP) δ D:=by
 refine bR λH Z U ts vs E S M=>n8 (abT bZ (abS bZ bZ set_list r) o hw d) (h H Z U ts vs _ S λv H1 Z1 l k1 F=>?_);have q:=(wG f).2.1;refine s H1 Z1 U _ _ _ F λv0 w H2 Z2 k k2 C ev G=>u H2 Z2 U _ _ _ C λv2 J Z3 g k3 B m=>?_;obtain⟨a,us,x,y,n,A⟩:=B.adn ev h1 c (G.mono k3) q;exact#[a,us,z,j,x,m.sc rfl,y,n▸f,M.nx _ U _ Z3 (l.trans (k.trans g)) A kk]
end
section
variable{pos':Pos}{x:Str}{D:c6}{dP:CS}{A:Type}{k:Nat}
theorem adp{z w:Int}(g:Gx X)(nm:Qbm)(d:δ[i]? = some (some QeO))(h:bT X CL b e δ (.int w) δ)(k:cJ X CL b dP (δ.set i (some (.sh (.int (z+w))))) D) :
  cJ X CL b (.AugAssign QiX .Add e pos::dP) δ D:=bR λH Z U ts vs E S M=>
 n8 (abU g.nd nm.hi nm.loc bZ abV nm.hf) (by
  obtain⟨v,hv,r⟩:=S.RL d;cases r;refine#[_,hv,h H Z U ts vs _ S λv2 H1 Z1 a k1 j c=>?_];cases c;have f:i<δ.length:=by
   obtain h|h:=Nat.lt_or_ge i _
   .exact h
   simp_all
  exact#[z,w,rfl,rfl,M.nx _ _ H1 Z1 a ((j.push Qbx).set f) k])
end
theorem S8{p:T}{ds:BC}:Keeps (some p::δ) (p::ds.map T.sh):=λj y t h=>by
 cases j with
 | zero=>cases h;rfl
 | succ j=>
  simp_all
end L3
namespace L2
open PySem PySem.Spec PyProof.Rows
noncomputable def G1{α:Type}(xs:QR)(lo hi st:Bz):List α:=
 (sliceRange (sliceBounds lo hi st xs.length).1 (sliceBounds lo hi st xs.length).2.1 (sliceBounds lo hi st xs.length).2.2).filterMap (xs[·]?)
end L2
namespace L3
open PySem PySem.Spec PyProof.Rows L2
def yY{α:Type}:Nat->Qxw->Prop
 | 0,P=>P []
 | n+1,P=>∀a,yY n λr=>P (a::r)
def uf{α:Type}{n:Nat}{P:Qxw}(h:yY n P):∀us:List α,us.length=n->P us:=by
 intro us b
 induction us generalizing n P with
 | nil=>subst b;exact h
 | cons a r c=>subst b;exact c (h a) rfl
abbrev Hf(K:Frag)(x:Str)(f:Addr):Prop:=nsIn K mainGlobals x=some QcN
instance ang:DecidableEq D:=λa b=>Classical.propDecidable (a=b)
end L3
namespace L2
open PySem PySem.Spec PyProof.Rows PySem.Builtin PySem.Builtin.Str
variable{X:Cx}{o e i:Expr}{es:CC}{to ty:TE}{ta:TA}{apos iP pos:Pos}
def Ki:V->BY->Hp->VK->Prop:=λx xs H Q=>∃a gs k v,x=.ref a/\xs=[kV k,v]/\H a=some Qgn/\gs.length<sizeLine/\(∀u,i7 gs k=some u->Q u H)/\(i7 gs k=none->Q v Qk1)
theorem Ym:LO X "dict.setdefault" Ki:=by
 intro pins s U H x vs v us Q I g b h;obtain⟨a,gs,k,v',rfl,rfl,d,t,j,q⟩:=h;cases g;cases b with
 | cons i b=>
  cases b with
  | cons c b=>
   cases b;obtain⟨z,hd,ws,rel,dd⟩:=RA I.bW d;have l:ws.length<=sizeLine:=by rw[<- rel.length];exact z
   refine call_meetsIn PySem.F.slot_dict_setdefault dd.typeIs PySem.F.entry_dict_setdefault (PySem.F.args_dict_setdefault_3 _ _ _) (kt_meets_setdefault Qxd a (A1 i) hd _) #[ws,dd,l,λp n=>?_,λf h' e o=>?_]
   .have:=rel.val k;rw[n]at this;cases hv:i7 gs k with
    | none=>rw[hv]at this;exact this.elim
    | some u=>rw[hv]at this;exact#[u,H,I.tok _,this,j u hv]
   .have hn:i7 gs k=none:=by
     have:=rel.val k;rw[f]at this;cases hv:i7 gs k with
     | none=>rfl
     | some u=>rw[hv]at this;exact this.elim
    have r:(putK gs k v').length<=sizeLine:=by have:=n6 gs k v';lia
    exact#[v',_,BZ I (by rw[d];exact True.intro) o (let ⟨q,_,_,m,_⟩:=e;#[q,m]) (RC r hd (rel.put k c) e),c,q hn]
def Yn(p:PE X o to)(q:PA X Qau ta)
  (u:attributeBase o "setdefault" X.env Qcf=eval o X.env:=by rfl)
  (m:((backTo iP Qt8).all QeI&&(backToKw iP Qep).all Qes&&decide ((e::es).length+([]:EN).length+Qei<30))=true:=by rfl)
  (b:Qlz=true:=by rfl) (n:Qax:=by rfl) (g:AL X iP es:=by rfl) :
  PE X (.Call (.Attribute o "setdefault" apos) Qau [] iP) (λU H Q=>to U H λx H1=>∃a gs,x=.ref a/\H1 a=some Qgn/\ta U H1 λxs H2=>Ki x xs H2 Q):=by
 intro pins s U H Q I h;refine wpAny_Call_method_late u m b rfl (cR (p pins s U H _ I h) λv s1 zz=>?_);obtain⟨x,H1,f,c,a,gs,rfl,r,k⟩:=zz;have A:=c;cases c;obtain⟨z,hd,ws,rel,dd⟩:=RA f.bW r;have B:=dd;obtain⟨l,w,ep,h1,t,G,E,D⟩:=B;refine#["dict","dict.setdefault",PySem.F.plainAttrs_dict,PySem.F.slot_dict_setdefault,PySem.F.type_dict_setdefault,dd.typeIs,λJ y=>#[l,by cases y;exact h1,t.2.1],?_];have d:=q iP pins s1 U H1 _ f k;rw[n]at d ⊢;refine Calls.callWith_builtin (by show(false || (backTo iP Qk5).any (·.1))=false;rw[g]<;>rfl) (Calls.evalArgs_plain ?_);refine cR d λus s2 zz=>?_;obtain⟨vs,H2,C,i,j⟩:=zz;exact Ym pins s2 U H2 _ vs _ us Q C A i j
def Om:l8 X "str.startswith" (λx xs H Q=>∃z y:Str,x=.str z/\xs=[.str y]/\Q QsV H):=by
 intro pins s U H x vs v us Q I a b h;obtain⟨z,y,rfl,rfl,q⟩:=h;obtain⟨t,rfl⟩:=a;obtain⟨u,rfl,t',rfl⟩:=vals1 b;exact SC.startswith #[.bl _,H,I,rfl,q]
def Oo:l8 X "str.lstrip" (λx xs H Q=>∃z y:Str,x=.str z/\xs=[.str y]/\z.length<=sizeLine/\Q (.str (Txt.lstripChars z y)) H):=by
 intro pins s U H x vs v us Q I a b h;obtain⟨z,y,rfl,rfl,c,q⟩:=h;obtain⟨t,rfl⟩:=a;obtain⟨u,rfl,t',rfl⟩:=vals1 b;exact SC.lstripChars (λt' k=>#[.str _,H,I.tok k,#[_,rfl],q]) c
def part3(x y:Str):AT:=match occurrences x y 0 x.length 1 with
 | i::_=>[strSub x 0 i,y,strSub x (i+y.length) x.length]
 | []=>[x,Str.empty,Str.empty]
def Yo:l8 X "str.partition" (λx xs H Q=>∃z y:Str,x=.str z/\xs=[.str y]/\Qi5=false/\z.length<=sizeLine/\∀p,H p=none->Q Qbi (upd H p (.tup ((part3 z y).map V.str)))):=by
 intro pins s U H x vs v us Q I a c h;obtain⟨z,y,rfl,rfl,f,d,q⟩:=h;obtain⟨t,rfl⟩:=a;obtain⟨u,rfl,t',rfl⟩:=vals1 c;refine m3 F.slot_str_partition Qge F.entry_str_partition (F.args_str_partition_2 _ _) (meets_str_partition z y t t' f d) ?_;have hf:H s.heap.objs.size=none:=I.bW.fresh (eA _);unfold part3 at q
 revert q
 cases occurrences z y 0 z.length 1 with
 | nil=>intro q;exact#[.ref _,_,I.laid (o:=.tup ([z,Str.empty,Str.empty].map V.str)) QfC (eA _) #[gr (show 3<=10 by decide) (by rw[gc];decide),_,.cons #[_,rfl] Qsg,#[_,hX _ rfl,rfl,_,rfl]],rfl,q _ hf]
 | cons i r=>intro q;exact#[.ref _,_,I.laid (o:=.tup ([strSub z 0 i,y,strSub z (i+y.length) z.length].map V.str)) QfC (eA _) #[gr (show 3<=10 by decide) (by rw[gc];decide),_,.cons #[_,rfl] Qsg,#[_,hX _ rfl,rfl,_,rfl]],rfl,q _ hf]
def Oq:jB X Qnt (λxs H Q=>∃(z:Str) (n:Int),xs=[.str z]/\intText? z=some n/\z.length<=640/\Q QdA H):=by
 intro pins s U H xs us Q I r h;obtain⟨z,n,rfl,hn,a,q⟩:=h;obtain⟨u,rfl,t,rfl⟩:=vals1 r;exact PySem.W.KIN.call_text hn a #[.int n,H,I.tok _,#[_,rfl],q]
def GD(X:Cx)(x:Str)(f:QjZ):Prop:=∃(a:Addr) (es:QgL) (n:Nat),X.mg x=some Qah/\X.K.lookup a=some #[.type "dict",none,.dict es n,#[]]/\KeysLit X.w.params es.toList/\∀k z,f k=some z->∃t,nsIn X.K a k=some Qwh
def S6{x:Str}{f:QjZ}{px:Pos}(hm:GD X x f)(m:Qad)(hi:Qd3)(j:HM i)(hd:AD x:=by decide) :
  PE X Qth (λU H Q=>ty U H λy H1=>∃(k:Str) (z:Int),y=.str k/\f k=some z/\Q Qcn H1):=by
 intro pins s U H Q I h;obtain⟨a,es,n,hm,b,l,hf⟩:=hm;refine B3 x2.lookup j (iC I m hm (cR Qer λo s2 zz=>?_) hd);obtain⟨y,H2,c,d,k,z,rfl,g,q⟩:=zz;obtain⟨t,rfl⟩:=d;obtain⟨t2,e⟩:=hf k z g;have mp:=mapOf_K (prog:=X.prog) (w:=X.w) c.lJ b l;exact#[mp.typeIs,wpAny_getItem_of Qk8 mp (PySem.W.find_K b e) #[.int z,H2,c.tok _,#[_,rfl],q]]
end L2
namespace L3
open PySem PySem.Spec PyProof.Rows L2 PySem.Builtin PySem.Builtin.Str
variable{X:Cx}{CL:BM}{b:Bx}{e o e2 e3:Expr}{δ δ1 δ2:Ap}{pos apos pp px pa:Pos}{i:Nat}{x:Str}{aU:ES}{d:L3.D}{z:Str}
def Ot{y:Str}(h1:Qfd)(j:Qfe)
  (l:attributeBase o "startswith" X.env Qcf=eval o X.env:=by rfl)
  (i:Qff:=by rfl)
  (a:Qde:=by rfl) (c:Qaz:=by exact aY rfl) :
  bG X CL b (.Call (.Attribute o "startswith" apos) [e] [] pos) δ (.sh QsV) δ2:=λH Z U ts vs Q S k=>
 bM (r9 pd PySem.F.slot_str_startswith PySem.F.type_str_startswith Om bZ Qn9 l i a c rfl)
  (h1 H Z U ts vs _ S λv1 H1 Z1 f k1 n h=>by
   have e1:=h.sc rfl;subst e1;refine#[rfl,j H1 Z1 U ts vs _ n λv2 H2 Z2 d k2 m g=>?_];have e2:=g.sc rfl;subst e2;exact#[z,y,rfl,rfl,k _ _ _ Qf7 Qag QwK])
def Ou{y w:Str}(h1:Qfd)(l:Qfe)(j:Qg3)(hw:Txt.lstripChars z y=w)
  (m:attributeBase o "lstrip" X.env Qcf=eval o X.env:=by rfl)
  (i:Qff:=by rfl)
  (a:Qde:=by rfl) (c:Qaz:=by exact aY rfl) :
  bG X CL b (.Call (.Attribute o "lstrip" apos) [e] [] pos) δ (.sh (.str w)) δ2:=λH Z U ts vs Q S k=>
 bM (r9 pd PySem.F.slot_str_lstrip PySem.F.type_str_lstrip Oo bZ Qn9 m i a c rfl)
  (h1 H Z U ts vs _ S λv1 H1 Z1 f k1 p h=>by
   have e1:=h.sc rfl;subst e1;refine#[rfl,l H1 Z1 U ts vs _ p λv2 H2 Z2 d k2 n g=>?_];have e2:=g.sc rfl;subst e2;subst hw;exact#[z,y,rfl,rfl,j,k _ _ _ Qf7 Qag (n.push QcY)])
def EZ{y:Str}{l:AT}(h1:Qfd)(r:Qfe)(n:Qi5=false)(m:Qg3)(q:part3 z y=l)
  (s:attributeBase o "partition" X.env Qcf=eval o X.env:=by rfl)
  (j:Qff:=by rfl)
  (a:Qde:=by rfl) (d:Qaz:=by exact aY rfl) :
  bG X CL b Qqo δ (.sh QnI) δ2:=by
 have:bG X CL b Qqo δ (.tup ((l.map L3.D.str).map T.sh)) δ2:=λH Z U ts vs Q S k=>
  bM (r9 pd PySem.F.slot_str_partition PySem.F.type_str_partition Yo bZ Qje s j a d rfl)
   (h1 H Z U ts vs _ S λv1 H1 Z1 g k1 v i=>by
    have e1:=i.sc rfl;subst e1;refine#[rfl,r H1 Z1 U ts vs _ v λv2 H2 Z2 f k2 u h=>?_];have e2:=h.sc rfl;subst e2;subst q;refine#[z,y,rfl,rfl,n,m,λp c=>?_];have rc:aL X.K CL Z2 ((part3 z y).map L3.D.str) ((part3 z y).map V.str):=aL.A6 _;obtain⟨c1,c2,t⟩:=(bC.nK rc u).tY WA c;exact k _ _ _ (g.trans (f.trans c1)) (k1.trans (k2.trans c2)) t)
 have:=B8 this
 rwa [T.ez,gX]at this
def CD{n:Int}(hm:QnH)(h:Qtc)(hn:intText? z=some n)(d:z.length<=640)(f:QoV)(a:Qaz:=by exact aY rfl):bG X CL b Qrr δ (.sh QdA) δ1:=λH Z U ts vs Q S k=>
 bM (jM Oq f hm tZ Qdz (he:=a)) (h H Z U ts vs _ S λv H1 Z1 c k1 g r=>#[z,n,by rw[r.sc rfl],hn,d,k _ H1 Z1 c k1 QwB])
def Lb{f:QjZ}{k:Str}{z:Int}(hm:GD X x f)(g:Qad)(h:Qlg)(hf:f k=some z)(d:HM e:=by exactλ_ _=>rfl)(hd:AD x:=by decide):bG X CL b Qti δ (.sh Qcn) δ1:=λH Z U ts vs Q S kk=>
 bM (S6 hm g bZ d hd) (h H Z U ts vs _ S λv H1 Z1 a k1 i c=>#[k,z,c.sc rfl,hf,kk _ H1 Z1 a k1 (i.push Qcn)])
def Yp(k:Key)(n:Qa3)(h1:δ[i]? = some Qpr)(I:bT X CL b e2 δ (N2 k) δ)(G:bG X CL b e3 δ (.sh d) δ){e:ES}(g:if (kF aU k).isSome=true then e=aU else e=vo aU k d)(F:Qxs)
  (K:attributeBase Qcj "setdefault" X.env (eval Qcj X.env)=eval Qcj X.env:=by rfl)
  (D:((backTo pos (starEach [e2,e3] X.env)).all QeI&&(backToKw pos Qep).all Qes&&decide ([e2,e3].length+([]:EN).length+Qei<30))=true:=by rfl)
  (c:(pa.endLine==pos.line)=true:=by rfl) (s:starEach [e2,e3] X.env=(false,eval e2 X.env)::starEach [e3] X.env:=by exact aY rfl) (y:AC X e3 []:=by exact aY rfl) (A:(backTo pos (starEach [e3] X.env)).any (·.1)=false:=by rfl) :
  n4 X CL b (.Call (.Attribute Qcj "setdefault" pa) [e2,e3] [] pos) δ (.sh .any) (δ.set i (some (.iY e))):=λH Z U ts vs Q S kk=>
 bM (Yn QhX (bI bZ (bI bZ cQ y) s) K D c s A) (by
  obtain⟨v0,e0,r⟩:=S.look h1;rw[T.ez]at r;cases r with
  | @iY a l _ j B=>
   refine#[_,e0,a,l,rfl,j,I H Z U _ _ _ S λv2 H2 Z2 p k2 M C=>G H2 Z2 U _ _ _ M λz O Z3 o k3 m=>?_];obtain⟨v1,e1,q⟩:=m.look h1;rw[T.ez]at q;rw[e0]at e1;cases e1;cases q with
   | @iY _ gs _ t w=>
    have hv:=yh (k:=k) w;have h:gs.length=aU.length:=w.length.symm;refine#[a,gs,k,z,rfl,by rw[C.key],t,by rw[h];exact ru F (by rw[gc];decide),λu E=>?_,λhn=>?_]
    .rw[E]at hv;rw[ee (by rw[<- hv];rfl)]at g;refine kk _ _ Z3 (p.trans o) ?_;rw[g,dS h1];exact m.pop.push (.any _)
    .rw[hn]at hv;rw[cq (by rw[<- hv];exact gq)]at g;obtain⟨a2,J,v,f,N,L⟩:=m.Si k h1;rw[e0]at v;cases v;rw[t]at f;cases f;refine kk _ _ Z3 (p.trans o) ?_;rw[g];exact L.push (.any _))
end L3
namespace L3
open PySem PySem.Spec PyProof.Rows L2
abbrev _root_.Cf:=List (Str×Int)
def p8{k a:Str}{z v:Int}{l:Cf}(h:((a,v)::l).lookup k=some z):(k=a/\z=v)\/l.lookup k=some z:=by
 rw[hT]at h;split at h
 .rename_i e;exact .inl #[eq_of_beq e,(gv h).symm]
 .exact .inr h
end L3
namespace L2
open PySem PySem.Spec PyProof.Rows PySem.Builtin PySem.Builtin.Str
abbrev _root_.Ee:=List (Str×AT)
variable{X:Cx}{i:Expr}{ty:TE}{pos px:Pos}{x:Str}{l:Ee}
def tj(K:Frag)(es:Qg7)(l:Ee):Prop:=∀k:Str,(l.lookup k=none/\findBy Value.isStrOf es.toArray k=none)\/∃ts b,l.lookup k=some ts/\findBy Value.isStrOf es.toArray k=some Qgm/\∀H:Hp,lK K H b QeA
noncomputable def adt{K:Frag}:tj K [] []:=λk=>.inl #[rfl,rfl]
def Yq{h:Int}{y:Str}{t:Tok}{v:Value}{es:Qg7}{k:Str}:findBy Value.isStrOf ((#[h,.str y t,v]:DictEntry)::es).toArray k=if k=y then some v else findBy Value.isStrOf es.toArray k:=by
 unfold findBy;rw[List.find?_toArray,List.find?_toArray,l5];have e:Value.isStrOf k QoK=decide (k=y):=by
  show(y==k)=_;by_cases h:k=y
  .subst h;rw[beq_self_eq_true,eC rfl]
  .rw[eP h];exact kP.2 λz=>h z.symm
 show Option.map _ (match Value.isStrOf k QoK with|true=>_|false=>_)=_;rw[e];by_cases h:k=y
 .rw[eC h,ee h];rfl
 .rw[eP h,cq h]
def p9{K:Frag}{h:Int}{y:Str}{t:Tok}{b:Addr}{es:Qg7}{ts:AT}(hb:∀H:Hp,lK K H b QeA)(r:tj K es l):tj K (#[h,.str y t,.ref b]::es) ((y,ts)::l):=λk=>by
 rw[Yq,hT];by_cases e:k=y
 .rw[ee e,ip.2 e];exact .inr #[ts,b,rfl,rfl,hb]
 .rw[cq e,kP.2 e];exact r k
def GE(X:Cx)(x:Str)(l:Ee):Prop:=∃(a:Addr) (es:Qg7) (n:Nat),X.mg x=some Qah/\QbX=false/\X.K.lookup a=some #[.type "dict",none,.dict es.toArray n,#[]]/\KeysLit X.w.params es/\tj X.K es l
def Kb{K:Frag}{ts:AT}{b:Addr}{od:Bi}{its:D1}{n:Nat}{sl:Cc}(d:QqB)(c:QmU)(a:QuP):∀H:Hp,lK K H b QeA:=λH=>.inr #[_,its,n,d,rfl,rfl,c,a]
def adu(hm:Qj0)(r:Qad)(hi:Qd3)(m:HM i)(hd:AD x:=by decide) :
  PE X Qth (λU H Q=>ty U H λy H1=>∃(k:Str) (ts:AT),y=.str k/\l.lookup k=some ts/\∀b,(∀H:Hp,lK X.K H b QeA)->Q Qgm H1):=by
 intro pins s U H Q I h;obtain⟨a,es,n,hm,j,o,p,hf⟩:=hm;refine B3 x2.lookup m (iC I r hm (cR Qer λu s2 zz=>?_) hd);obtain⟨y,H2,d,g,k,ts,rfl,c,q⟩:=zz;obtain⟨t,rfl⟩:=g;have mp:=mapOf_K (prog:=X.prog) (w:=X.w) d.lJ o (by simpa using p);obtain⟨e,_⟩|⟨f,b,e,e2,hb⟩:=hf k
 .rw[c]at e;cases e
 .rw[c]at e;cases e;exact#[mp.typeIs,wpAny_getItem_of Qk8 mp e2 #[.ref b,H2,d.tok _,rfl,q b hb]]
def adv(hm:Qj0)(o:Qad)(hi:Qd3)(hd:AD x:=by decide) :
  PC X .In i Qcj (λU H Q=>ty U H λy H1=>∃k:Str,y=.str k/\Q (.bl (l.lookup k).isSome) H1):=by
 intro pins s U H Q I h;obtain⟨a,es,n,hm,c,j,m,hf⟩:=hm;refine cR Qer λp s1 zz=>?_;obtain⟨y,H1,d,g,k,rfl,q⟩:=zz;obtain⟨t,rfl⟩:=g;refine iC d o hm ?_ hd;refine wpAny_in_of Qk8 c (mapOf_K (prog:=X.prog) (w:=X.w) d.lJ j (by simpa using m)) ?_;refine#[.bl (l.lookup k).isSome,H1,d.tok _,?_,q];obtain⟨e,e2⟩|⟨f,b,e,e2,_⟩:=hf k
 .rw[e,e2];rfl
 .rw[e,e2];rfl
end L2
namespace L3
open PySem PySem.Spec PyProof.Rows L2 PySem.Builtin PySem.Builtin.Str
variable{X:Cx}{CL:BM}{b:Bx}{e:Expr}{δ δ1:Ap}{pos px:Pos}{x k:Str}{l:Ee}
def adw(hm:Qj0)(d:Qad)(h:Qlg)(hd:AD x:=by decide):kX X CL b (.Compare e [.In] [.Name x px] pos) δ (l.lookup k).isSome δ1:=λH Z U ts vs Q S kk=>
 se (BJ (adv hm d bZ hd) rfl) (h H Z U ts vs _ S λv H1 Z1 a k1 f c=>#[k,c.sc rfl,_,rfl,kk H1 Z1 a k1 f])
def adx{ts:AT}(hm:Qj0)(f:Qad)(h:Qlg)(hf:l.lookup k=some ts)(d:HM e:=by exactλ_ _=>rfl)(hd:AD x:=by decide):bG X CL b Qti δ (.sh (.tup (ts.map .str))) δ1:=λH Z U us vs Q S kk=>
 bM (adu hm f bZ d hd) (h H Z U us vs _ S λv H1 Z1 a k1 g c=>#[k,ts,c.sc rfl,hf,λi hb=>kk _ H1 Z1 a k1 (g.push (.tup (hb Z1) (aL.A6 ts)))])
variable{o:Expr}{δ2:Ap}{apos:Pos}
def Ov:l8 X "str.split" (λx vs H Q=>∃z y,x=.str z/\vs=[.str y]/\Qi5=false/\z.length<=sizeLine/\(Txt.split z y).length<=sizeLine/\∀p,H p=none->Q Qbi (upd H p (.lst ((Txt.split z y).map V.str)))):=by
 intro pins s U H x vs v us Q I d f h;obtain⟨z,y,rfl,rfl,c,i,b,q⟩:=h;obtain⟨t,rfl⟩:=d;obtain⟨u,rfl,g⟩:=f.one;obtain⟨t',rfl⟩:=g;by_cases h1:(decide Qve || decide Qwi)=true
 .have e:Txt.split z y=[z]:=by unfold Txt.split;rw[ee h1]
  rw[e]at q;exact m3 F.slot_str_split Qge u5 QjI (meets_str_split_cannot_occur z y t t' h1) #[.ref _,_,I.Rx (ys:=[V.str z]) (its:=[.str z t]) QkD (by rw[gc];exact ew rfl),rfl,q _ I.fresh]
 .have h1:(decide Qve || decide Qwi)=false:=by simpa using h1
  by_cases a:(occurrences z y 0 z.length (z.length+1)).isEmpty=true
  .have e:Txt.split z y=[z]:=by unfold Txt.split;rw[cq (by rw[h1];exact gq),ee a]
   rw[e]at q;exact m3 F.slot_str_split Qge u5 QjI (meets_str_split_not_found z y t t' h1 c a) #[.ref _,_,I.Rx (ys:=[V.str z]) (its:=[.str z t]) QkD (by rw[gc];exact ew rfl),rfl,q _ I.fresh]
  .have a:(occurrences z y 0 z.length (z.length+1)).isEmpty=false:=by simpa using a
   have e:Txt.split z y=splitM z y:=by unfold Txt.split splitM;rw[cq (by rw[h1];exact gq),cq (by rw[a];exact gq)]
   rw[e]at q b;exact m3 F.slot_str_split Qge u5 QjI (meets_str_split_sep z y t t' h1 c a i b) #[.ref _,_,I.Rx (its:=strsFrom s.toks (splitM z y)) Qu9 (by rw[ed];exact b),rfl,q _ I.fresh]
def Ow{z y:Str}{l:AT}(h1:Qfd)(t:Qfe)(q:Qi5=false)(n:Qg3)(s:Txt.split z y=l)(r:Qxr)
  (u:QqJ:=by rfl)
  (m:Qff:=by rfl)
  (a:Qde:=by rfl) (f:Qaz:=by exact aY rfl) :
  bG X CL b QqA δ (.lst ((l.map L3.D.str).map T.sh)) δ2:=λH Z U ts vs Q S k=>
 bM (r9 pd PySem.F.slot_str_split PySem.F.type_str_split Ov bZ Qn4 u m a f rfl)
  (h1 H Z U ts vs _ S λv1 H1 Z1 h k1 x j=>by
   have e1:=j.sc rfl;subst e1;refine#[rfl,t H1 Z1 U ts vs _ x λv2 H2 Z2 g k2 w i=>?_];have e2:=i.sc rfl;subst e2;subst s;refine#[z,y,rfl,rfl,q,n,r,λp d=>?_];have rc:aL X.K CL Z2 ((Txt.split z y).map L3.D.str) ((Txt.split z y).map V.str):=aL.A6 _;obtain⟨c,v⟩:=(bC.nK rc w).qZ (g0:=[]) WA d;exact k _ _ _ QeT Qen v)
end L3
namespace L3
open PySem PySem.Spec PyProof.Rows L2
section
variable{X:Cx}{CL:BM}{b:Bx}{δ:Ap}{pos:Pos}{x:Str}{d:D}
def ah{i:Int}{j:Nat}:bT X CL b Qlr δ (.int i) δ:=ak fW
def az{j:Nat}:bT X CL b Qls δ (.str x) δ:=ak bE
def aG{n:Nat}(h:Nat.ble n 1000=true:=by rfl):n<=sizeLine:=lQ h
variable{α:Type}{l:QR}{u0 u1 u2 v:α}
def b5:mD (v::l) 0=some v:=cL rfl
def cY:mD (u0::v::l) 1=some v:=cL rfl
def eW:mD (u0::u1::v::l) 2=some v:=cL rfl
def ug:mD (u0::u1::u2::v::l) 3=some v:=cL rfl
section
variable{scope:Scope}{Nc:AT}{C:Addr}{s:Qb}{H:Hp}{fp:BN}(i:Nat)
def E2(h1:Nc[i]? = some x:=by rfl)(a:QkX:=by decide +kernel)(hd:AD x:=by decide)(iM:AE x:=by decide):Vn Qbn i x:=RZ h1 a hd iM
def E3(h1:Nc[i]? = some x:=by rfl)(a:Qta:=by decide +kernel)(hd:AD x:=by decide)(iM:AE x:=by decide):Vn Qbn i x:=acE h1 a hd iM
def dH(h:δ[i]? = some Qbs:=by rfl)(n:Vn Qbn i x:=by exact E2 _):bT Qbn CL b Qat δ d δ:=ak (v_ n h)
def nM(h:δ[i]? = some Qbs:=by rfl)(n:Vn Qbn i x:=by exact E3 _):bT Qbn CL b Qat δ d δ:=ak (v_ n h)
def ju(a:Qrh:=by decide +kernel):Gl Qbn x:=XC a
end
def Ox{K:Frag}{ts:AT}{b:Addr}{od:Bi}{its:D1}{n:Nat}{sl:Cc}(d:QqB)(c:QmU:=by exact lQ rfl)(a:QuP:=by repeat (first|exact .nil|refine .cons #[_,rfl] ?_))(H:Hp):lK K H b QeA:=L2.Kb d c a H
abbrev Dds(X:Cx)(CL:BM)(b:Bx)(st:Stmt)(N:AT){A:Type}(arg:Qak)(Pre:Qae)(res:QaA):Prop:=∀ ⦃a:A⦄,Pre a->cJ X CL b Qba Qdr {nx:=λ_=>res a=.sh .non,rt:=λc _=>c=res a}
end
abbrev IsC(X:Cx)(s:Str):Prop:=X.env.kindOf s=some .cell
structure Wq(n:Nat)(p:Prop):Prop where
 h:p
structure QM(K:Frag)(x:Str)(st:Stmt)(f:Addr)(fd:QaG):Prop extends Ng K x x st f fd where
 m:Hf K x f
 dn:fd.defaults=.none
structure Yr(K:Frag)(C:Addr)(x qual:Str)(st:Stmt)(f:Addr)(fd:QaG):Prop extends Ng K x qual st f fd where
 a:findIn K QU x=some QcN
 i:isFn K Qaq=true
 dn:fd.defaults=.none
variable{K:Frag}{x:Str}{st:Stmt}{f:Addr}{fd:QaG}{ps:AT}
theorem QM.binds(F:Qg8)
  (h:∀(kV doc pm:Value) (an:Bi) (dO ct:Value) (us:B0),us.length=ps.length->bindArgs Qkc #[us,[]]=pure QcS):Binds K fd ps []:=F.1.binds F.dn h
variable{C:Addr}{qual:Str}
theorem Yr.binds(F:Qvf)
  (h:∀(kV doc pm:Value) (an:Bi) (dO ct:Value) (us:B0),us.length=ps.length->bindArgs Qfl #[us,[]]=pure QcS):Binds K fd ps []:=F.1.binds F.dn h
variable{A:Type}
abbrev Hg(X:Cx)(CL:BM)(b:Bx)(st:Stmt)(N:AT)(arg:Qa4)(Pre:Qae)(res:QaA)(out:Qa4):Prop:=
 ∀a,Pre a->cJ X CL b Qba Qi4 {nx:=λδ=>res a=.sh .non/\Keeps δ Qe3,rt:=λc δ=>c=res a/\Keeps δ Qe3}
section
variable{oc kV doc pm dO ct:Value}{od an:Bi}{BP:Cc}
def fn1(m:Qtj)(l:Qq7)(c:codeIn K dO x=true)(k:Qiy):QM K x st f Qkc:=#[Rz l c k,m,rfl]
def fn2(a:findIn K QU x=some QcN)(i:isFn K Qaq=true)(l:Qq5)(c:Qmo)(k:Qiy):Yr K C x qual st f Qfl:=#[Rz l c k,a,i,rfl]
end
abbrev vq(x qual:Str)(st:Stmt)(ps:AT):Prop:=∀(kV doc pm:Value) (an:Bi) (dO ct:Value),yY ps.length λus=>bindArgs (W.fnOf x qual (gV st) Qba Qan Value.none kV doc pm an dO ct) {pos:=us}=pure QcS
def JU(P:Q2)(w:World)(mg:BS)(base:Heap){K:Frag}{h:Heap}(CL:BM)(j:Qfj)(G:Qg9){x:Str}{st:Stmt}{f:Addr}{fd:QaG}{N ps:AT}(k:Nat){A:Type}(arg:Qak)(Pre:Qae)(res:QaA)(F:Qg8)(S:Qb5)
  (hb:∀{dO:Value} {g:Qaj} {outer:Co} {s:Qb} {H:Hp} {E:XK} {b:Bx} {a:A},dJ k Qkn->A7 (kE pT P w K mg base N x Qan f dO g outer s H E).MN->Pre a →
   cJ (kE pT P w K mg base N x Qan f dO g outer s H E).MN CL b Qba Qdr {nx:=λ_=>res a=.sh .non,rt:=λt _=>t=res a})
  (q:Qjm:=by(repeat intro _);rfl) :
  ∃f fd i,eX P w K mg base pT Qaf f fd i QrK/\mg x=some Qaq/\keepIn K Qaq=true/\Binds K fd i []:=#[f,fd,ps,xY F.1 S λ_ _ _ _ _ _ _ _ _ r p=>hb r #[#[S.nd,rfl,.never],r.units] p,fA j G F.m,F.kp,F.binds λa b c d e f=>uf QfW]
def S3(P:Q2)(w:World)(mg:BS)(base:Heap){K:Frag}{h:Heap}(CL:BM)(l:Qfj)(G:Qg9){x:Str}{st:Stmt}{f:Addr}{fd:QaG}{N ps:AT}(k:Nat){A:Type}(arg:Qa4)(Pre:Qae)(res:QaA)(out:Qa4)(F:Qg8)(S:Qb5)
  (hb:∀{dO:Value} {g:Qaj} {outer:Co} {s:Qb} {H:Hp} {E:XK} {b:Bx},dJ k Qkn->A7 (kE pT P w K mg base N x Qan f dO g outer s H E).MN →
   Hg (kE pT P w K mg base N x Qan f dO g outer s H E).MN CL b st N arg Pre res out)
  (j:∀a,Sn Qb1 Qe3:=by intro a;repeat (first|exact trivial|refine#[rfl,?_])) (q:Qjm:=by(repeat intro _);rfl) :
  ∃f fd i,eX P w K mg base pT Qaf f fd i Qrl/\mg x=some Qaq/\keepIn K Qaq=true/\Binds K fd i []:=#[f,fd,ps,acY F.1 S (λa _=>j a) λ_ _ _ _ _ _ _ a r p=>hb r #[#[S.nd,rfl,.never],r.units] a p,fA l G F.m,F.kp,F.binds λa b c d e f=>uf QfW]
section
variable{X:Cx}{CL:BM}{b:Bx}{δ δ1:Ap}{e:Expr}{t:T}{D:c6}{pa pb pc:Pos}{i:Nat}{c f:Str}{dP:CS}{gs:B1}{a:Addr}
def mU(m:Qn5)(n:Qnw)(nm:Qa3)(h:Qmj)(h1:δ1[i]? = some (some (.pin a (.ins c gs))))(l:gs.length<1000)(k:cJ X CL b dP (δ1.set i (some (.pin a (.ins c (Ad f t gs))))) D)
  (j:swapsWith e (some (.Attribute (.Name x pa) f pb)) pc.line X.env=pure false:=by rfl):cJ X CL b (.Assign [.Attribute (.Name x pa) f pb] e pc::dP) δ D:=bR λH Z U ts vs E S M=>
 n8 (ab9 (jo nm.hi nm.hv nm.hd nm.iM) bZ j) (h H Z U ts vs _ S λv H' Z' z d=>by
  obtain⟨v0,e0,_⟩:=d.look h1;obtain⟨q,dx,ws,o,g,hlen,r⟩:=d.Ol (p:=[]) (f:=f) e0 h1 rfl rfl;exact#[_,e0,q,CL c,dx,ws,o,g,m,n,hlen▸l,M.nx _ U _ Z' z r k])
end
variable{X:Cx}
def S1{W:XK}:Passes QfV Qac W:=λpins U H s ev s' I h=>by
 obtain⟨e,C,d,B,H',rfl,g,f,c,b,a⟩:=h;exact#[e,C,d,pins,U,H,H',s,B,_,rfl,I.dQ,a,g,f,b,c]
noncomputable def T.bad:T:=.pin 0 Qgd
section
variable{CL:BM}{b:Bx}{e o:Expr}{D:c6}{W:XK}{c:Str}{k n:Nat}{Pre:Qae}{exc:QbN}
def OE(K:Frag)(CL:BM)(n:Nat)(arg:Qa4)(Pre:Qae)(exc:QbN):Sp:=λvs H _ E=>
 ∃(W:Hp) (a:A) (gp:BN),aA W Qjy/\(∀c o,H c=some o->fV o=true->W c=some o)/\aS K CL H W Qb1 vs gp/\gp.Nodup/\(arg a).length=n/\Pre a/\iE CL W/\fc #[oF H gp,W] E Qdq (exc a).2
theorem Ys{P:Q2}{w:World}{mg:BS}{base:Heap}{N:AT}{arg:Qa4}(F:Qc8)(S:Qb5)
  (hb:∀(dO:Value) (e:Qaj) (outer:Co) (s:Qb) (H:Hp) (E:XK) (b:Bx) (a:A),dJ k (e.deeper Qfm)->Pre a->fc b E Qdq (exc a).2 →
   cJ ((kE Qcu P w K mg base N qual Qan f dO e outer s H E).d7 (XE (kE Qcu P w K mg base N qual Qan f dO e outer s H E) E)) CL b Qba Qi4 {nx:=λ_=>False,rt:=λ_ _=>False}) :
  eX P w K mg base Qcu Qaf f fd ps (OE K CL ps.length arg Pre exc):=by
 obtain⟨dV,oc,od,kV,doc,pm,an,dO,ct,BP,rfl,lk,iM⟩:=F.ex;refine Rp lk iM S (λvs H Q E h=>?_) λe outer s H vs Q E j h=>?_
 .obtain⟨W,a,gp,_,_,r,_,i,_⟩:=h;rw[<- r.length];exact i
 .obtain⟨W,a,gp,g,tp,r,nd,i,l,tb,m⟩:=h;have wn:∀c∈gp,W c=none:=λc d=>by
   cases q:W c with
   | none=>rfl
   | some o=>exact absurd d (iT (g c o q)).1
  have h0:d8 K CL H W Qi4 (start N vs) gp:=by
   unfold rC L2.start;rw[<- r.length];exact vp _ r
  have h1:∀c o,W c=some o->W c=none->oF H gp c=none:=λc o q z=>by grind
  have body:=hb dO e outer s H E #[oF H gp,W] a j l m H W _ [] [] {nx:=λ_ _=>False,rt:=λ_ _=>False} #[#[gp,[],h0,.nil,by rw[f6];exact nd,λc d=>by rw[f6]at d;exact#[wn c d,sC d]],λc o q=>(iT q).2,.refl _,λc o q=>(iT (g c o q)).2,h1,tp,tb] #[λ_ _ _ _ _ _ z=>z.elim,λ_ _ _ _ _ _ _ _ z=>z.elim,λ_ _ _ _ _ _ z=>z.elim,λ_ _ _ _ _ _ z=>z.elim];refine#[ _,Nn,λpins s1 I=>?_];refine hF (body pins s1 (I.d7 _)) (λfl s' z=>?_) λev s' z=>ac9 rfl rfl rfl rfl z;cases fl with
  | next=>obtain⟨_,_,_,q⟩:=z;exact q.elim
  | brk=>obtain⟨_,_,_,q⟩:=z;exact q.elim
  | cont=>obtain⟨_,_,_,q⟩:=z;exact q.elim
  | ret u=>obtain⟨_,_,_,_,_,q⟩:=z;exact q.elim
def ady{P:Q2}{w:World}{mg:BS}{base:Heap}{N:AT}{arg:Qak}(F:Qc8)(S:Qb5)
  (hb:∀(dO:Value) (c:Qaj) (outer:Co) (s:Qb) (H:Hp) (E:XK) (b:Bx) (a:A),dJ k Qv7->Pre a->fc b E Qdq (exc a).2 →
   cJ ((kE Qcu P w K mg base N qual Qan f dO c outer s H E).d7 (XE (kE Qcu P w K mg base N qual Qan f dO c outer s H E) E)) CL b Qba Qdr {nx:=λ_=>False,rt:=λ_ _=>False}) :
  eX P w K mg base Qcu Qaf f fd ps (qr K CL ps.length arg Pre exc):=
 (Ys (arg:=λa=>(arg a).map T.sh) F S λdO c outer s H E b a i d g=>by
  unfold rC;rw[ej,ed];exact hb dO c outer s H E b a i d g).imp λvs H Q E z=>by
  obtain⟨W,a,h,tp,r,j,d,tb,g⟩:=z;have e:oF H []=H:=by funext;simp[oF]
  exact#[W,a,[],e▸h,tp,aS.M5 r,.nil,by simpa using j,d,tb,e.symm▸g]
end
structure EL(X:Cx)(N G:AT):Prop extends A7 X where
 ll:∀(i:Nat) {x:Str} (_:N[i]? = some x:=by rfl),Ln X i x
 gg:∀(i:Nat) {x:Str} (_:G[i]? = some x:=by rfl),Gl X x
noncomputable abbrev Ii(N:AT):Bool:=N.all λx=>!(x==("__debug__":Str)) && !(x==("__classdict__":Str))
variable{N G:AT}{tb:DA}
def wM{sc:Scope}(h:ou sc tb=true){k:NameKind}(m:(x,k)∈tb):sc.names.lookup x=some k:=by
 obtain⟨i,hi⟩:=List.mem_iff_getElem?.1 m;exact XD h i hi
def cE(u:A7 X)(c:ou X.env.scope tb=true)(a:X.N=N:=by rfl)(hf:∀x,X.fn x=true:=by exactλ_=>rfl)(hd:Ii N=true:=by decide +kernel)
  (b:∀x∈N,(x,.local)∈tb\/(x,.cell)∈tb:=by decide +kernel) (d:∀x∈G,(x,.globalImplicit)∈tb:=by decide +kernel):EL X N G:=
 #[u,λi x h=>by
  have:=hM.1 hd _ (ff h);simp only[gm,kx]at this;obtain m|m:=b x (ff h)
  .exact M8 (by rw[a];exact h) (wM c m) (hf x) this.1 this.2
  .exact M9 (by rw[a];exact h) (wM c m) (hf x) this.1 this.2,λi x h=>wM c (d x (ff h))]
abbrev Ij(K:Frag)(x:Str):Prop:=nsIn K mainGlobals x=some none
abbrev sF(K:Frag)(x:Str)(n:Int)(t:Tok):Prop:=nsIn K mainGlobals x=some (some (.int n t))
theorem QM.bA(F:Qg8)(ps:AT)(q:Qjm:=by(repeat intro _);rfl):Binds K fd ps []:=F.binds λa b c d e f=>uf QfW
theorem Yr.bA(F:Qvf)(ps:AT)(q:vq x qual st ps:=by(repeat intro _);rfl):Binds K fd ps []:=F.binds λa b c d e f=>uf QfW
end L3
namespace L2
open PySem PySem.Spec PyProof.Rows
abbrev Cx.re(Y:Cx)(P:Q2)(w:World)(K:Frag)(mg:BS)(base:Heap):Cx:={Y with prog:=P,w:=w,K:=K,mg:=mg,base:=base}
end L2
namespace L3
open PySem PySem.Spec PyProof.Rows L2
variable{A:Type}
noncomputable abbrev FO(S:Qha):A->BC:=λa=>(S a).1
abbrev Fh(S:Qha):A->Prop:=λa=>(S a).2.1
noncomputable abbrev Ep(S:Qha):A->T:=λa=>(S a).2.2
abbrev DdS(X:Cx)(CL:BM)(b:Bx)(st:Stmt)(N:AT)(S:Qha):Prop:=∀ ⦃a:A⦄,(S a).2.1->cJ X CL b Qba (entry N (S a).1) {nx:=λ_=>(S a).2.2=.sh .non,rt:=λc _=>c=(S a).2.2}
abbrev Md(X:Cx)(CL:BM)(x:Str)(k n:Nat)(S:Qha):Prop:=Fc X CL x k n Quc QtU (λa=>(S a).2.2)
structure Sq(A:Type) where
 x:Str
 k:Nat
 m:Nat
 st:Stmt
 N:AT
 f:A->BC×Prop×T
abbrev iH(X:Cx)(CL:BM)(b:Bx)(S:Sq A):Prop:=DdS X CL b S.st S.N S.f
abbrev iN(X:Cx)(CL:BM)(S:Sq A):Prop:=Md X CL S.x S.k S.m S.f
abbrev Oz(st:Stmt):DA:=(aE st).names
def gN(st:Stmt):AT:=(Oz st).filterMap fun|(x,.globalImplicit)=>some x|_=>none
def cN(st:Stmt):AT:=(Oz st).filterMap fun|(x,.cell)=>some x|_=>none
def adz{st:Stmt}:∀x∈gN st,(x,NameKind.globalImplicit)∈Oz st:=λx h=>by
 obtain⟨⟨y,k⟩,m,e⟩:=o7.1 h;cases k<;>cases e;exact m
def adA{st:Stmt}:∀x∈cN st,(x,NameKind.cell)∈Oz st:=λx h=>by
 obtain⟨⟨y,k⟩,m,e⟩:=o7.1 h;cases k<;>cases e;exact m
section
variable{X:Cx}{CL:BM}{b:Bx}{δ δ1:Ap}{e:Expr}{k:Nat}{P:Qfa}{D:c6}
theorem zW.to{a:Qfa}(h:Qmi)(k:∀t,P t->a t):zW X CL b e δ a δ1:=λH Z U ts vs Q S kk=>h H Z U ts vs Q S λt v H' Z' p=>kk t v H' Z' (k t p)
end
def Fn(st:Stmt)(N P:AT):Bool:=
 (aE st).kind == .function && !(aE st).isCoroutine && !(aE st).isGenerator&&decide N.Nodup&&N.take P.length==P&&P.all (λx=>(Oz st).lookup x==some .local || (Oz st).lookup x==some .cell)&&(Oz st).all (λy=>y.2 != .free)&&ou Qan (Oz st)&&Ii N&&N.all λx=>decide ((x,NameKind.local)∈Oz st) || decide ((x,NameKind.cell)∈Oz st)
structure w7(st:Stmt)(N P:AT):Prop where
 s:cX N P Qan
 c:ou Qan (Oz st)=true
 d:Ii N=true
 l:∀x∈N,(x,.local)∈Oz st\/(x,.cell)∈Oz st
def Ik{st:Stmt}{N P:AT}(h:Fn st N P=true):w7 st N P:=by
 unfold Fn at h;simp only[gm,kx,hM,nC,ip,pw,bne_iff_ne]at h;obtain⟨⟨⟨⟨⟨⟨⟨⟨⟨h1,k⟩,j⟩,i⟩,g⟩,f⟩,e⟩,d⟩,c⟩,b⟩:=h;exact#[#[h1,k,j,i,g,f,e],d,List.all_eq_true.2 λx a=>by simpa using c x a,b]
end L3
namespace L2
open PySem PySem.Spec PyProof.Rows
def k7(e C:Addr)(d:Bi)(h:Heap):Prop:=∃t:Value,h.get? e=some {cls:=.ref C,dict:=d,data:=.fields (List.toArray [t,.none,.none,.none,.bool false,.none])}
theorem k7.ok{P:Q2}{w:World}{H:Hp}{e C:Addr}{d:Bi}{h:Heap}(x:k7 e C d h):fJ P w H h e (.ext (k7 e C d)):=by
 obtain⟨t,q⟩:=id x;exact#[x,#[_,q],λh1 a ⟨t,q⟩ k=>#[t,k _ q]]
def E4:B0->Bool
 | .ref _::r=>E4 r
 | l=>l==mQ
structure yk(K:Frag)(C:Addr)(f:Str):Prop where
 sa:findIn K QU "__setattr__" = some (some Qhp)
 ov:((clsIn K C).any λcd=>cd.hasDict&&E4 cd.mro)=true
 tk:findIn K QU f=some none
section
open PySem.W Builtin Builtin.ObjectAttr
variable{prog:Q2}{w:World}{A:Qaj}{E:BB}{s:Qb}{K:Frag}{e C:Addr}{f:Str}{v:Value}{ox:Obj}
theorem E5(self:Value):∀{l:B0},E4 l=true->refuseLoop self "__setattr__" l=pure ()
 | .ref c::r,q=>by
  rw[refuseLoop_ref];exact E5 self q
 | [],q=>rfl
 | .type n::r,q=>ip.1 q▸F.store_ValueError.passes self
 | .int a b::r,q=>by cases q
 | .str a b :: r, q => by cases q
 | .none::r,q=>by cases q
theorem Be:∀{l:B0},E4 l=true->l.contains QiE=true
 | .ref c::r,q=>by rw[List.contains_cons,Be (l:=r) q,Bool.or_true]
 | [],q=>by cases q
 | .type n::r,q=>by
  rw[ip.1 q];decide
 | .int a b::r,q=>by cases q
 | .str a b :: r, q => by cases q
 | .none::r,q=>by cases q
theorem OB{tk:Tok}{R:Qh8}(X:QdZ)(S:yk K C f)(d:s.heap.get? e=some ox)(k:ox.cls=.ref C)(hd:ox.dict=none)(hf:∃vs,ox.data=.fields vs)
  (q:∀h' tk,h'.get? e=some {ox with dict:=some s.heap.objs.size}->h'.Ns1 s.heap.objs.size Qqk->(∀b o,b≠e->s.heap.get? b=some o->h'.get? b=some o)->R Qvc {s with heap:=h',toks:=tk}) :
  codeAny Qab A (.call Qhp #[[.ref e,.str f tk,v],[]]) R s:=by
 obtain⟨vs,hf⟩:=hf;have I:InstAt s.heap e ox C none:=#[d,k,by unfold notCls;rw[hf],by rw[hd];trivial];have c:=F.store_object;obtain⟨cd,iM,g⟩:=any_some S.ov;rw[gm]at g;have n:cd.mro.contains QiE=true:=Be g.2;have ne:cd.mro.isEmpty=false:=by grind
 have sub:Looks Qab s.heap (isInstance QaE QiE) true:=I.type.andThen (looks_mroIn X (by unfold mroIn;rw[iM,Option.bind_some,cq (by rw[ne];decide),n]));refine sk c.slot.plain c.entry (@check_slot Qab _ _ s "object.__setattr__" "object" "__setattr__" (.ref e) [.str f tk,v] [] _ c.kind c.split sub (c.args QaE (.str f tk) v) ?_);have hm:Looks Qab s.heap (mroOf QU) cd.mro:=(looks_clsIn X iM).andThen .now;rw[osa_eq,refuse_eq];refine eh (eh (I.type.here (eh (hm.here ?_))));rw[E5 _ g.2];refine fo (eh (I.type.here (eh ((looks_findIn X S.tk).here (eh (fo ?_))))));obtain⟨oc,od,p,BP⟩:=ox;dsimp only at k hd hf;subst k hd hf;refine eh (fo (eh (eh (wpAny_loadPart d (eh ((looks_clsIn X iM).here ?_))))));rw[g.1];have lt:=fv d;have m:e≠s.heap.objs.size:=hB lt;rw[cq Wp];have a:=f7 {cls:=.type "dict",data:=.dict #[]} d;refine eh (wpAny_alloc' (eh (wpAny_update' a (fo ?_))));have gd:((s.heap.push {cls:=.type "dict",data:=.dict #[]}).update e λo=>{cls:=o.cls,dict:=some s.heap.objs.size,data:=o.data,slots:=o.slots}).Ns s.heap.objs.size λ_=>none:=
  #[_,#[],_,(Heap.get?_update_ne _ _ _ _ m.symm).trans (Heap.get?_push_at rfl rfl),rfl,(λy r=>absurd r WA),λ_=>rfl]
 unfold storeInDict newKeyGuard;refine eh (fo (eh (wpAny_nsSet1 (Heap.Ns1.of_empty gd) λh' hn l=>?_)));obtain⟨x,t,u,h,i,j⟩:=hn.count (PySem.Within.cons f v PySem.Within.nil);refine eh (wpAny_lookBehind h (i▸pastItsLine_dict (gr j (by rw[hq,List.length_nil,gc];lia))) (fo (q h' _ ?_ hn λb o hb z=>?_)))
 .exact(l.2 e m).trans (vx _ a rfl)
 .exact(l.2 b (hB (fv z))).trans ((Heap.get?_update_ne _ _ _ _ hb).trans (f7 _ z))
theorem Yt{Q:Dx}(X:QdZ)(S:yk K C f)(a:s.heap.get? e=some ox)(c:ox.cls=.ref C)(hd:ox.dict=none)(hf:∃vs,ox.data=.fields vs)
  (q:∀h' tk,h'.get? e=some {ox with dict:=some s.heap.objs.size}->h'.Ns1 s.heap.objs.size Qqk->(∀b o,b≠e->s.heap.get? b=some o->h'.get? b=some o)->Q () {s with heap:=h',toks:=tk}) :
  wpAny Qab A (setAttr QaE f v) Q E s:=
 set_plain X (od:=none) #[a,c,by obtain⟨vs,hf⟩:=hf;unfold notCls;rw[hf],by simp_all ] S.sa (OB X S a c hd hf q)
end
variable{X:Cx}{pins:At}{U:St}{H:Hp}{s:Qb}{e C:Addr}{f:Str}{y:V}{u:Value}
theorem OD{A:Qaj}{E:BB}{Q:Dx}(I:QK)(he:H e=some Qdh)(S:yk X.K C f)(r:Qbz)
  (h:∀dx s',H dx=none->dx≠e->Inv X pins U QrR s'->Q () s'):wpAny QE A (setAttr QaE f u) Q E s:=by
 obtain⟨⟨t,j⟩,_⟩:=I.bW e _ he;have G:=I.bW.fresh (eA _);have lt:=fv j;have d:∀{b:Addr},H b=none->b≠e:=λ{b} n z=>by lia
 have F:∀{b:Addr} {o:Obj},s.heap.get? b=some o->b≠s.heap.objs.size:=λ{b o} z=>hB (fv z);have D:∀{b:Addr} {o:HO},H b=some o->b≠s.heap.objs.size:=λ{b o} z y=>by simp_all
 refine Yt I.lJ S j rfl rfl #[_,rfl] λh' tk i x a=>h _ _ G (Nat.ne_of_gt lt) ?_;have out:∀{b:Addr},b≠e->b≠s.heap.objs.size->upd (upd H e (.ext (k7 e C (some s.heap.objs.size)))) _ Qck b=H b:=λ{b} p l=>by rw[aB l,aB p]
 have keep:∀{b:Addr} {o:HO},H b=some o->o ≠ .ext (k7 e C none)->upd _ _ _ b=some o:=λ{b o} z n=>by
  rw[out We (D z)];exact z
 refine I.step (ch:=[]) Qsy (λb o _ _ _ z n=>a b o (d n) z) (λb o _ _ _ z n=>#[o.slots,a b o (d n) z]) (λb o _ z n=>(out (d n) (F z)).trans n) (λb o _ z=>?_) (λb xs z=>keep z WA) (λb o w z=>keep z WA) (λb ps z=>#[#[],by exact keep z WA])
  (λm hn=>hn.at' λo z=>a _ o (d I.free) z) (λb o z=>?_) I.bare
 .by_cases w:b=e
  .exact w▸#[_,i]
  .exact#[o,a b o w z]
 .by_cases w:b=s.heap.objs.size
  .subst w;rw[aR]at z;cases z;refine#[_,x,λg=>?_];by_cases k:g=f
   .rw[ee k,k];simp;exact r
   .rw[cq k];simp only[hT,kP.2 k,List.lookup_nil];trivial
  .rw[aB w]at z;by_cases v:b=e
   .subst v;rw[aR]at z;cases z;exact k7.ok #[t,i]
   .rw[aB v]at z;refine(I.bW b o z).qV (λc B J k=>a c B ?_ k) (λc k=>keep k WA) (λc xs k=>keep k WA) λc q k=>keep k WA;lia
def Td(C:Addr)(f:Str):Sp:=λvs H Q _=>∃(e:Addr) (y:V),vs=[.ref e,y]/\H e=some Qdh/\∀dx,H dx=none->dx≠e->Q .non QrR
def Yu{P:Q2}{w:World}{K:Frag}{mg:BS}{base:Heap}{qual n:Str}{st:Stmt}{c:Addr}{fd:QaG}{k:Nat}{p1 p2 b a:Pos}(F:Ng K n qual st c fd)(S:cX ["self",f] ["self",f] Qan)
  (hb:bX st=[.Assign [.Attribute QiA f p2] (.Name f b) a]) (T:yk K C f) (v0:QX Qan "self") (v1:QX Qan f) (d1:AD f) (d2:AE f)
  (j:∀env,swapsWith (.Name f b) (some (.Attribute QiA f p2)) a.line env=pure false):eX P w K mg base Qcu Qaf c fd ["self",f] (Td C f):=by
 obtain⟨dV,oc,od,kV,doc,pm,an,dO,ct,BP,rfl,lk,iM⟩:=F.ex;refine Rp lk iM S (λvs H Q E h=>?_) λr outer s H vs Q E p h=>#[_,L3.Nn,?_]
 .obtain⟨e,y,rfl,_⟩:=h;rfl
 .obtain⟨e,y,rfl,he,q⟩:=h;rw[hb];refine L3.Np (rV L3.t5 L3.Nn) λpins s1 I=>?_;refine plainObj_wpAny_Assign_Attribute (cR (jo (i:=1) rfl v1 d1 d2 pins s1 _ H (λv H1=>v=y/\H1=H) I #[y,rfl,rfl,rfl]) λu s2 zz=>?_) (j _);obtain⟨_,_,o,d,rfl,rfl⟩:=zz;refine cR (jo (i:=0) rfl v0 (rfl) (rfl) pins s2 _ _ (λv H1=>v=.ref e/\H1=_) o #[ _,rfl,rfl,rfl]) λov s3 zz=>?_;obtain⟨_,_,m,g,rfl,rfl⟩:=zz;obtain rfl:ov=Value.ref e:=g;exact OD m he T d λdx s4 n ne l=>#[_,_,l,L3.Np Kq (q dx n ne)]
end L2
namespace L2
open PySem PySem.Spec PyProof.Rows
open Sem (wp)
structure CF(K:Frag)(C fI:Addr):Prop where
 ex:∃nm q N bs bm hdct sn sub ab col dd k0 k1 k2 k3 k5,K.lookup C=some Qee/\nsOkIn K N=true/\nsIn K N "__init__" = some (some QeX)/\tailIn K mQ bm=true
 fn:isFn K QeX=true
section
variable{prog:Q2}{w:World}{A:Qaj}{E:BB}{h:Heap}{g:QnE}{d:Drawn}{t:Nat}{os:OsState}{nm q:Str}{C N fI:Addr}{bs bm sub:B0}{hdct ab:Bool}{sn:AT}{col:Qj1}{dd:Bi}{k0 k1 k2 k3 k5:Do}
def exc_type{i:BS}{rest:B0}{f:Obj}{Q:Fin->Shared->Prop}(T:OwnTail h mQ bm)(c:h.get? C=some Qee)(hn:h.Ns N i)(hi:i "__init__" = some QeX)(l:h.get? fI=some f)(m:f.cls=.type "function")(j:QvJ)
  (k:∀h' e,Heap.MadeExcOf h h' e QU rest->wpAny Qab A QxU (λr s'=>r=.none/\Q (.done (.ret QaE)) s') E #[h',g,d,t,os]) :
  wpAny Qab A (Builtin.«type.__call__» #[.ref C::rest,[]]) Q E #[h,g,d,t,os]:=by
 have F:=x3
 repeat (first|with_reducible refine ro c ?_|with_reducible refine wpAny_madeBy_exc c ?_|wp_step)
 refine codeAny_call_builtin_code (vT _ F.quiet) (wpAny_check_new_subT F T c (codeAny_exc_new_subT F T c ?_ j));have keeps:∀b o,h.get? b=some o->((h.push {cls:=.type "tuple",data:=.seq rest.toArray}).push {cls:=.ref C,data:=.fields (List.toArray [.ref h.objs.size,.none,.none,.none,.bool false,.none])}).get? b=some o:=λb o z=>f7 _ (f7 _ z);have he:((h.push {cls:=.type "tuple",data:=.seq rest.toArray}).push {cls:=.ref C,data:=.fields (List.toArray [.ref h.objs.size,.none,.none,.none,.bool false,.none])}).get? Qxx=some {cls:=.ref C,data:=.fields (List.toArray [.ref h.objs.size,.none,.none,.none,.bool false,.none])}:=by heap_get
 have ct:(Value.ref C::bm).contains QU=true:=by simp
 have a:=keeps _ _ c;show wpAny _ _ _ _ _ _;unfold isInstance
 repeat (first|with_reducible refine ro he ?_|(with_reducible refine wpAny_isSubtype_exc a ?_;rw[ct])|wp_step)
 show wpAny _ _ (typeLookup QU _) _ _ _;refine wpAny_typeLookup_tail a (hn.keeps keeps) (T.keeps keeps) F.mroIs F.init.lookup ?_;rw[hi];refine js (eh ?_);unfold bindSpecial;refine eh (wpAny_typeOf (T:="function") #[_,keeps _ _ l,m] ?_);rw[ee Wp];refine fo (eh (hF (k _ Qxx #[keeps,vu (kv _),h.objs.size,he,vu (eA _),f7 _ (Heap.get?_push_at rfl rfl)]) (λr s' z=>?_) λ_ _ x=>x));obtain⟨rfl,z⟩:=z
 wp_walk
 exact z
def Te{c:BS}{rest:B0}{b:Obj}{Q:BB}(T:OwnTail h mQ bm)(a:h.get? C=some Qee)(hn:h.Ns N c)(hi:c "__init__" = some QeX)(i:h.get? fI=some b)(j:b.cls=.type "function")(f:QvJ)
  (k:∀h' e,Heap.MadeExcOf h h' e QU rest->wpAny Qab (A.under (.builtin "type.__call__" #[.ref C::rest,[]])) QxU (λr s'=>r=.none/\Q QaE s') E #[h',g,d,t,os]) :
  wpAny Qab A (call QU rest) Q E #[h,g,d,t,os]:=by
 have f1:=tc_lookup;have f2:=tc_bind QU;have l:(#[h,g,d,t,os]:Shared).TypeIs QU "type":=#[_,a,rfl];refine kq (codeAny_of_tree ?_)
 repeat (any_goals (first|assumption|with_reducible refine ro a ?_|wp_step))
 exact#[rfl,codeAny_call_builtin_at (vT _ Wl) entry_typeCall (wpAny_check_type_call_sub a (exc_type T a hn hi i j f k))]
end
variable{h:Heap}{e:Addr}
theorem nU.hide{P:Q2}{w:World}{H:Hp}{l:BN}{φ:Heap->Prop}(x:Qbk)(he:H e=some (.ext φ))(f:∀b∈l,b=e\/H b=none):nU P w (λb=>if b=e then none else H b) (hideAll h l):=λb o q=>by
 dsimp at q;have ne:b≠e:=λz=>by lia
 rw[cq ne]at q;have a:∀{c:Addr} {u:HO},H c=some u->u ≠ .ext φ->(if c=e then none else H c)=some u:=λ{c u} z n=>by
  rw[cq We];exact z
 refine(x b o q).qV (λc u d z=>nz _ z λm=>?_) (λc z=>a z WA) (λc xs z=>a z WA) λc y z=>a z WA;obtain rfl|n:=f c m
 .obtain rfl|d:=d
  .exact ne rfl
  lia
 simp_all
section
variable{M:Model}{A:Qaj}{E:BB}{s:Qb}{env:Env}{nm q:Str}{C N:Addr}{bs bm sub:B0}{hdct ab:Bool}{sn:AT}{col:Qj1}{dd:Bi}{k0 k1 k2 k3 k5:Do}
def OG{x:Sem Value}{Q:QlX}(hb:bm.contains Qh0=true)(c:QnO)
  (h:wpAny M A x (λv a=>∃e d t,v=.ref e/\a.heap.get? C=some Qee/\a.heap.get? e=some {cls:=.ref C,dict:=d,data:=.fields (List.toArray [t,.none,.none,.none,.bool false,.none])}/\E QaE a) E s):wpAny M A (raiseStmt env (some x) none) Q E s:=by
 have g:(Value.ref C::bm).contains Qh0=true:=‹_›;refine eh (hF h (λv a z=>?_) WA);obtain⟨e,d,t,rfl,b,he,f⟩:=z
 repeat (first|with_reducible refine ro he ?_|with_reducible refine ro b ?_|(with_reducible refine wpAny_isSubtype_exc b ?_;rw[g])|wp_step)
 exact wpAny_raiseNew_none c f
end
variable{X:Cx}{pins:At}{U:St}{H:Hp}{s:Qb}{C:Addr}
theorem Inv.newExc{h':Heap}{r:B0}(I:QK)(hm:Heap.MadeExcOf s.heap h' e QU r):H e=none/\Inv X pins U (upd H e Qdh) {s with heap:=h'}:=by
 obtain⟨t,he,_⟩:=hm.there;have hn:H e=none:=by
  cases q:H e with
  | none=>rfl
  | some o=>
   obtain⟨u,z⟩:=(I.bW e o q).got;rw[hm.new]at z;cases z
 have nb:∀{b:Addr} {o:Obj},s.heap.get? b=some o->b≠e:=λ{b o} z y=>by simp_all [hm.new]
 have a:∀{b:Addr} {o:HO},H b=some o->upd H e Qdh b=some o:=λ{b o} z=>by
  rw[aB We];exact z
 refine#[hn,I.step Qsy (λb o _ _ _ z _=>hm.keeps b o z) (λb o _ _ _ z _=>#[ _,hm.keeps b o z]) (λb o _ z n=>(aB (nb z)).trans n) (λb o _ z=>#[o,hm.keeps b o z]) (λb xs z=>a z) (λb o w z=>a z) (λb ps z=>#[#[],a z ]) (λm hn=>hn.at' λo z=>hm.keeps _ o z) (λb o z=>?_) I.bare];by_cases w:b=e
 .subst w;rw[aR]at z;cases z;exact k7.ok #[_,he]
 .rw[aB w]at z;exact(I.bW b o z).qV (λc u _ y=>hm.keeps c u y) (λc y=>a y) (λc xs y=>a y) λc y k=>a k
theorem Yv{K:Frag}{N:Addr}{n:Str}{v:Value}(X:Qfj)(e:nsIn K N n=some Qa1):h.nsMap N n=some v:=by
 unfold nsIn at e;split at e
 .rename_i c d es a sl q;have:=X _ _ q;split at e
  .unfold Heap.nsMap;unfold nsFind findBy;simp_all
  lia
 lia
theorem Il{W:XK}{x f:Str}{fI:Addr}{fd:QaG}{k:Nat}{np iP pos:Pos}{arg:Expr}{D:Ends}(SM:QaH)(hg:Qad)(hm:Qnv)(O:CF X.K C fI)(hk:keepIn X.K QU=true)(F:eX X.prog X.w X.K X.mg X.base QfV k fI fd ["self",f] (Td C f))(hb:Binds X.K fd ["self",f] [])(rm:Qi9)
  (J:L3.Aa Qac [arg] U H λus H1=>∃y,us=[y]/\∀dx,H1 dx=none->W QU (some dx) (upd H1 dx Qck))
  (hd:AD x:=by decide) (he:AC X arg []:=by rfl) :
  L3.RK Qac (.Raise (some (.Call Qjg [arg] [] iP)) none pos) D U H:=λpins s I=>by
 obtain⟨nm,q,N,bs,bm,hdct,sn,sub,ab,col,dd,k0,k1,k2,k3,k5,S,o2,o3,R⟩:=O.ex;obtain⟨B,o5,o6⟩:∃B,X.K.lookup fI=some B/\B.cls=.type "function":=by
  have:=ip.1 O.fn;unfold typeIn at this;exact jK.1 this
 have tl:=tail_of_in I.lJ R;have fj:=tl.hasType x3.hasBase;rw[arm_exec_Raise];refine eh (mM (OG (C:=C) (nm:=nm) (q:=q) (N:=N) (bs:=bs) (k0:=k0) (k1:=k1) (k2:=k2) (k3:=k3) (k5:=k5) (dd:=dd) (col:=col) (ab:=ab) (sub:=sub) (sn:=sn) (hdct:=hdct) fj (I.dQ.ok.hd SM) ?_));refine eh (hF (nt (iC I hg hm ?_ hd)) (λv s3 z=>eh (mM (fo z))) λ_ _ z=>z);refine we (h₀:=X.base) I.ok.mod.WG hk (cR (J iP pins s I) λus s1 zz=>?_) he;obtain⟨_,H1,c,M,y,rfl,hw⟩:=zz;have j:=c.dQ;refine#[c.lJ,?_];have r:=tail_of_in c.lJ R;obtain⟨g1,gn,gd,gt,go⟩:=s1;refine Te r (c.lJ _ _ S) (.of_isNs (isNs_of_in c.lJ o2)) (Yv c.lJ o3) (c.lJ _ _ o5) o6 (by have:=M.length;rw[gc];simp at this ⊢;lia) λh2 e d=>?_;obtain⟨nE,l⟩:=j.newExc d;have G:=rm.make C us [];have h:Vals [V.ref e,y] (Value.ref e::us):=.cons rfl M;have sp:Td C f [V.ref e,y] (upd H1 e Qdh) (λv Y=>v=.non/\∃dx,upd H1 e Qdh dx=none/\dx≠e/\Y=upd QkO dx Qck) QfD:=#[e,y,rfl,aR,λdx n ne=>#[rfl,dx,n,ne,rfl]];refine kq (mN (F.run _ X.stack _ _ #[Value.ref e::us,[]] _ _ _ _ G (l.W9.make C us []) (by have:=hb {heap:=h2,gens:=gn,drawn:=gd,toks:=gt,os:=go} (Value.ref e::us) l.lJ (by rw[f6];exact h.length.symm);rw[f6]at this;exact this) h sp) λZ s3 i=>?_);cases Z with
 | error ev=>
  obtain⟨_,_,_,_,_,_,_,_,_,_,q⟩:=i;exact q.elim
 | ok fl=>
  cases fl with
  | ret u=>
   obtain⟨v,Y,a1,a2,a3,a4,a5,rfl,dx,nd,ne,rfl⟩:=i;cases a5;refine#[rfl,?_];have L:=l.JJ (s':=s3) a1 a3 a4 a2 λb z=>absurd z fw;obtain⟨⟨t,P⟩,_⟩:=a4 e _ ((aB ne.symm).trans aR);have nb:∀{b:Addr} {o:Obj},g1.get? b=some o->b≠e:=λ{b o} z w=>by rw[w,d.new]at z;cases z
   have T:H1 dx=none:=(aB ne).symm.trans nd;have nD:∀{b:Addr} {o:Obj},g1.get? b=some o->b≠dx:=λ{b o} z w=>by
    subst w;have:=a3.free b o QiP nd fw;rw[aR]at this;cases this
   have eH:(λb=>if b=e then none else upd QkO dx Qck b)=upd H1 dx Qck:=funext λb=>by
    by_cases z:b=e
    .rw[ee z,z,aB ne.symm];exact nE.symm
    .rw[cq z];by_cases p:b=dx
     .rw[p,aR,aR]
     .rw[aB p,aB p,aB z,aB z]
   have hl:∀b∈e::nF X.stack,b=e\/upd QkO dx Qck b=none:=λb hb=>(eg.1 hb).imp id λz=>L.rS b z;have bW:=nU.hide a4 ((aB ne.symm).trans aR) hl;rw[eH]at bW;have g:∀{b:Addr} {o:Obj},s3.heap.get? b=some o->b≠e->b∉nF X.stack->(hideAll s3.heap (e::nF X.stack)).get? b=some o:=λ{b o} z n m=>nz _ z λw=>(eg.1 w).elim n m;have fr:p7 X.stack g1 s3.heap:=λb hb o z=>a3.slot b o QiP (l.rS b hb) hb fw;have E:∀{b:Addr} {o:HO},H1 b=some o->upd H1 dx Qck b=some o:=λ{b o} z=>by
    rw[aB λw=>by rw[w,T]at z;cases z];exact z
   refine#[e,some dx,t,rfl,L.lJ _ _ S,P,e,C,some dx,pins,U,H1,upd H1 dx Qck,_,hideAll s3.heap (e::nF X.stack),none,rfl,j,hw dx T,a1,a2,#[bW,λb o z n m=>g (a3.keep b o QiP ((aB (nb z)).trans n) m fw) (nb z) m,λb o z n=>(aB (nD z)).trans n,λb o z m=>?_,λb xs z=>E z,λb o u z=>E z,λb ps z=>#[#[],by rw[Array.append_empty];exact E z],fr],#[λb o z=>nu _ z,vw _ eu,funFrames_hide L.stack λenv he a J=>eE _ (o7.2 #[env,he,J]),_,_,P,#[rfl,rfl],rfl,rfl]];obtain⟨o',w⟩:=a3.there b o QiP fw;exact#[o',g w (nb z) m]
  | next=>exact False.elim i
  | brk=>exact False.elim i
  | cont=>exact False.elim i
theorem iG.sub{B a h':Heap}{l:Co}{d:Bi}{fl:Do}(x:Qm1)(sub:∀b o,a.get? b=some o->B.get? b=some o)(st:a.StaysIn h')(k:∀b o,b∈nF l\/(∃vs,o.data=.fields vs)->h.get? b=some o->h'.get? b=some o):iG a l e C d fl h':=by
 have g:∀{b:Addr},B.get? b=none->a.get? b=none:=λ{b} n=>by
  cases q:a.get? b with
  | none=>rfl
  | some o=>rw[sub b o q]at n;cases n
 have c:∀{l:Co},(∀b o,b∈nF l->h.get? b=some o->h'.get? b=some o)->h.FunFrames B l->h'.FunFrames a l:=λ{l}=>by
  induction l with
  | nil=>intro _ _;trivial
  | cons env r p=>
   rintro kk ⟨u,⟨L,o,hf,hn,t,hd⟩,s⟩;refine#[u,#[L,o,hf,g hn,kk L o (by unfold nF;rw[kR,hf];exact eu) t,hd],p (λb o hb=>kk b o ?_) s];unfold nF at hb ⊢;rw[kR,hf];exact eE _ hb
 obtain⟨k1,k2,k3,j,vs,he,v,hd,r⟩:=x;refine#[st,g k2,c (λb o hb=>k b o (.inl hb)) k3,j,vs,k _ _ (.inr #[vs,hd]) he,v,hd,?_];cases fl with
 | none=>exact r
 | some f=>
  obtain⟨T,m,ts,h1,hn,ne,w,i,y⟩:=r;exact#[T,m,ts,h1,g hn,ne,k _ _ (.inr #[ts,i]) w,i,y]
theorem iG.pass{α:Type}{M:Model}{A:Qaj}{E:BB}{B:Heap}{l:Co}{d:Bi}{f:Value}{m:QaS}{env:Env}{Q:Qu2}(x:Qk7)(q:∀h' g,iG B l e C d (some g) h'->s.heap.UpToSlots h'->E QaE {s with heap:=h'}):wpAny M A (PySem.passOn m QaE env:Sem α) Q E s:=by
 obtain⟨_,_,_,b,vs,he,h,hd,T,c,ts,h1,r⟩:=id x;refine eh (oD he hd h1 ?_);exact eh (x.yj _ λh' a u=>wpAny_throw (q h' _ a u))
theorem Lay.hide{P:Q2}{w:World}{l:Co}{h0:Heap}{H':Hp}{B h':Heap}{c:Addr}(y:Ql4)(hn:H' c=none)(j:c∉nF l)(k:∀b o,b∈nF l->h.get? b=some o->∃sl,h'.get? b=some {o with slots:=sl}):Lay P w l H (hideAll h0 [c]) H' (hideAll B [c]) h':=by
 have out:∀{g:Heap} {b:Addr} {o:Obj},(hideAll g [c]).get? b=some o->g.get? b=some o/\b≠c:=λ{g b o} z=>#[nu _ z,λw=>by
  rw[w,vw _ QcR]at z;cases z]
 have d:∀{g:Heap} {b:Addr} {o:Obj},g.get? b=some o->b≠c->(hideAll g [c]).get? b=some o:=λ{g b o} z n=>nz _ z λw=>n (eL.1 w);refine#[λb o z=>(y.bW b o z).qV (λa u e f=>d f λw=>?_) WA λ_ _ z=>z,λb o z n m=>d (y.keep b o (out z).1 n m) (out z).2,λb o z n=>y.free b o (out z).1 n,λb o z m=>?_,y.nV,y.fK,y.nW,λb hb o z=>?_]
 .obtain rfl|e:=e
  .rw[w,hn]at z;cases z
  .rw[w,hn]at e;cases e
 .obtain⟨o',w⟩:=y.there b o (out z).1 m;exact#[o',d w (out z).2]
 .obtain⟨sl,w⟩:=y.fr b hb o (out z).1;obtain⟨s2,i⟩:=k b _ hb w;exact#[s2,i]
end L2
namespace L3
open PySem PySem.Spec PyProof.Rows L2
variable{X:Cx}{pins:At}{U:L2.St}{H:Hp}{s s':Qb}{scope:Scope}{Nc:AT}{fp:BN}{W:XK}{ev:Value}
theorem E6{use:Option (Value->Sem Unit)}{Q:BB}{acc:Value}(l:QbR)(N:QbP)(I:QgZ)(v:∀b∈fp,nX X pins H b)(z:XE Qkz W ev s') :
  notedBy QE X.A (compEnvC scope Qfq s.heap.objs.size X.env) (λx E=>compPost QE X.A (XE X W) use Q acc s.heap.objs.size (.error x) E) ev s':=by
 obtain⟨e,C,d,S,U',L,K,s1,B,fl,rfl,J,hw,y,D,hm,M⟩:=z;have h:=hm;have c:iG B X.stack e C d fl _:=M;have F:X.A.frames=some QiH:=by rw[I.ok.frames,l]
 obtain⟨m,hn,_⟩:=J.loc;have hn:s1.heap.Ns s.heap.objs.size m:=hn;have k:=J.free;have a:s.heap.objs.size∉nF _:=λq=>by
  obtain⟨_,o,z,_⟩:=I.stack.mem q;exact absurd (fv z) WA
 obtain⟨u,_,_,f,_⟩:=id hn;have j:=h.free _ u f k;have f0:=c;rw[l]at c;refine c.note F N rfl λh1 f1 u1=>?_;rw[<- l]at f1;have m1:=h.up f0 u1;refine#[m,hn.at' λo z=>f1.1 _ o (m1.keep _ o z k a),λr i R _=>?_];have f2:iG (hideAll B [s.heap.objs.size]) X.stack e C d (some (rawInt X.env.locals)) r:=by
  refine f1.sub (λb o z=>nu _ z) (λb o z=>?_) λb o q z=>(i.2 b λw=>?_).trans z
  .have ne:b≠s.heap.objs.size:=λw=>by
    rw[w,vw _ QcR]at z;cases z
   exact(i.2 b ne).trans (f1.1 b o (nu _ z))
  .subst w;obtain q|⟨vs,q⟩:=q
   .exact a q
   .have:=f1.1 _ _ (m1.keep _ _ f k a);lia
 refine iG.pass (s:={s' with heap:=r}) f2 λP g f3 t=>?_;have G:=A3 I v J (h'':=hideAll _ [s.heap.objs.size]) #[hideAll_size _ _,λb hb=>?_]
 .refine#[e,C,d,pins,U,L,K,_,_,_,rfl,G,hw,y,D,m1.hide j a λb o hb z=>?_,f3];have p:=(i.2 b λw=>a (w▸hb)).trans z;obtain⟨_,O,n,nf⟩:=f2.2.2.1.mem hb;rw[p]at n;cases n;exact t b o p nf
 .exact Heap.hide_ne _ hb
end L3
namespace L2
open PySem PySem.Spec PyProof.Rows
open PySem PySem.Calls PyProof.Rows Builtin Builtin.ObjectAttr PySem.W PySem.Builtin.ObjectAttr in
def Yw{prog:Q2}{w:World}{A:Qaj}{E:BB}{s:Qb}{K:Frag}{x D dx:Addr}{f:Str}{v:Value}{expr:Bool}{mA:BS}{Q:BB}(O:jW K D)(nf:findIn K QaQ f=some none)(X:QdZ)(g:excAt x D (some dx) s.heap)(hn:s.heap.Ns1 dx mA)(hv:mA f=some v)(k:handedIn v=true)(h:Q v {s with toks:=s.toks+1}) :
  wpAny Qab A (getAttr Qa9 f expr) Q E s:=by
 obtain⟨i,gn,o,tk,os⟩:=s;obtain⟨ox,d,⟨n,c⟩,vs,b⟩:=g;obtain⟨od,e,j⟩:=AO hn;have I:InstAt i x ox D (some od):=#[d,n,by unfold notCls;rw[b],by rw[c];exact e];have ty:=I.type (M:=model prog w);have f1:=looks_findIn (M:=model prog w) X O.ga;have f2:=looks_findIn (M:=model prog w) X O.gn;have m:=looks_mroIn (M:=model prog w) X O.mb;have fd:=looks_find (M:=model prog w) X I (findObj_own O.hd nf rfl (by rw[j,hv]));have l:=vr.ga.bind Qa9;unfold getAttr getAttrBy;refine eh (wpAny_mkText (js (eh (ty.at (eh (f1.at ?_))))));dsimp only;rw[cq (λq=>by rw[gm]at q;exact absurd q.2 Wl)];unfold getAttrByItsOwn hookBefore;rw[ee (show onTheHeap QaQ=true from rfl)];refine eh (f2.at (eh (wpAny_attempt (js ?_))));unfold callGetattribute;rw[cq (λq=>by rw[gm]at q;exact absurd q.2 Wp)];unfold boundAndCalled;rw[l];refine eh (fo ?_);refine kq (sk vr.ga.plain F.entry_bexc_ga (EK ty m ?_));unfold Builtin.«object.__getattribute__»
 iterate 10 lk
 refine eh (fo (a:=f) (eh (ty.at (eh (fd.at ?_)))));refine fo ?_;show wpAny _ _ (handedOut v) _ _ _;rw[handedOut_of k];exact fo h
end L2
namespace L3
open PySem PySem.Spec PyProof.Rows L2
section
variable{X:Cx}{CL:BM}{b:Bx}{δ δ1 δc:Ap}{scope:Scope}{xs Nc:AT}{ix:CO}{elt iter tg e:Expr}{ifs:CC}{pos:Pos}{ds:BC}{p:Qfg}{parts:Qm5}{W:XK}{q:QwN}{G:QiL}{t:T}{D:c6}{gd:Qwc}
abbrev Tg(X:Cx)(W:XK)(scope:Scope)(Nc:AT)(C:Addr)(s:Qb)(H:Hp)(fp:BN):Cx:=(bf X scope Nc C s H fp).d7 (XE Qbn W)
abbrev Lets(W:XK)(b a:Bx):Prop:=∀C p,fc b W C p->fc a W C p
theorem lets{H Z W1 f Z3:Hp}{U:L2.St}{ts:B2}{vs:BY}(S:QhO)(g:aA Z W1)(e:aA H f)(h:aA W1 Z3)(nw:∀a o,Z3 a=some o->W1 a=none->H a=none):Lets W b #[f,Z3]:=λC p i H' Z' d a1 a2 a3 a4 a5 a6=>by
 obtain⟨j,k,c⟩:=S.grown (e.trans a1) g (h.trans a2) a3 (λa o q z=>by
  cases u:Z3 a with
  | none=>exact e.off (a4 a o q u)
  | some w=>exact nw a w u z) a5
 exact i H' j d c.bh c.zz c.zh c.new c.tp (a6.iQ a3 c.tp)
def Ti(o:QbR)(N:QbP)(g0:Qd9)(gs:Qea)(sc:QuQ)(y:QaH)(h:Qsm)(hb:(δc=oj δ1 ix/\∀l,G ds.length l->T.cG l=true)\/δc=sj δ1 ix)(inner:QpS)(j:∀a,Lets W b a->∀i d l,ds[i]? = some d->G i l->gd d a)(hlen:QaP)
  (w:QaT:=by intro _;rfl):zW Qac CL b QcC δ (λt=>∃l,t=.lst l/\G ds.length l) δ1:=λH Z U ts vs Q S k pins s I=>by
 obtain⟨O,pi,hw⟩:=h;apply oT rfl w Qo9 sc.kind sc.names;refine cR Qhm λv s1 h1=>cR h1 λu s2 zz=>?_;obtain⟨it,fp,tn,J,H1,e,L,A,st,hf,C⟩:=zz;subst e;refine pX g0 gs sc y C L A st hf hb inner hlen (λD R s' H' Z' l gl m io P ch ci f r E=>?_) (λZ1 W1 B c i d l e1 e2 M Z3 x g zh nw tp=>j _ (lets B c x g nw) i d l e1 e2) λD s3 M ev s' K n z=>E6 o N K.dQ n z;obtain⟨m,hn⟩:=m;exact#[m,hn,λh' F=>#[.ref D,H',ci h' F,rfl,k _ _ H' Z' #[l,rfl,gl] f r E]]
def Yx{y:Str}{py ye:Pos}(i:Nat)(t:QbR)(D3:QbP)(g0:Qd9)(gs:Qea)(sc:QuQ)(K:QaH)(h:Qsm)(hb:(δc=oj δ1 ix/\∀l,G ds.length l->T.cG l=true)\/δc=sj δ1 ix)(inner:QpS)(j:∀a,Lets W b a->∀i d l,ds[i]? = some d->G i l->gd d a)(hlen:QaP)
  (k:∀l,G ds.length l->D.nx (δ1.set i Qm6)) (B:Qbl) (L:QaX) (hi:X.N[i]? = some y) (w:Qm0) (O:AM X y)
  (n:Qqi)
  (x:QaT:=by intro _;rfl):QG Qac CL b Qsx δ D:=λH Z U ts vs E S M pins s I=>by
 obtain⟨wi,pi,hw⟩:=h;rw[exec_Assign_Name_used _ _ _ _ n];refine eh (mM (eh ?_));refine eh (hF (oT rfl x (ic (X:=X.d7 (XE X W)) sc I) sc.kind sc.names ?_) (λ_ s' A=>fo (fo A)) λ_ _ e=>e);refine cR Qhm λv s1 h1=>cR h1 λu s2 zz=>?_;obtain⟨it,fp,tn,J,H1,e,I1,P,st,hf,C⟩:=zz;subst e;refine pX g0 gs sc K C I1 P st hf hb inner hlen (λD' C' s' H' Z' l gl m io o ch ci f k' V=>?_) (λZ1 W1 R c i d l e1 e2 H3 Z3 F g zh nw tp=>j _ (lets R c F g nw) i d l e1 e2) λD s3 H3 ev s' I3 r z=>E6 t D3 I3.dQ r z;exact Cu L hi w O m io o ch ci (M.nx _ _ _ Z' f (V.set B) (k l gl))
end
def Yy(t:T):Prop:=∀(K:Frag) (CL:BM) (H Z:Hp) (v:V) (fp:BN),¬ bL K CL H Z t v fp
noncomputable def oH:Yy T.bad:=λK CL H Z v fp r=>by
 obtain⟨rfl,b⟩:=r.Nk;have a:=b.El;cases a.2
theorem JP{K:Frag}{CL:BM}{H Z:Hp}:∀{tl:B2} {vs:BY} {fp:BN},(∃t∈tl,Yy t)->¬ aS K CL H Z tl vs fp
 | [],_,_,⟨t,h,_⟩,_=>by cases h
 | t::tl,_,_,⟨u,h,n⟩,r=>by
  cases r with
  | cons b a=>
   obtain rfl|h:=eg.1 h
   .exact n _ _ _ _ _ _ b
   .exact JP #[u,h,n] a
def Tj{tl:B2}(h:∃t∈tl,Yy t):Yy (.tup tl):=λK CL H Z v fp r=>by
 obtain⟨_,_,_,_,a⟩:=r.kW;exact JP h a
section
variable{X:Cx}{CL:BM}{b:Bx}{δ δ1 δ2:Ap}{e:Expr}{es:CC}{t:T}{P:Qfa}{D:c6}{dP:CS}{pos pp:Pos}{x c f:Str}{i k n:Nat}{W:XK}{A:Type}{arg:Qak}{Pre:Qae}{res:QaA}{exc:QbN}
theorem bC.no{K:Frag}{H Z:Hp}{U:L2.St}{ts:B2}{vs:BY}(S:bC K CL b H Z δ U Qb2 vs)(h:Yy t):False:=by
 obtain⟨fp,gp,_,r,_⟩:=S.rep;cases r with
 | cons r _=>exact h _ _ _ _ _ _ r
def adC(h:QaC)(n:Yy t):zW X CL b e δ P δ2:=λH Z U ts vs Q S k=>h H Z U ts vs Q S λv H1 Z1 c k1 a=>(a.no n).elim
theorem zW.of(h:QaC)(p:P t):zW X CL b e δ P δ1:=λH Z U ts vs Q S k=>h H Z U ts vs Q S λv H' Z'=>k t v H' Z' p
def adD(h:QaC)(n:Yy t):cJ X CL b Qlp δ D:=bR λH Z U ts vs E S M=>n8 (Hr bZ) (h H Z U ts vs _ S λv H1 Z1 c k1 a=>(a.no n).elim)
def mV(h:bG X CL b e δ T.bad δ)(a:Qax:=by exact aY rfl):B7 X CL b Qau δ [T.bad] δ:=λH Z U ts vs Q S k=>Ab (bI bZ B5 a) (h H Z U ts vs _ S λv H1 Z1 d k1 c=>(c.no oH).elim)
def oJ{tl:B2}{j:Nat}{pt:Pos}(h:QlP)(hm:T.bad∈tl)(a:QmD:=by exact lQ rfl):cJ X CL b (.Return (some (.Tuple es j pt)) pos::dP) δ D:=adD (rg h a) (Tj #[_,hm,oH])
def Yz(h:QaC)(n:Yy t)(a:QgE:=by rfl):cJ X CL b Qm8 δ D:=bR λH Z U ts vs E S M=>n8 (rW bZ a) Qqj
def CG{pos':Pos}(g:Gx X)(l:Qbm)(h:QaC)(n:Yy t)(a:Qef:=by rfl):cJ X CL b QkR δ D:=
 bR λH Z U ts vs E S M=>n8 (Q7 g.nd l.hi l.loc bZ a l.hf) Qqj
theorem Vn.wx{E:BB}(h:Qa3):Vn Qe1 i x:=#[h.hi,h.hv,h.hd,h.iM]
theorem Ln.wx{E:BB}(h:Qbm):Ln Qe1 i x:=#[h.1.wx,h.loc,h.hf]
structure YB(X:Cx)(CL:BM)(x:Str)(k n:Nat){A:Type}(arg:Qak)(Pre:Qae)(ok:Qj2)(res:QaA)(exc:QbN):Prop where
 give:Fc X CL x k n arg Qtk res
 bad:tm X CL x k n arg QsW exc
variable{ok:Qj2}
theorem YB.cx{scope:Scope}{Nc:AT}{C:Addr}{s:Qb}{H:Hp}{fp:BN}{E:BB}(F:YB X CL x k n arg Pre ok res exc):YB ((bf X scope Nc C s H fp).d7 E) CL x k n arg Pre ok res exc:=#[#[F.give.ex,F.give.room],#[F.bad.ex,F.bad.room]]
def cB(a:A)(F:QrC)(p:Qad)(h:QrS)(l:Pre a/\ok a=false)(s:fc b W Qdq (exc a).2)(hn:Qb4:=by rfl)
  (j:AD x:=by decide) (he:Qax:=by exact aY rfl) (hpl:QaU:=by rfl) :
  bG Qac CL b Qbb δ t δ2:=λH Z U ts vs Q S kk=>by
 obtain⟨f,fd,ps,v,hm,m,hb⟩:=F.bad.ex;refine bM (wC v F.bad.room p hm m hb .nil S1 B5 j he hpl) (h H Z U ts vs _ S λus H1 Z1 y k1 g r=>?_);simp;refine#[H1,a,.refl _,λ_ _ q _=>q,r,hn,l,g.Nq,λH' Z' d o ww i nw tp xi=>?_];obtain⟨u,w,c⟩:=g.grown o g.zh ww i nw tp;exact s H' u d c.bh c.zz c.zh c.new c.tp (xi.iQ i c.tp)
def xp(a:A)(F:QrC)(f:Qad)(h:QrS)(d:Pre a)(i:QkI)(g:ok a=true->(res a).clean=true)(hn:Qb4:=by rfl)
  (c:AD x:=by decide) (he:Qax:=by exact aY rfl) (hpl:QaU:=by rfl) :
  zW Qac CL b Qbb δ (λt=>ok a=true/\t=res a) δ1:=by
 cases q:ok a with
 | true=>exact zW.of (c_ a F.give f h #[d,q] (g q) hn c he hpl) #[rfl,rfl]
 | false=>exact adC (δ1:=δ) (cB a F f h #[d,q] (i q) hn c he hpl) oH
structure z3(X:Cx)(CL:BM)(c f:Str)(k:Nat):Prop where
 ex:∃fI fd,CF X.K (CL c) fI/\keepIn X.K QfZ=true/\eX X.prog X.w X.K X.mg X.base QfV k fI fd ["self",f] (Td (CL c) f)/\Binds X.K fd ["self",f] []/\X.mg c=some QfZ
 room:dJ Qaf X.A
def Tp{m:Int}{np iP:Pos}(s:QaH)(F:z3 Qac CL c f k)(p:Gl X c)(h:DZ Qac CL b [e] δ [.int m] δ1)(t:fc b W (CL c) (some [(f,.int m)]))(hd:AD c:=by decide)(he:Qaz:=by rfl) :
  cJ Qac CL b (.Raise (some (.Call (.Name c np) [e] [] iP)) none pos::dP) δ D:=bR λH Z U ts vs E S M=>by
 obtain⟨fI,fd,O,l,u,hb,hm⟩:=F.ex;refine Il s p hm O l u hb F.room (h H Z U ts vs _ S λus H1 Z1 v k1 d r=>?_) hd he;cases r with
 | cons j g=>
  cases g;cases j;refine#[_,rfl,λdx n=>t _ _ _ (d.bh.trans (dX n)) (d.zz.trans (dX (d.zh.off n))) (sE d.zh) (λa o q z=>?_) (λa o q i=>?_) #[dx,rfl,aR]]
  .by_cases w:a=dx
   .exact w▸d.bh.off n
   .rw[aB w]at q;exact d.new a o q z
  .by_cases w:a=dx
   .subst w;rw[aR]at q ⊢;exact q
   .rw[aB w]at q ⊢;exact d.tp a o q i
def YC{a C:Addr}{dE:Bi}{fs:CA}{m:Int}(n:Qtg)(q:QL b.Z dE (some fs))(hf:fs.lookup f=some (.int m))(O:jW X.K C)(nf:Qo3)(h:bT X CL b e δ (.val Qah) δ1)(hb:QjV:=by rfl):bG X CL b QfA δ (.sh (.int m)) δ1:=λH Z U ts vs Q S k pins s I=>by
 obtain⟨dx,rfl,o⟩:=q;refine KC hb (cR (h H Z U ts vs (λv H1=>v=.ref a/\∃Z1,aA Z Z1/\aA H H1/\bC X.K CL b H1 Z1 δ1 U ts vs) S (λv H1 Z1 g k1 c r=>#[by cases r;rfl,Z1,g,k1,c]) pins s I) λu s1 zz=>?_);obtain⟨_,H1,d,j,rfl,Z1,g,k1,c⟩:=zz;obtain rfl:u=Value.ref a:=j;obtain⟨l,_⟩:=d.bW a _ (c.zh _ _ (c.zz _ _ n));obtain⟨mA,hn,p⟩:=d.bW dx _ (c.zh _ _ (c.zz _ _ o));obtain⟨v,hv,i⟩:=tS.some_of (hf▸p f);exact Yw O nf d.lJ l hn hv (AQ i) #[ _,H1,d.tok _,i,k _ _ Z1 g k1 QwC]
end
section
variable{X:Cx}{CL:BM}{b:Bx}{δ:Ap}{D:c6}{dP:CS}
theorem cJ.calm(h:cJ (X.d7 (XE X λ_ _ _=>False)) CL b dP δ D):cJ X.MN CL b dP δ D:=λH Z U ts vs E S M pins s I=>
 hF (h H Z U ts vs E S M pins s (I.dQ.d7 _)) (λf s' z=>by
  cases f with
  | next=>obtain⟨U',H',a,q⟩:=z;exact#[U',H',a.dQ.d7 _,q]
  | brk=>obtain⟨U',H',a,q⟩:=z;exact#[U',H',a.dQ.d7 _,q]
  | cont=>obtain⟨U',H',a,q⟩:=z;exact#[U',H',a.dQ.d7 _,q]
  | ret u=>obtain⟨v,U',H',a,r,q⟩:=z;exact#[v,U',H',a.dQ.d7 _,r,q]) λev s' z=>by
  obtain⟨_,_,_,_,_,_,_,_,_,_,_,_,q,_⟩:=z;exact q.elim
end
abbrev G0(ok:Bool)(t:T):c6:={nx:=λ_=>ok=true/\t=.sh .non,rt:=λu _=>ok=true/\u=t}
variable{K:Frag}{x:Str}{st:Stmt}{A:Type}
theorem SU(P:Q2)(w:World)(mg:BS)(base:Heap){h:Heap}(CL:BM)(n:Qfj)(G:Qg9){f:Addr}{fd:QaG}{N ps:AT}(k:Nat)(arg:Qak)(Pre:Qae)(ok:Qj2)(res:QaA)(exc:QbN)(F:Qg8)(S:Qb5)
  (hb:∀(CX:M0) {dO:Value} {g:Qaj} {outer:Co} {s:Qb} {H:Hp} {E:XK} {b:Bx} {W:XK} {a:A},dJ k Qkn->A7 ((kE CX P w K mg base N x Qan f dO g outer s H E).d7 Qqd)->Pre a->QkI →
   cJ ((kE CX P w K mg base N x Qan f dO g outer s H E).d7 Qqd) CL b Qba Qdr Qx4)
  (q:Qjm:=by(repeat intro _);rfl) :
  (∃f fd j,eX P w K mg base pT Qaf f fd j (G7 K CL ps.length arg Qtk res)/\mg x=some Qaq/\keepIn K Qaq=true/\Binds K fd j [])/\∃f fd j,eX P w K mg base Qcu Qaf f fd j (qr K CL ps.length arg QsW exc)/\mg x=some Qaq/\keepIn K Qaq=true/\Binds K fd j []:=
 have bd:=F.binds λa b c d e f=>uf QfW
 #[#[f,fd,ps,xY F.1 S λdO g outer s H E b a _ i l=>cJ.calm (cJ.to (hb pT i #[#[S.nd,rfl,K7 (W:=λ_ _ _=>False) rfl rfl],i.units] l.1 λz=>by simp_all) (λ_ z=>z.2) (λ_ _ z=>z.2) WA WA),fA n G F.m,F.kp,bd],
  f,fd,ps,ady F.1 S λdO g outer s H E b a i l o=>cJ.to (hb _ i #[#[S.nd,rfl,K7 rfl rfl],i.units] l.1 λ_=>o) (λ_ z=>by simp_all) (λ_ _ z=>by simp_all) WA WA,fA n G F.m,F.kp,bd]
abbrev DdE(X:Cx)(W:XK)(CL:BM)(b:Bx)(st:Stmt)(N:AT)(arg:Qak)(Pre:Qae)(ok:Qj2)(res:QaA)(exc:QbN):Prop:=∀ ⦃a:A⦄,Pre a->QkI->cJ Qac CL b Qba Qdr Qx4
variable{C:Addr}
noncomputable def adE{nm q:Str}{N:Addr}{bs bm:B0}{hdct:Bool}{sn:AT}{sub:B0}{ab:Bool}{col:Qj1}{dd:Bi}{k0 k1 k2 k3 k5:Do}(b:Qxy)(en:nsOkIn K N=true)(c:nsIn K N "__init__" = some none)(a:tailIn K mQ bm=true):mR K C:=
 #[#[_,_,_,_,_,_,_,_,_,_,_,_,_,_,_,_,b,en,c,a]]
structure XJ(K:Frag)(c fl qual:Str)(C:Addr)(st:Stmt):Prop where
 ex:∃fI fd,CF K C fI/\keepIn K QU=true/\Yr K C "__init__" qual st fI fd/\yk K C fl/\Hf K c C
variable{c:Str}
def xj{fl qual nm q:Str}{N fI:Addr}{fd:QaG}{bs bm:B0}{hdct:Bool}{sn:AT}{sub:B0}{ab:Bool}{col:Qj1}{dd:Bi}{k0 k1 k2 k3 k5:Do}(e:Qxy)(en:nsOkIn K N=true)(f:nsIn K N "__init__" = some (some QeX))(d:tailIn K mQ bm=true)
  (b:keepIn K QU=true) (a:nsIn K mainGlobals c=some (some QU)) (F:Yr K C "__init__" qual st fI fd) (sa:QqK) (ov:((clsIn K C).any λcd=>cd.hasDict&&E4 cd.mro)=true) (tk:findIn K QU fl=some none):XJ K c fl qual C st:=
 #[fI,fd,#[#[_,_,_,_,_,_,_,_,_,_,_,_,_,_,_,_,e,en,f,d],F.i],b,F,#[sa,ov,tk],a]
theorem XJ.tk{fl qual:Str}(J:Qwj):cu K C fl:=by
 obtain⟨_,_,_,_,_,T,_⟩:=J.ex;exact T.tk
def SS(P:Q2)(w:World)(mg:BS)(base:Heap){h:Heap}(m:Qfj)(G:Qg9){qual fl:Str}{p1 p2 i g:Pos}(J:Qwj)
  (S:cX ["self",fl] ["self",fl] Qan:=by exact p6) (hb:bX st=[.Assign [.Attribute QiA fl p2] (.Name fl i) g]:=by rfl) (v0:QX Qan "self":=by exact .inl rfl) (v1:QX Qan fl:=by exact .inl rfl) (d1:AD fl:=by decide) (d2:AE fl:=by decide)
  (j:∀env,swapsWith (.Name fl i) (some (.Attribute QiA fl p2)) g.line env=pure false:=by intro _;rfl) (l:vq "__init__" qual st ["self",fl]:=by(repeat intro _);rfl) :
  ∃fI fd,CF K C fI/\keepIn K QU=true/\eX P w K mg base Qcu 1 fI fd ["self",fl] (Td C fl)/\Binds K fd ["self",fl] []/\mg c=some QU:=by
 obtain⟨fI,fd,O,k,F,T,a⟩:=J.ex;exact#[fI,fd,O,k,Yu F.1 S hb T v0 v1 d1 d2 j,F.binds λa b c d e f=>uf (l a b c d e f),fA m G a]
structure OI(K:Frag)(c:Str)(C M:Addr)(ns:DO):Prop where
 ask:jW K C
 xm:exmOne K QU (.ref M)=some true
 ve:kitOne K QU QlT=some true
 is:∀p∈ns,kitOne K QU Qgf=some QfR
section
variable{n:Str}{M D:Addr}{ns r:DO}{b:Bool}
def adF:∀p∈([]:DO),OI K p.1 p.2 M ns:=λ_ h=>absurd h fw
def YD(a:jW K C)(m:exmOne K QU (.ref M)=some true)(v:kitOne K QU QlT=some true)(i:∀p∈ns,kitOne K QU Qgf=some QfR)(t:∀p∈r,OI K p.1 p.2 M ns):∀p∈(c,C)::r,OI K p.1 p.2 M ns:=List.forall_mem_cons.2 #[#[a,m,v,i],t]
def adG:∀p∈([]:DO),kitOne K QU Qgf=some QfR:=λ_ h=>absurd h fw
def YF(h:kitOne K QU QaQ=some b)(e:decide (n=c)=b)(t:∀p∈r,kitOne K QU Qgf=some QfR):∀p∈(n,D)::r,kitOne K QU Qgf=some QfR:=List.forall_mem_cons.2 #[h.trans (congrArg some e.symm),t]
end
section
variable{X:Cx}{CL:BM}{b:Bx}{δ δ1 δc:Ap}{scope:Scope}{y:Str}{Nc:AT}{ix:CO}{elt iter:Expr}{ifs:CC}{px pos pos' pc:Pos}{ds:BC}{p ok:Qfg}{g:Qfh}{W:XK}{D:c6}{dP:CS}{i:Nat}
abbrev Im(X:Cx)(W:XK)(CL:BM)(b:Bx)(scope:Scope)(Nc:AT)(ifs:CC)(elt:Expr)(δc:Ap)(ds:BC)(p ok:Qfg)(g:Qfh):Prop:=
 ∀C s0 c f0 a (i:Nat) d,ds[i]? = some d->(∀u∈ds.take i,p u=true->ok u=true)->Lets W b a->qe Qr7 CL a ifs Qey (p d)/\(p d=true->zW Qr7 CL a elt Qey (λt=>ok d=true/\t=g d) Qey)
abbrev w8(ds:BC)(p ok:Qfg)(g:Qfh)(i:Nat)(l:B2):Prop:=(∀d∈ds.take i,p d=true->ok d=true)/\l=((ds.take i).filter p).map g
theorem Fs:sA ds p QtV (w8 ds p ok g):=by
 rintro i d _ hd ⟨o,rfl⟩;have e:ds.take Qai=ds.take i++[d]:=by rw[iq,hd];rfl
 have mem:(p d=true->ok d=true)->∀u∈ds.take _,p u=true->ok u=true:=λh u a z=>by
  rw[e]at a;obtain q|q:=eB.1 a
  .exact o u q z
  .rw[eL.1 q]at z ⊢;exact h z
 refine#[λn=>#[mem We,?_],λn t z=>#[mem λ_=>z.1,?_]]
 .rw[e,kz,fb,pj (by simp[n]),List.filter_nil,List.map_nil,f6]
 .rw[e,kz,fb,ph n,z.2];rfl
def FC(sc:Ql5)(h:Qkx)(h1:AD y)(f:AE y):jG Qac CL scope Nc [y].length Qis part1 ifs elt δc ds p QtV (λY=>XE Y W) (λd a=>∃i:Nat,ds[i]? = some d/\(∀u∈ds.take i,p u=true->ok u=true)/\Lets W b a):=λC s0 c f0 a=>
 #[yc sc.nd (Ln.wx (Se (by rw[sc.hd];rfl) sc.own h1 f)),λd _ hd=>by
  obtain⟨i,e,o,lt⟩:=hd;exact#[[d],rfl,rfl,(h C s0 c f0 a i d e o lt).1,(h C s0 c f0 a i d e o lt).2]]
def wN(h:Qud):(∀d∈ds,p d=true->ok d=true)/\l=(ds.filter p).map g:=by
 rwa [w8,hR]at h
def Bf(h:∀d∈ds,(g d).clean=true)(l:B2)(e:Qud):T.cG l=true:=HW h l e.2
def ym(a:QbR)(k:QbP)(sc:Ql5)(f:QaH)(h:QrD)(hb:(δc=oj δ1 ix/\∀d∈ds,(g d).clean=true)\/δc=sj δ1 ix)(inner:Qkx)(hlen:QaP)
  (c:QaT:=by intro _;rfl) (h1:AD y:=by decide) (j:AE y:=by decide):zW Qac CL b QcD δ (λt=>(∀d∈ds,p d=true->ok d=true)/\t=.lst ((ds.filter p).map g)) δ1:=
 (Ti a k #[WA,rfl] Fs Qc0 f (Ew h) QqC (FC sc inner h1 j) (λm lt i d l e o=>#[i,e,o.1,lt]) hlen c).to λt ⟨l,e,o⟩=>#[(wN o).1,by rw[e,(wN o).2]]
def E7(gx:Gx Qac)(n:Ln Qac i x)(c:QbR)(q:QbP)(sc:Ql5)(h:QrD)(hb:(δc=oj δ1 ix/\∀d∈ds,(g d).clean=true)\/δc=sj δ1 ix)(inner:Qkx)(hlen:QaP)
  (k:(∀d∈ds,p d=true->ok d=true)->cJ Qac CL b dP (δ1.set i Qkm) D) (j:Qbl)
  (a:QpP) (f:QaT:=by intro _;rfl)
  (h1:AD y:=by decide) (m:AE y:=by decide):cJ Qac CL b QrP δ D:=by
 obtain a|a:=a
 .exact bR (Yx i c q #[WA,rfl] Fs Qc0 gx.calm (Ew h) QqC (FC sc inner h1 m) (λr lt i d l e o=>#[i,e,o.1,lt]) hlen (λl o=>(wN o).2▸k (wN o).1) j gx.nd n.hi n.loc n.hf a f)
 .exact bR (Cd i (ym c q sc gx.calm h hb inner hlen f h1 m) (λt z=>z.2▸k z.1) j gx.nd n.hi n.loc a n.hf)
def adH{e:Expr}{P:Qfa}(h:Qmi)(k:∀t,P t->D.rt t δ1):cJ X CL b Qlp δ D:=bR λH Z U ts vs E S M=>n8 (Hr bZ) (h H Z U ts vs _ S λt v H1 Z1 p a k1 c=>M.rt t v H1 Z1 δ1 U a c (k t p))
end
variable{X:Cx}{CL:BM}{b:Bx}{δ δ1:Ap}{e1:Expr}{pos:Pos}{a:Addr}
def YG{d:Nat}{p2:Pos}(h:bT X CL b e1 δ (.val Qah) δ1):kX X CL b Qku δ false δ1:=λH Z U ts vs Q S k=>
 se (BJ (Hq bZ)) (h H Z U ts vs _ S λv H1 Z1 c k1 e r=>by
   cases r;exact#[_,rfl,by simpa using k H1 Z1 c k1 e])
variable{δ2:Ap}{e2:Expr}{tl:B2}{oz:BC}{H Z:Hp}
theorem bC.adI{U:L2.St}{ts:B2}{us vs:BY}(S:QkH)(g:Qip):bC K CL b H Z δ U QlF Qew:=by
 obtain⟨fp,gp,e,r,nd,k⟩:=S.rep;obtain⟨g1,g2,rfl,d,c⟩:=aS.split g.symm r;obtain⟨g',f,pm⟩:=aS.rev (as:=tl.reverse) (us:=us.reverse) (by simp;exact d);have i:=kT fp (vJ g2 pm);exact#[#[fp,_,e,uc f c,i.nodup_iff.2 nd,λa h=>k a ((kT fp (vJ g2 pm)).mem_iff.1 h)],S.bh,S.zz,S.zh,S.new,S.tp,S.tab]
theorem Tq(h1:bG X CL b e1 δ (.lst tl) δ1)(o:bG X CL b e2 δ1 (.sh (.lst oz)) δ2)(t:tl.length+oz.length<=sizeLine) :
  bG X CL b QcG δ (.lst (tl++oz.map T.sh)) δ2:=λH Z U ts vs Q S k=>
 bM (uZ KY bZ bZ) (h1 H Z U ts vs _ S λv1 H1 Z1 j k1 r=>o H1 Z1 U _ _ _ r λv2 H2 Z2 i k2 e=>by
  obtain⟨_,d,rfl,s,f⟩:=e.vQ.i9;obtain⟨a,us,rfl,m,h⟩:=e.pop.spread;have n:=h.ac5;refine#[_,_,us,d,rfl,rfl,.inl (.inl n),e.zh.seq s,by simp_all [f.length],λp l=>?_];have g:=bC.nK f (h.pop.adI m);rw[<- eJ,<- eJ,<- vl,<- vl]at g;obtain⟨c,q⟩:=g.qZ (g0:=[]) (by simp_all [f.length]) l;exact k _ _ _ (j.trans i) Qen q)
section
variable{scope:Scope}{y:Str}{Nc:AT}{ix:CO}{elt iter:Expr}{ifs:CC}{px px' ye:Pos}{ds:BC}{p:Qfg}{g:Qfh}{D:c6}{dP:CS}
def YH(i:Nat)(sc:Qeb)(R:QaH)(h:QkS)(cl:∀d∈ds,(g d).clean=true)(inner:Qkt)(hlen:QaP)
  (k:D.nx (δ1.set i Qkm)) (P:Qbl) (T:QaX) (hi:X.N[i]? = some x) (w:Qc4) (V:Qc5)
  (F:swapsWith QcD Ql6 ye.line X.env=pure true)
  (O:QaT:=by intro _;rfl) (n1:AD y:=by decide) (n2:AE y:=by decide):QG X CL b (.Assign [.Name x px'] QcD ye) δ D:=λH Z U ts vs E S M pins s I=>by
 rw[exec_Assign_Name_used _ _ _ _ F];refine eh (mM (eh ?_));refine eh (hF (oT rfl O (ic Qc0 I) sc.kind sc.names ?_) (λ_ s' c=>fo (fo c)) λ_ _ e=>e);have hw:=(BK (tg:=.Name y px) Qtd) pins s U H (λJ H1=>∃Z1 us,aA Z Z1/\aA H H1/\bC X.K CL b H1 Z1 δ1 U ts vs/\aL X.K CL H1 ds us/\(∀i H2,aA H1 H2->i<ds.length->J.go i H2)/\(∀i H2 x H',aA H1 H2->i<ds.length->J.Ks i H2 x H'->H'=H2/\us[i]? = some x)/\∀H2,aA H1 H2->J.stop ds.length H2) I (h H Z U ts vs _ S λv H1 Z1 n k1 j r=>by
  obtain⟨a,us,rfl,c,f⟩:=r.i9;refine#[a,rfl,#[us,c],Z1,us,n,k1,j,f,λi H2 s hi=>?_,λi H2 y H' s hi l=>#[l.1,l.2 us (s.seq c)],λH2 s=>#[us,s.seq c,by simp[f.length] ]];have Nu:i<us.length:=f.length▸hi;exact#[us,us[i],s.seq c,by simp[Nu]])
 refine cR hw λv s1 h1=>cR h1 λL s2 zz=>?_;obtain⟨it,fp,tn,J,H1,e,I1,W,st,hf,Z1,us,n,k1,j,f,go,B,u⟩:=zz;subst e;have t:∀i Z2 H2 x H',aA H1 Z2->aA Z2 H2->(∀a o,H2 a=some o->fV o=true->Z2 a=some o)->i<ds.length->J.Ks i H2 x H'->∃Z3 d,ds[i]? = some d/\x9 Z2 H2 Z3 H'/\bK X.K CL Z3 d x:=λi Z2 H2 x H' s1 s2 tp hi l=>by
  obtain⟨e,w⟩:=B i H2 x H' Qi0 hi l;subst e;obtain⟨d,hd,C⟩:=f.RH w;exact#[Z2,d,hd,.refl s2 tp,C.mono s1]
 refine rB QfD (xs:=[y]) Qc0 R I1 W st hf (yd (W1:=H1) j j.zh QF Qmv (sq j ix) Qva go t u hlen QoX) (λD' C' s' H' m io G ch ci zz=>?_) λ_ _ _ _ _ _ _ z=>z.elim;obtain⟨Z',A,k',Y⟩:=zz;exact Cu T hi w V m io G ch ci (M.nx _ _ _ Z' (n.trans A) (Y.set P) k)
def adJ{i:Nat}(gx:Gx X)(n:Qbm)(sc:Qeb)(h:QkS)(cl:∀d∈ds,(g d).clean=true)(inner:Qkt)(hlen:QaP)
  (k:Qr5) (e:Qbl)
  (a:swapsWith QcD Ql6 ye.line X.env=pure true\/swapsWith QcD Ql6 ye.line X.env=pure false)
  (c:QaT:=by intro _;rfl) (n1:AD y:=by decide) (n2:AE y:=by decide):cJ X CL b (.Assign [.Name x px'] QcD ye::dP) δ D:=by
 obtain a|a:=a
 .exact bR (YH i sc gx.calm h cl inner hlen k e gx.nd n.hi n.loc n.hf a c n1 n2)
 .exact bR (HP i (Sw sc gx.calm h cl inner hlen c n1 n2) k e gx.nd n.hi n.loc a n.hf)
end
def uY(K:Frag)(c:Str):Addr:=if xU c=true then 0 else match nsIn K mainGlobals c with
 | some (some (.ref a))=>a
 | _=>0
def YJ(h:xU c=true):uY K c=0:=ee h
def jv{b:BM}{f:Addr}(h:b=uY K)(a:Hf K c f)(t:xU c=false:=by rfl):f=b c:=by
 rw[h,uY,cq (by rw[t];decide),show nsIn K mainGlobals c=some QcN from a]
def ti(mg:BS)(K:Frag)(x:Str)(l:AT):Prop:=∃a,mg x=some Qah/\∀H:Hp,lK K H a QcO
def Lc{mg:BS}{l:AT}{od:Bi}{its:D1}{n:Nat}{sl:Cc}(h1:mg x=some Qah)(d:K.lookup a=some #[.type "tuple",od,.seq its n,sl])(c:QmU:=by exact lQ rfl)(b:Vals QcO its.toList:=by repeat (first|exact .nil|refine .cons #[_,rfl] ?_)):ti mg K x l:=#[a,h1,Kb d c b]
abbrev GDk(w:World)(mg:BS)(K:Frag)(x:Str)(f:QjZ):Prop:=∃(a:Addr) (es:QgL) (n:Nat),mg x=some Qah/\K.lookup a=some #[.type "dict",none,.dict es n,#[]]/\KeysLit w.params es.toList/\∀k z,f k=some z->∃t,nsIn K a k=some Qwh
abbrev GEk(w:World)(mg:BS)(K:Frag)(x:Str)(l:Ee):Prop:=∃(a:Addr) (es:Qg7) (n:Nat),mg x=some Qah/\QbX=false/\K.lookup a=some #[.type "dict",none,.dict es.toArray n,#[]]/\KeysLit w.params es/\tj K es l
structure QN(A:Type) where
 x:Str
 k:Nat
 m:Nat
 st:Stmt
 N:AT
 f:A->BC×Prop×Bool×T×Ex
abbrev GX(X:Cx)(CL:BM)(x:Str)(k n:Nat)(S:A->BC×Prop×Bool×T×Ex):Prop:=YB X CL x k n Quc QtU (λa=>(S a).2.2.1) (λa=>(S a).2.2.2.1) (λa=>(S a).2.2.2.2)
abbrev CJ(X:Cx)(CL:BM)(S:QN A):Prop:=GX X CL S.x S.k S.m S.f
abbrev Af(X:Cx)(W:XK)(CL:BM)(b:Bx)(S:QN A):Prop:=DdE X W CL b S.st S.N QtJ Qtl QsX Qsz QsA
def gC(K:Frag)(x:Str)(st:Stmt):Prop:=∃f fd,QM K x st f fd
def fnX{f:Addr}{kV doc pm dO ct:Value}{an od:Bi}{oc:Value}{BP:Cc}(m:Qtj)(l:Qq7)(c:codeIn K dO x=true)(k:Qiy):gC K x st:=#[_,_,fn1 m l c k]
end L3
namespace Law
open PySem L2 L3
noncomputable def top(i:Nat):Stmt:=PySem.Challenge.pw_moodtree_k22_names_and_refusals.main.body.getD i Qs3
def uh:Nat->BA->Int->BA
 | 0,_,_=>[]
 | n+1,es,k=>if k=-1 then [] else k::uh n es (es.getD k.toNat 0)
def cW(es:BA)(m:Int):BA:=uh QeL es Qvg
def jd(es:BA):Prop:=∀k:Nat,k<es.length->-1<=es.getD k 0/\es.getD k 0<k
variable{es:BA}{k:Int}
theorem jd.at(h:jd es)(h0:0<=k)(h1:k<es.length):-1<=es.getD k.toNat 0/\es.getD k.toNat 0<k:=by
 have:=h k.toNat We;lia
noncomputable def lS(ks:AT)(es ss:BA):D:=.ins "Tree" [("kinds",.lst QcP),("elders",.lst QbW),("starts",.lst QcQ)]
def rE{ks:AT}{ss:BA}:List.lookup ("kinds":Str) [(("kinds":Str),D.lst QcP),("elders",.lst QbW),("starts",.lst QcQ)]=some (.lst QcP):=Cq
def dI{ks:AT}{ss:BA}:List.lookup ("elders":Str) [(("kinds":Str),D.lst QcP),("elders",.lst QbW),("starts",.lst QcQ)]=some QnK:=rfl
def vt{ks:AT}{ss:BA}:List.lookup ("starts":Str) [(("kinds":Str),D.lst QcP),("elders",.lst QbW),("starts",.lst QcQ)]=some (.lst QcQ):=rfl
def bF(ds:BC):T.ez QtD=.lst ds:=by rw[T.ez,gX]
def gf(l:BA):(T.lst ((l.map D.int).map T.sh)).clean=true:=iS▸vj _
theorem jY(l:AT):(T.lst ((l.map D.str).map T.sh)).clean=true:=by
 induction l with
 | nil=>rfl
 | cons x l a=>exact a
noncomputable def sG(ks:AT)(es ss:BA):B1:=[("kinds",.lst ((ks.map .str).map T.sh)),("elders",.lst ((es.map .int).map T.sh)),("starts",.lst ((ss.map .int).map T.sh))]
def Bg(ks:AT)(es ss:BA):T.ez QsB=lS ks es ss:=by
 unfold sG;rw[T.ez,T.vP,T.vP,T.vP,bF,bF,bF];rfl
def vv(ks:AT)(es ss:BA):T.cy (sG ks es ss)=true:=by
 unfold sG;rw[T.cy,T.cy,T.cy,jY,gf,gf];rfl
theorem CK{es:BA}(h:jd es):∀(n:Nat) {k x:Int},-1<=k->k<es.length->x∈uh n es k->0<=x/\x<=k
 | 0,k,x,_,_,a=>by cases a
 | n+1,k,x,h0,h1,a=>by
  rw[uh]at a;split at a
  .cases a
  .have b:=h.at We h1;obtain rfl|a:=eg.1 a
   .lia
   .have:=CK h n We We a;lia
theorem yo{es:BA}(h:jd es):∀(a b:Nat) {k:Int},-1<=k->k<es.length->k<a->k<b->uh a es k=uh b es k
 | 0,0,_,_,_,_,_=>rfl
 | 0,b+1,k,h0,_,d,_=>by
  rw[uh,uh,ee We]
 | a+1,0,k,h0,_,_,hb=>by
  rw[uh,uh,ee We]
 | a+1,b+1,k,h0,h1,d,hb=>by
  rw[uh,uh];split
  .rfl
  .have c:=h.at We h1;rw[yo h a b c.1 We We We]
variable{m:Int}
theorem yp(h:jd es)(h0:0<=m)(h1:QoL):cW es m=if es.getD m.toNat 0=-1 then [] else es.getD m.toNat 0::cW es Qvg:=by
 have hm:=h.at h0 h1;unfold cW;rw[uh];split
 .rfl
 .rename_i b;have a:=h.at (k:=es.getD m.toNat 0) We We;rw[yo h es.length QeL a.1 We We We]
variable{x:Int}
theorem wO(h:jd es)(h0:0<=m)(h1:QoL)(a:x∈cW es m):0<=x/\x<m/\x<es.length:=by
 have hm:=h.at h0 h1;have:=CK h _ hm.1 We a;lia
theorem qa{es:BA}(h:jd es):∀(n:Nat) {m x:Int},0<=m->m<es.length->m<n->x∈cW es m->∃pre,cW es m=pre++x::cW es x/\∀y∈pre,y∈cW es m/\x∈cW es y
 | 0,m,x,h0,_,hn,_=>by lia
 | n+1,m,x,h0,h1,hn,a=>by
  have hm:=h.at h0 h1;have e:=yp h h0 h1;generalize d:es.getD m.toNat 0=k at hm e;by_cases c:k=-1
  .rw[e,ee c]at a;cases a
  .rw[cq c]at e;rw[e]at a;obtain rfl|a:=eg.1 a
   .exact#[[],by rw[e];rfl,λy b=>by cases b]
   .obtain⟨pre,p1,p2⟩:=qa h n (m:=k) We We We a;refine#[k::pre,by rw[e,p1];rfl,λy b=>?_];obtain rfl|b:=eg.1 b
    .exact#[by rw[e];exact eu,a]
    .exact#[by rw[e];exact eE _ (p2 y b).1,(p2 y b).2]
def jZ(es:BA):Prop:=jd es/\∀k:Nat,k+1<es.length->es.getD Qaf 0=k\/es.getD Qaf 0∈cW es k
theorem Ld{es:BA}{x:Int}(h:jd es):∀(n:Nat) {k:Int},-1<=k->k<es.length->uh n Qjz k=uh n es k
 | 0,_,_,_=>rfl
 | n+1,k,h0,h1=>by
  rw[uh,uh];split
  .rfl
  .have a:=h.at We h1;have e:(es++[x]).getD k.toNat 0=es.getD k.toNat 0:=by
    rw[eD,km We,<- eD]
   rw[e,Ld h n a.1 We]
def yq{k:Nat}(h:k<es.length):(es++[x]).getD k 0=es.getD k 0:=by
 rw[eD,km h,<- eD]
theorem CM(h:jd es)(h0:0<=m)(h1:QoL):cW Qjz m=cW es m:=by
 have hm:=h.at h0 h1;unfold cW;rw[yq We,Ld h _ hm.1 We,yo h _ QeL hm.1 We WF We]
theorem jd.snoc(h:jd es)(h0:-1<=x)(h1:x<es.length):jd Qjz:=λk a=>by
 simp at a;by_cases e:k<es.length
 .exact yq e▸h k e
 .have:k=es.length:=by lia
  simp_all
theorem jZ.snoc(h:jZ es){k:Nat}(d:k+1=es.length)(b:x=k\/x∈cW es k):jZ Qjz:=by
 have a:-1<=x/\x<es.length:=by
  obtain e|e:=b
  .lia
  .have:=wO h.1 We We e;lia
 refine#[h.1.snoc a.1 a.2,λj c=>?_];simp at c;rw[CM h.1 We We];by_cases e:j+1<es.length
 .exact yq e▸h.2 j e
 .have:j=k:=by lia
  simp_all
theorem wR:∀(n:Nat) (es:BA) (k:Int),(uh n es k).length<=n
 | 0,_,_=>eA _
 | n+1,es,k=>by
  rw[uh];split
  .exact fT _
  .exact ri (wR n es _)
noncomputable def um(es:BA)(m:Int):BA:=((List.range es.length).filter (λ(i:Nat)=>decide (es.getD i 0=m))).map (λ(i:Nat)=>(i:Int))
theorem Le(h:x∈um es m):0<=x/\x<es.length/\es.getD x.toNat 0=m:=by
 obtain⟨i,hi,rfl⟩:=ef.1 h;obtain⟨h1,a⟩:=hY.1 hi;have h1:=gh.1 h1;have a:=er a;exact#[We,We,‹_› ]
def jw(bs nm:BC)(tr:D)(is os ws:BC):D:=.ins "Chart" [("boxes",.lst bs),("names",.lst nm),("tree",tr),("ins",.lst is),("outs",.lst os),("ways",.lst ws)]
section
variable{bs nm is os ws:BC}{tr:D}
def kM:List.lookup ("boxes":Str) [(("boxes":Str),D.lst bs),("names",.lst nm),("tree",tr),("ins",.lst is),("outs",.lst os),("ways",.lst ws)]=some (.lst bs):=Cq
def eS:List.lookup ("names":Str) [(("boxes":Str),D.lst bs),("names",.lst nm),("tree",tr),("ins",.lst is),("outs",.lst os),("ways",.lst ws)]=some (.lst nm):=rfl
def yr:List.lookup ("tree":Str) [(("boxes":Str),D.lst bs),("names",.lst nm),("tree",tr),("ins",.lst is),("outs",.lst os),("ways",.lst ws)]=some tr:=rfl
def Bh:List.lookup ("ins":Str) [(("boxes":Str),D.lst bs),("names",.lst nm),("tree",tr),("ins",.lst is),("outs",.lst os),("ways",.lst ws)]=some (.lst is):=rfl
def yt:List.lookup ("outs":Str) [(("boxes":Str),D.lst bs),("names",.lst nm),("tree",tr),("ins",.lst is),("outs",.lst os),("ways",.lst ws)]=some (.lst os):=rfl
def yu:List.lookup ("ways":Str) [(("boxes":Str),D.lst bs),("names",.lst nm),("tree",tr),("ins",.lst is),("outs",.lst os),("ways",.lst ws)]=some (.lst ws):=rfl
end
def uo(bs nm:BC):B1:=[("boxes",.lst (bs.map T.sh)),("names",.lst (nm.map T.sh))]
def uq(is os ws:BC):B1:=[("ins",.lst (is.map T.sh)),("outs",.lst (os.map T.sh)),("ways",.lst (ws.map T.sh))]
def oK(bs nm:BC)(t:T)(is os ws:BC):B1:=uo bs nm++(("tree":Str),t)::uq is os ws
def yw(bs nm:BC)(t:T)(is os ws:BC):T.ez (.ins "Chart" Quz)=jw bs nm t.ez is os ws:=by
 unfold oK uo uq;rw[hS,hS,List.nil_append,T.ez,T.vP,T.vP,T.vP,T.vP,T.vP,T.vP,bF,bF,bF,bF,bF];rfl
def bJ{ds:BC}(h:QgW):(T.lst QbU).clean=true:=by
 rw[iS]
 induction ds with
 | nil=>rfl
 | cons d ds a=>
  rw[D.bV,gm]at h;rw[eM,T.cG,a h.2,T.clean,h.1];rfl
def CN{bs nm:BC}(h1:D.bV bs=true)(a:D.bV nm=true):T.cy (uo bs nm)=true:=by
 unfold uo;rw[T.cy,T.cy,bJ h1,bJ a];rfl
def CP{is os ws:BC}(h1:D.bV is=true)(b:D.bV os=true)(a:D.bV ws=true):T.cy (uq is os ws)=true:=by
 unfold uq;rw[T.cy,T.cy,T.cy,bJ h1,bJ b,bJ a];rfl
def j0(p:Qga):D:=.tup [.str p.1,.int p.2]
def bU(ns:BA)(k:Int):Int:=if k<ns.length then ns.getD k.toNat 0 else 0
noncomputable def vR:CO:=(List.range 26).map (· + 97)++(List.range 10).map (· + 48)
def Tr:("abcdefghijklmnopqrstuvwxyz0123456789":Str).cps.toList=vR:=by decide +kernel
def yx(k:Int):Str:=#[(List.toArray [vR.getD k.toNat 0])]
def adK:∀n∈vR,n<1114112:=by decide +kernel
def Tt(k:Int):PyData.strOk (yx k)=true:=by
 unfold PyData.strOk yx;have:vR.getD k.toNat 0<1114112:=by
  simp;cases e:vR[k.toNat]? with
  | none=>decide
  | some n=>exact adK n (ff e)
 simpa using this
noncomputable def GS(m:Int):Int:=(m*48271+11) % 2147483647
def Io(p:Int×Str):Nat->Int×Str
 | 0=>p
 | n+1=>(GS (Io p n).1,(Io p n).2++yx (GS (Io p n).1 % 36))
def oM(l:BA):mK 60 (.lst Qf4):=.lst λd hd=>by
 obtain⟨i,_,rfl⟩:=ef.1 hd;exact .int _ _
def CQ:AT:=["all","and","box","call","do","far","if","in","leaf","near","on","one","open","out","put","say","shut","then","to"]
noncomputable def isLt(c:Nat):Bool:=decide (97<=c)&&decide (c<=122)
noncomputable def k8(c:Nat):Bool:=decide (48<=c)&&decide (c<=57)
theorem yy(c:Nat):kK #[(List.toArray [c])] "abcdefghijklmnopqrstuvwxyz" = isLt c:=by
 unfold kK;rw[va];have e:("abcdefghijklmnopqrstuvwxyz":Str).cps.toList=(List.range 26).map (· + 97):=rfl;rw[e];apply m4.2;simp[isLt];constructor
 .rintro⟨a,h,rfl⟩;lia
 .intro h;exact#[c-97,We,We]
theorem Lf(c:Nat):kK #[(List.toArray [c])] "abcdefghijklmnopqrstuvwxyz0123456789" = (isLt c || k8 c):=by
 unfold kK;rw[va];have e:("abcdefghijklmnopqrstuvwxyz0123456789":Str).cps.toList=(List.range 26).map (· + 97)++(List.range 10).map (· + 48):=rfl;rw[e];apply m4.2;simp[isLt,k8,gm,nC,eB,ef,gh];constructor
 .rintro(⟨a,h,rfl⟩|⟨a,h,rfl⟩)<;>lia
 .intro h;obtain h|h:=h
  .exact .inl #[c-97,We,We]
  .exact .inr #[c-48,We,We]
def c9(x:Str):Bool:=decide (1<=x.length)&&(decide (x.length<=12)&&(!decide Qou&&QpU))
def CT{x:Str}(h:x.length=0):x="":=by
 obtain⟨⟨l⟩⟩:=x;have:l.length=0:=h;have e:l=[]:=o4 this;subst e;rfl
variable{j:Nat}
def yz{x:Str}{d:D}(h:(gQ x)[j]? = some d):∃c,d=.str #[(List.toArray [c])]/\x.cps.toList[j]? = some c:=by
 unfold gQ at h;rw[fR]at h;obtain⟨c,a,rfl⟩:=jK.1 h;exact#[c,rfl,a]
def zX(i:Int)(n:Nat):Bool:=decide (0<=i)&&decide (i<(n:Int))
noncomputable def WN(i:Int):Bool:=decide (-(10 ^ (30:Int).toNat)<i)&&decide (i<10 ^ (30:Int).toNat)
def OJ(n:Nat)(a c:Int):Bool:=(decide (a=-1) || zX a n)&&WN c
inductive l9
 | ur (x:Str) (m:Int)
 | num (mk:Str) (a1 c1 a2 c2:Int)
noncomputable def ot:l9->D
 | .ur x m=>.tup [.str x,.int m]
 | .num mk a1 c1 a2 c2=>.tup [.str mk,.tup [.int a1,.int c1],.tup [.int a2,.int c2]]
def ue(n m:Nat):l9->Bool
 | .ur _ k=>zX k n
 | .num mk a1 c1 a2 c2=>decide (mk∈(["<","<=","=","!="]:AT))&&(OJ m a1 c1&&OJ m a2 c2)
def YK:l9->Prop
 | .ur x _=>x∈(["open","shut"]:AT)
 | .num mk _ _ _ _=>¬ mk∈(["open","shut"]:AT)
def Tv:∀al:List l9,D.iQ (.tup Qoj)=true:=λal=>eN (λq=>by cases q<;>rfl) al
def OC:D->D
 | .tup [_,_,_,d,_,_]=>d
 | d=>d
inductive Hg
 | put (i a c:Int)
 | say (x:Str) (a c:Int)
 | call (x:Str)
noncomputable def QO:Hg->D
 | .put i a c=>.tup [.str "put",.int i,.tup [.int a,.int c]]
 | .say x a c=>.tup [.str "say",.str x,.tup [.int a,.int c]]
 | .call x=>.tup [.str "call",.str x]
def mB:Hg->Prop
 | .put _ _ _=>True
 | .say x _ _=>x.length<=1000
 | .call x=>x.length<=1000
structure YL where
 src:Int
 sign:Str
 al:List l9
 dl:List Hg
 mf:Int
 mode:Str
def YM(w:YL):D:=.tup [.int w.src,.str w.sign,.tup (w.al.map ot),.tup (w.dl.map QO),.int w.mf,.str w.mode]
noncomputable def CV(l:BA)(s:Int):BA:=if s∈l then l else l++[s]
def Tw(l:BA):ES:=l.map λs=>((Sum.inl s:Key),D.bl true)
theorem Lg(l:BA)(s:Int):((Tw l).any λa=>decide (a.1=Sum.inl s))=decide (s∈l):=by
 unfold Tw
 induction l with
 | nil=>rfl
 | cons y l b=>
  by_cases h:y=s
  .subst h;simp
  .have h':¬ s=y:=λe=>h e.symm;simp_all
def YN(l:BA)(s:Int):vo (Tw l) (.inl s) QaV=Tw (CV l s):=by
 unfold vo;rw[Lg];unfold CV;by_cases h:s∈l
 .rw[ee (eC h),ee h];unfold Tw;rw[ej];refine hZ λy _=>?_;simp
 .rw[if_neg (by simpa using h),if_neg h];unfold Tw;rw[fb];rfl
def adds(l:BA):BA:=l.foldl CV []
def OL(l:BA)(x:Int):adds QcV=CV (adds l) x:=by unfold adds;rw[h9];rfl
theorem uv:∀(l acc:BA),(l.foldl CV acc).length<=acc.length+l.length/\∀x,x∈l.foldl CV acc↔x∈acc\/x∈l
 | [],acc=>#[ WA,WA ]
 | y::l,acc=>by
  obtain⟨h1,b⟩:=uv l _;rw[jL];refine#[?_,λx=>(b x).trans ?_]
  .have:(CV acc y).length<=acc.length+1:=by unfold CV;split<;>simp
   grind
  .unfold CV;by_cases a:y∈acc
   .rw[ee a,eg];constructor
    .rintro(z|z)
     .exact .inl z
     .exact .inr (.inr z)
    lia
   .rw[cq a,eB,eL,eg,or_assoc]
def YQ(l:BA)(s:Int):(kF (Tw l) (.inl s)).isSome=decide (s∈l):=by
 rw[<- Lg];unfold kF;generalize Tw l=k
 induction k with
 | nil=>rfl
 | cons y k a=>
  rw[l5,jq];cases h:decide (y.1=Sum.inl s) with
  | true=>rfl
  | false=>exact a
def mC(n:Nat):Hg->Bool
 | .put i a c=>zX i n&&OJ n a c
 | .say x a c=>c9 x&&OJ n a c
 | .call x=>c9 x
def YL.Ok(n m:Nat)(w:YL):Prop:=zX w.src n=true/\(w.sign.length<=1000/\c9 w.sign=true)/\w.mode∈(["new","near","far"]:AT)/\((w.mf=-1/\w.mode="new")\/(w.mf ≠ -1/\zX w.mf n=true))/\∀q∈w.al,YK q/\ue n m q=true
noncomputable def lp(q:Qga):D:=.tup [.str q.1,.int q.2]
variable{α:Type}
theorem OA{p:Qb6}{l:QR}(h:∀(j:Nat) (x:α),l[j]? = some x->p x=true):l.all p=true:=hM.2 λx a=>by
 obtain⟨j,b,e⟩:=q8 a;exact h j x WE
def YR{p:Qb6}{l:QR}{x:α}(h:x∈l)(a:p x=false):l.all p=false:=pv.2 #[x,h,by rw[a];decide]
def uw(p:Qb6)(l:QR)(j:Nat):Prop:=∀(q:Nat) (x:α),q<j->l[q]? = some x->p x=true
theorem uw.zero{p:Qb6}{l:QR}:uw p l 0:=λq x h=>absurd h (Nat.not_lt_zero q)
theorem uw.next{p:Qb6}{l:QR}{x:α}(h:uw p l j)(b:l[j]? = some x)(d:p x=true):uw p l QaF:=λq y c a=>by
 by_cases e:q=j
 .simp_all
 .exact h q y We a
theorem uw.all{p:Qb6}{l:QR}(h:uw p l l.length):l.all p=true:=OA λj x a=>h j x (hH.1 a).1 a
def k9(l:AT):Bool:=l.all c9&&decide l.Nodup
def Ag(l:Cf):Bool:=l.all Qvh&&k9 (l.map (·.1))
def yC:AT:=["leaf","one","all"]
def WO(ks:AT)(es:BA)(m:Nat):Bool:=decide (ks.getD m Str.empty∈yC)&&(decide (ks.getD m Str.empty="leaf") == !decide ((m:Int)∈es))
def rG(ks:AT)(es:BA):Bool:=(List.range ks.length).all (WO ks es)
def Ip(ks:AT)(es ss:BA)(m:Nat):Bool:=if ks.getD m Str.empty="one" then zX (ss.getD m 0) es.length&&decide (es.getD (ss.getD m 0).toNat 0=(m:Int)) else decide (ss.getD m 0=-1)
def qz(ks:AT)(es ss:BA):Bool:=(List.range ss.length).all (Ip ks es ss)
def WQ(p:Qec):D:=.tup [.int p.1,.int p.2]
abbrev _root_.CU:=List (Int×Int)
theorem Lh{l:CU}{d:D}(h:(l.map WQ)[j]? = some d):∃p,l[j]? = some p/\d=WQ p:=by
 rw[fR]at h;cases e:l[j]? with
 | none=>rw[e]at h;cases h
 | some p=>rw[e]at h;exact#[p,rfl,(gv h).symm]
def jN{l:QR}{p:α}(h:l[j]? = some p):l.take QaF=l.take j++[p]:=by
 rw[iq,h];rfl
def OO:Nat->Int->Str->Str
 | 0,_,x=>x
 | n+1,r,x=>if 0<r then OO n Qpc Qna else x
theorem Li:∀(n:Nat) (r:Int) (x:Str),(OO n r x).length<=x.length+n
 | 0,r,x=>eA _
 | n+1,r,x=>by
  rw[OO];split
  .have:=Li n Qpc Qna;rw[str_len]at this;have e:(yx (r % 36)).length=1:=rfl;lia
  .lia
theorem Tz:∀(n:Nat) (r:Int) (x:Str),PyData.strOk x=true->PyData.strOk (OO n r x)=true
 | 0,r,x,h=>h
 | n+1,r,x,h=>by
  rw[OO];split
  .exact Tz n _ _ (acJ _ _ h (Tt _))
  .exact h
theorem YS(n:Nat){r:Int}(x:Str)(h:¬ 0<r):OO n r x=x:=by
 cases n with
 | zero=>rfl
 | succ n=>rw[OO,cq h]
def qA(m:Int):Str:=OO 20 Qpd (yx Qpe)
theorem TF(m:Int):(qA m).length<=21:=by
 have:=Li 20 Qpd (yx Qpe);have e:(yx Qpe).length=1:=rfl;unfold qA;lia
def qo:AT:=["all","and","box","call","do","far","if","in","leaf","near","on","one","open","out","put","say","shut","then","to"]
def WR(m:Int)(us:AT)(j:Nat):Bool:=!decide (qA Qcv∈us) && !decide (qA Qcv∈qo)
def jD(m:Int)(us:AT):Str:=match (List.range QfY).find? Qpf with
 | some j=>qA Qcv
 | none=>""
def OQ(m:Int)(us:AT):(jD m us).length<=21:=by
 unfold jD;split
 .exact TF _
 .exact fT _
def TH(m:Int)(us:AT):PyData.strOk Qpg=true:=by
 unfold jD;split
 .exact Tz _ _ _ (Tt _)
 .decide +kernel
variable{us:AT}
def TJ(b:j<us.length+20)(a:∀i,i<j->WR m us i=false)(h:WR m us j=true):jD m us=qA Qcv:=by
 have e:(List.range QfY).find? Qpf=some j:=by
  rw[rF];exact#[h,gh.2 b,λi hi=>by rw[a i hi];rfl]
 unfold jD;rw[e]
def TL(a:∀i,i<us.length+20->WR m us i=false):jD m us="":=by
 have e:(List.range QfY).find? Qpf=none:=by
  rw[List.find?_eq_none];intro i hi;exact a i (gh.1 hi)▸gq
 unfold jD;rw[e]
def mW(c st:Int):Nat->AT
 | 0=>[]
 | n+1=>mW c st n++[jD (c+n*st) (mW c st n)]
theorem lU(c st:Int):∀n,(mW c st n).length=n
 | 0=>rfl
 | n+1=>by rw[mW,fg,lU c st n];rfl
theorem Lj(c st:Int):∀n,∀x∈mW c st n,x.length<=21/\PyData.strOk x=true
 | 0,x,h=>by cases h
 | n+1,x,h=>by
  obtain h|h:=eB.1 h
  .exact Lj c st n x h
  .cases eL.1 h;exact#[OQ _ _,TH _ _]
def yE(s:BA):Int:=([1,26,936,33696,1213056]:BA).getD (bU s 1 % 5).toNat 0
def Iq(s:BA)(n:Nat):AT:=mW (bU s 0 % (26*36 ^ (10:Int).toNat)) (yE s) n
theorem E8(s:BA):0<=yE s/\yE s<=1213056:=by
 unfold yE;have:(bU s 1 % 5).toNat=0\/(bU s 1 % 5).toNat=1\/(bU s 1 % 5).toNat=2\/(bU s 1 % 5).toNat=3\/(bU s 1 % 5).toNat=4:=by lia
 obtain e|e|e|e|e:=this<;>rw[e]<;>decide
def cj(es:BA)(k:Nat):BA:=if (12:Int)<(([(k:Int)]++cW es k).length:Nat) then cutD ([(k:Int)]++cW es k) QdP none else [(k:Int)]++cW es k
theorem oN{k:Nat}(h:jd es)(f:k+1=es.length):0<(cj es k).length/\(cj es k).length<=es.length+2/\∀x∈cj es k,0<=x/\x<es.length:=by
 have hm:∀x∈[(k:Int)]++cW es k,0<=x/\x<es.length:=λx a=>by
  obtain h1|h1:=eB.1 a
  .have:x=k:=eL.1 h1;lia
  .have b:=h.at (k:=k) We We;have:=CK h _ b.1 We h1;lia
 have d:([(k:Int)]++cW es k).length<=es.length+2:=by
  have:=wR QeL es (es.getD (k:Int).toNat 0);rw[fg];unfold cW;rw[hJ];lia
 unfold cj;split
 .have e:cutD ([(k:Int)]++cW es k) QdP none=cW es k:=by simp[cutD,fg,hJ,HT.iO]
  rw[e];have c:=fg (as:=[(k:Int)]) (bs:=cW es k);rw[hJ]at c;exact#[We,We,λx a=>hm x (e4 _ a)]
 simp_all
theorem getD_mem{l:BA}{n:Nat}(h:n<l.length):l.getD n 0∈l:=by simp_all
def lV(es:BA)(p:Qec):BA:=if p.1 % 8<3 then es++[(cj es QiI).getD (p.1 / 8 % ((cj es QiI).length:Nat)).toNat 0] else es
def TN(l:CU):BA:=l.foldl lV [-1]
theorem YT(p:Qec)(h:jd es)(h0:QoM):jd Qph/\(lV es p).length=es.length+Qq8:=by
 unfold lV;split
 .obtain⟨e,d,a⟩:=oN (k:=es.length-1) h We;have b2:=hz Qgh (b:=((cj es QiI).length)) We;have c:=a _ (getD_mem (n:=(p.1 / 8 % ((cj es QiI).length)).toNat) We);refine#[h.snoc We c.2,?_];simp
 simp_all
def ly:CU->Nat
 | []=>0
 | p::r=>(if p.1 % 8<3 then 1 else 0)+ly r
theorem CW:∀(l:CU) (es:BA),jd es->0<es.length->jd Qni/\(l.foldl lV es).length=es.length+ly l
 | [],es,h,h0=>#[h,rfl]
 | p::r,es,h,h0=>by
  obtain⟨a,c⟩:=YT p h h0;obtain⟨a2,c2⟩:=CW r _ a We;refine#[a2,?_];rw[jL,c2,c,ly];lia
theorem yF:jd [-1]:=λk a=>by
 have:k=0:=by
  rw[hJ]at a;lia
 subst this;exact#[Int.le_refl _,show(-1:Int)<((0:Nat):Int) by decide]
theorem qb:∀l:CU,ly l<=l.length
 | []=>eA _
 | p::r=>by
  have:=qb r;rw[ly,hq];split<;>lia
def Lk(l:CU):jd (TN l)/\(TN l).length=1+ly l:=CW l [-1] yF (l6 0)
def ux(l:CU):BA:=(l.filter λp=>decide (p.1 % 8<3)).map (·.2)
theorem rH:∀l:CU,(ux l).length=ly l
 | []=>rfl
 | p::r=>by
  have:=rH r;unfold ux at this ⊢;rw[ly,List.filter_cons];split
  .rename_i h;rw[ee (er h),eM,hq,this];lia
  simp_all
def kindB(es cs:BA)(k:Nat):Str:=if um es k=[] then "leaf" else if cs.getD k 0 % 2=1 then "all" else "one"
def oO(es cs:BA)(k:Nat):Int:=if um es k=[] then -1 else if cs.getD k 0 % 2=1 then -1 else(um es k).getD (cs.getD k 0 / 2 % ((um es k).length:Nat)).toNat 0
def gj(es cs:BA)(n:Nat):AT:=(List.range n).map (kindB es cs)
def gk(es cs:BA)(n:Nat):BA:=(List.range n).map (oO es cs)
def yG(es cs:BA)(n:Nat):(gj es cs n).length=n:=by rw[gj,ed,gi]
def yH(es cs:BA)(n:Nat):(gk es cs n).length=n:=by rw[gk,ed,gi]
def oQ(es cs:BA)(n:Nat){x:Str}(h:x=kindB es cs n):((gj es cs n).map D.str).map T.sh++[T.sh QaL]=((gj es cs Qaw).map D.str).map T.sh:=by
 subst h;rw[gj,gj,oP,fb,fb,fb];rfl
def E9(es cs:BA)(n:Nat)(h:x=oO es cs n):((gk es cs n).map D.int).map T.sh++[T.sh QjC]=((gk es cs Qaw).map D.int).map T.sh:=by
 subst h;rw[gk,gk,oP,fb,fb,fb];rfl
def Sm:Nat->D->Prop
 | _,.int _=>True
 | _,.str _=>True
 | n+1,.lst ds=>ds.length<=1000/\∀d∈ds,Sm n d
 | n+1,.tup ds=>ds.length<=1000/\∀d∈ds,Sm n d
 | _,_=>False
def adN(bs:BC)(ns ks:AT)(es ss:BA)(is os ws:BC):D:=.lst [.lst bs,.lst Qdt,.lst QcP,.lst QbW,.lst QcQ,.lst is,.lst os,.lst ws]
structure oR(P:Qj3)(d:D):Prop where
 im:d.iQ=true
 sm:∀n,Sm (n+2) d
 dp:∀n,mK (n+2) d
 pr:P d
def dz(nb:Nat)(d:D):Prop:=∃a c:Int,d=.tup [.int a,.int c]/\(a=-1\/(0<=a/\a<nb))/\c.natAbs<10 ^ 30
def j3(nb:Nat)(d:D):Prop:=(∃n:Str,d=.tup [.str "call",.str n]/\n.length<=21)\/(∃(k:Int) (t:D),d=.tup [.str "put",.int k,t]/\(0<=k/\k<nb)/\dz nb t)\/(∃(n:Str) (t:D),d=.tup [.str "say",.str n,t]/\n.length<=21/\dz nb t)
def ig(nb nm:Nat)(d:D):Prop:=(∃(w:Str) (k:Int),d=.tup [.str w,.int k]/\(w="open" \/ w="shut")/\0<=k/\k<nm)\/(∃(w:Str) (s t:D),d=.tup [.str w,s,t]/\w∈(["<","<=","=","!="]:AT)/\dz nb s/\dz nb t)
def join_eq(l:AT):Txt.join " " l=Str.join " " l:=StrLaws.glued_eq_join _ _
noncomputable def CY(c:Int):Int:=if c % 2=1 then 0-c / 2 % 10 ^ (30:Int).toNat else c / 2 % 10 ^ (30:Int).toNat
def me(p c:Int)(n:Nat):D:=.tup [.int (p % ((n:Int)+1)-1),.int (CY c)]
def YV(c:Int)(n:Nat):Int:=c % ((n:Int)+1)-1
def TQ(a c:Int)(n:Nat):Str:=if YV c n=-1 then "new" else(["new","near","far"]:AT).getD (a / 8 % 3).toNat Str.empty
def y2(a c src:Int)(n:Nat)(ns:AT):D:=.tup [.int src,.str (ns.getD (a / 24 % (ns.length:Int)).toNat Str.empty),.tup [],.tup [],.int (YV c n),.str (TQ a c n)]
def OS(a c:Int)(n m:Nat):D:=if a / 8 % 6 > 3 then .tup [.str ((["open","shut"]:AT).getD (a / 8 % 6-4).toNat Str.empty),.int (c % (m:Int))]
 else .tup [.str ((["<","<=","=","!="]:AT).getD (a / 8 % 6).toNat Str.empty),me (a / 8 / 6) c n,me (a / 8 / 24) Qtm n]
def nO(a c:Int)(n:Nat)(ns:AT):D:=if a / 8 % 3=0 then .tup [.str "call",.str Qqw]
 else if a / 8 % 3=1/\0<n then .tup [.str "put",.int (a / 24 / 4 % (n:Int)),me QjA Qgx n] else .tup [.str "say",.str Qqw,me QjA Qgx n]
structure WY where
 src:Int
 sg:Str
 qs:BC
 ds:BC
 tg:Int
 md:Str
def WY.d(w:WY):D:=.tup [.int w.src,.str w.sg,.tup w.qs,.tup w.ds,.int w.tg,.str w.md]
abbrev _root_.D2:=List BC
structure OW where
 is:D2
 os:D2
 ws:List WY
noncomputable def mc:WY:=#[0,Str.empty,[],[],0,Str.empty]
def BH(a c src:Int)(n:Nat)(ns:AT):WY:=#[src,ns.getD (a / 24 % (ns.length:Int)).toNat Str.empty,[],[],YV c n,TQ a c n]
def gI(l:QbE):WY:=l.getD Qcd mc
def je(l:D2)(d:D):D2:=l.set Qcd Qvi
def j4(nb nm:Nat)(ns:AT)(o:OW)(p:Qec):OW:=
 if p.1 % 8<3 then#[o.is++[[]],o.os++[[]],o.ws]
 else if p.1 % 8=3 then#[je o.is QmN,o.os,o.ws]
 else if p.1 % 8=4 then#[o.is,je o.os QmN,o.ws]
 else if p.1 % 8=5\/o.ws=[]\/(gI o.ws).src≠(o.is.length:Int)-1 then#[o.is,o.os,o.ws++[BH p.1 p.2 ((o.is.length:Int)-1) nm ns]]
 else if p.1 % 8=6 then#[o.is,o.os,o.ws.set Qez {gI o.ws with qs:=(gI o.ws).qs++[OS p.1 p.2 nb nm]}]
 else#[o.is,o.os,o.ws.set Qez {gI o.ws with ds:=(gI o.ws).ds++[nO p.1 p.2 nb ns]}]
noncomputable def TR:OW:=#[[[]],[[]],[]]
structure JO(nm:Nat)(w:WY):Prop where
 s1:PyData.strOk w.sg=true
 s2:PyData.strOk w.md=true
 s3:w.sg.length<=21
 tg:w.tg=-1/\w.md="new" \/ (0<=w.tg/\w.tg<nm)/\w.md∈(["new","near","far"]:AT)
structure qB(nb nm m k:Nat)(w:WY):Prop where
 l3:w.qs.length+w.ds.length<=k
 g1:∀d∈w.qs,oR QoN d
 g2:∀d∈w.ds,oR QdV d
 fin:JO nm w
 sr:0<=w.src/\w.src<m
structure j5(P:Qj3)(k:Nat)(l:BC):Prop where
 l1:l.length<=k
 g1:∀d∈l,oR P d
structure CZ(nb nm k:Nat)(o:OW):Prop where
 n0:0<o.is.length
 n1:o.is.length<=k+1
 n2:o.os.length=o.is.length
 ii:∀l∈o.is,j5 QdV k l
 oo:∀l∈o.os,j5 QdV k l
 wl:o.ws.length<=k
 ww:∀w∈o.ws,qB nb nm o.is.length k w
variable{nb:Nat}
theorem qB.up{nm m m2 k:Nat}{w:WY}(h:Qi1)(hm:m<=m2):qB nb nm m2 Qaf w:=#[hU h.l3,h.g1,h.g2,h.fin,h.sr.1,by have:=h.sr.2;lia]
theorem qB.l1{nm m k:Nat}{w:WY}(h:Qi1):w.qs.length<=k:=by have:=h.l3;lia
theorem qB.l2{nm m k:Nat}{w:WY}(h:Qi1):w.ds.length<=k:=by have:=h.l3;lia
variable{P:Qj3}{l:BC}
theorem j5.up{k:Nat}(h:j5 P k l):j5 P Qaf l:=#[hU h.l1,h.g1]
theorem j5.add{k:Nat}{d:D}(h:j5 P k l)(g:oR P d):j5 P Qaf (l++[d]):=by
 refine#[?_,λx a=>?_]
 .have:=h.l1;simp;lia
 .obtain a|a:=eB.1 a
  .exact h.g1 x a
  simp_all
theorem j5.nil(P:Qj3)(k:Nat):j5 P k []:=#[fT _,λx a=>by cases a]
theorem jH{l:QR}(z:α)(h:Qj4):l.getD Qcd z∈l:=by
 rw[eD,ft We];exact j1 _
def Fb{k:Nat}{l:D2}{d:D}(h0:Qj4)(h:∀x∈l,j5 P k x)(g:oR P d):∀x∈je l d,j5 P Qaf x:=λx a=>by
 obtain a|rfl:=kj a
 .exact(h x a).up
 .exact(h _ QoO).add g
def wU(n:Nat)(p c:Int)(nb:Nat):Sm Qaw Qov:=by
 refine#[by show 2<=1000;decide,λd hd=>?_];obtain rfl|hd:=eg.1 hd
 .cases n<;>trivial
 .cases eL.1 hd;cases n<;>trivial
def wV(n:Nat)(p c:Int)(nb:Nat):mK Qaw Qov:=by
 refine .tup λd hd=>?_;obtain rfl|hd:=eg.1 hd
 .exact .int _ _
 .cases eL.1 hd;exact .int _ _
def good2{x y:D}(b:P (.tup [x,y]))(a:x.iQ=true)(a2:y.iQ=true)(c:∀n,Sm Qaw x)(c2:∀n,Sm Qaw y)(e:∀n,mK Qaw x)(e2:∀n,mK Qaw y):oR P (.tup [x,y]):=by
 refine#[?_,λn=>#[by show(2:Nat)<=1000;decide,λd hd=>?_],λn=>.tup λd hd=>?_,b]
 .rw[D.iQ,D.bV,D.bV,D.bV,a,a2];rfl
 .obtain rfl|hd:=eg.1 hd
  .exact c n
  .cases eL.1 hd;exact c2 n
 .obtain rfl|hd:=eg.1 hd
  .exact e n
  .cases eL.1 hd;exact e2 n
def good3{x y z:D}(b:P (.tup [x,y,z]))(a:x.iQ=true)(a2:y.iQ=true)(a3:z.iQ=true)(c:∀n,Sm Qaw x)(c2:∀n,Sm Qaw y)(f:∀n,Sm Qaw z)(e:∀n,mK Qaw x)(e2:∀n,mK Qaw y)(e3:∀n,mK Qaw z):oR P (.tup [x,y,z]):=by
 refine#[?_,λn=>#[by show 3<=1000;decide,λd hd=>?_],λn=>.tup λd hd=>?_,b]
 .rw[D.iQ,D.bV,D.bV,D.bV,a,a2,a3];rfl
 .obtain rfl|hd:=eg.1 hd
  .exact c n
  obtain rfl|hd:=eg.1 hd
  .exact c2 n
  .cases eL.1 hd;exact f n
 .obtain rfl|hd:=eg.1 hd
  .exact e n
  obtain rfl|hd:=eg.1 hd
  .exact e2 n
  .cases eL.1 hd;exact e3 n
noncomputable def iI(n:Nat)(x:Str):Sm Qaw QaL:=trivial
noncomputable def C1(n:Nat)(x:Int):Sm Qaw QjC:=trivial
theorem qc{l:AT}(h:∀x∈l,PyData.strOk x=true)(k:Nat):PyData.strOk (l.getD k Str.empty)=true:=by
 simp;cases e:l[k]? with
 | none=>decide +kernel
 | some x=>exact h x (ff e)
theorem yI{l:AT}(h:∀x∈l,x.length<=21)(k:Nat):(l.getD k Str.empty).length<=21:=by
 rw[eD];cases e:l[k]? with
 | none=>exact fT _
 | some x=>exact h x (ff e)
theorem TV(c:Int):(CY c).natAbs<10 ^ 30:=by
 have d:=hz (c / 2) (show 0<10 ^ (30:Int).toNat by decide +kernel);unfold CY;split<;>lia
theorem qd(p c:Int)(nb:Nat):dz nb Qov:=by
 have a:=gL p (show((nb:Int)+1)≠0 by lia);have d:=hz p (show 0<(nb:Int)+1 by lia);exact#[_,_,rfl,We,TV c]
structure OU(ns:AT):Prop where
 ln:∀x∈ns,x.length<=21
 ok:∀x∈ns,PyData.strOk x=true
theorem jO(a c:Int)(nb:Nat){ns:AT}(h:OU ns):oR QdV (nO a c nb ns):=by
 unfold nO;split
 .exact good2 (.inl #[_,rfl,yI h.ln _]) rfl rfl Qbf Qbf Qet QrE
 split
 .exact good3 (.inr QqM) rfl rfl rfl Qbf QiF Qie Qet Qiq Qif
 .exact good3 (.inr (.inr #[_,_,rfl,yI h.ln _,qd _ _ _])) rfl rfl rfl Qbf Qbf Qie Qet QrE Qif
def mX{l:AT}{k:Nat}(h:QjY):l.getD k Str.empty∈l:=by
 rw[eD,ft h];exact j1 h
theorem Fd(a c:Int)(nb:Nat){nm:Nat}(h:0<nm):oR QoN (OS a c nb nm):=by
 unfold OS;split
 .refine good2 (.inl #[_,_,rfl,?_,gL _ We,hz _ We]) rfl rfl Qbf QiF QsY Qiq;have:=mX (l:=["open","shut"]) (k:=(a / 8 % 6-4).toNat) (by show _<2;lia);simp_all
 .exact good3 (.inr #[_,_,_,rfl,mX (by show _<4;lia),qd _ _ _,qd _ _ _]) rfl rfl rfl Qbf Qie Qie QsY Qif Qif
def adR(a c:Int)(n:Nat):PyData.strOk (TQ a c n)=true:=by
 unfold TQ;split
 .decide +kernel
 .exact qc Wl _
theorem YW(a c src:Int){nm:Nat}{ns:AT}(h:OU ns):JO nm (BH a c src nm ns):=by
 have m0:=gL c (show((nm:Int)+1)≠0 by lia);have m1:=hz c (show 0<(nm:Int)+1 by lia);refine#[qc h.ok _,adR _ _ _,yI h.ln _,?_];show YV c nm=-1/\TQ a c nm="new" \/ (0<=YV c nm/\YV c nm<nm)/\TQ a c nm∈(["new","near","far"]:AT);unfold TQ;split
 .rename_i e;exact .inl #[e,rfl]
 .rename_i e;refine .inr #[?_,mX (by show _<3;lia)];unfold YV at e ⊢;lia
def TX{nm m k:Nat}{l:QbE}{w:WY}(h:∀x∈l,qB nb nm m k x)(hw:qB nb nm m Qaf w):∀x∈l.set j w,qB nb nm m Qaf x:=λx a=>by
 obtain a|rfl:=kj a
 .exact(h x a).up (eA _)
 .exact hw
theorem C2{P:α->Prop}{l:QR}{y:α}(h:∀x∈l,P x)(b:P y):∀x∈l++[y],P x:=λx a=>by
 obtain a|a:=eB.1 a
 .exact h x a
 simp_all
theorem YX{k nm:Nat}{ns:AT}{o:OW}(p:Qec)(hn:OU ns)(hm:0<nm)(h:CZ nb nm k o):CZ nb nm Qaf Qwk:=by
 obtain⟨n0,n1,n2,ii,oo,wl,ww⟩:=h;have c:∀l∈o.is,j5 QdV Qaf l:=λl a=>(ii l a).up;have b:∀l∈o.os,j5 QdV Qaf l:=λl a=>(oo l a).up;have e:∀w∈o.ws,qB nb nm o.is.length Qaf w:=λw hw=>(ww w hw).up (eA _);unfold j4;split
 .have e1:(o.is++[[]]).length=o.is.length+1:=by rw[fg,hJ]
  refine#[?_,?_,?_,C2 c (j5.nil _ _),C2 b (j5.nil _ _),hU wl,λw hw=>(ww w hw).up ?_]
  .show 0<(o.is++[[]]).length;lia
  .show(o.is++[[]]).length<=_;lia
  .show(o.os++[[]]).length=(o.is++[[]]).length;rw[fg,fg,n2]
  .show o.is.length<=(o.is++[[]]).length;lia
 split
 .have e1:(je o.is QmN).length=o.is.length:=by rw[je,ij]
  refine#[?_,?_,?_,Fb n0 ii (jO _ _ _ hn),b,hU wl,λw hw=>(ww w hw).up ?_]
  .show 0<(je o.is _).length;lia
  .show(je o.is _).length<=_;lia
  .show o.os.length=(je o.is _).length;lia
  .show o.is.length<=(je o.is _).length;lia
 split
 .refine#[n0,hU n1,?_,c,Fb We oo (jO _ _ _ hn),hU wl,e];show(je o.os _).length=_;rw[je,ij,n2]
 split
 .refine#[n0,hU n1,n2,c,b,?_,C2 e #[fT _,(λd hd=>by cases hd),(λd hd=>by cases hd),YW _ _ _ hn,?_]]
  .show(o.ws++[_]).length<=_;rw[fg,hJ];lia
  .show 0<=(o.is.length:Int)-1/\(o.is.length:Int)-1<o.is.length;lia
 rename_i f;have i:o.ws≠[]:=λz=>f Qnb;have a:qB nb nm o.is.length k Qjw:=ww _ (jH mc (kA.2 i));have hlen:∀w,(o.ws.set Qez w).length<=k+1:=λw=>by
  rw[ij];lia
 split
 .have:=(j5.mk a.l1 a.g1).add (Fd p.1 p.2 nb hm);have g:=a.l3;exact#[n0,hU n1,n2,c,b,hlen _,TX ww #[by show((gI o.ws).qs++[_]).length+(gI o.ws).ds.length<=_;rw[fg,hJ];lia,this.g1,a.g2,#[a.fin.1,a.fin.2,a.fin.3,a.fin.4],a.sr]]
 .have:=(j5.mk a.l2 a.g2).add (jO p.1 p.2 nb hn);have g:=a.l3;exact#[n0,hU n1,n2,c,b,hlen _,TX ww #[by show(gI o.ws).qs.length+((gI o.ws).ds++[_]).length<=_;rw[fg,hJ];lia,a.g1,this.g1,#[a.fin.1,a.fin.2,a.fin.3,a.fin.4],a.sr]]
theorem Ir{nb nm:Nat}{ns:AT}(hn:OU ns)(hm:0<nm):∀(l:CU) (k:Nat) (o:OW),CZ nb nm k o->CZ nb nm (k+l.length) QvK
 | [],k,o,h=>h
 | p::r,k,o,h=>by
  have:=Ir hn hm r _ _ (YX p hn hm h);simp
  rwa [show k+Qob=k+1+r.length by lia]
def T3(nb nm:Nat):CZ nb nm 0 TR:=#[eA _,eA _,rfl,λl a=>by cases eL.1 a;exact j5.nil _ _,λl a=>by cases eL.1 a;exact j5.nil _ _,eA _,λw hw=>by cases hw]
def YY(nb nm:Nat)(ns:AT)(l:CU):OW:=l.foldl Qdw TR
def yJ{k:Nat}(h:j5 P k l):(D.tup l).iQ=true:=by
 rw[D.iQ];exact iF λd hd=>(h.g1 d hd).im
section
variable{nm m k:Nat}
def Iu{w:WY}(h:Qi1):w.d.iQ=true:=by
 have a:=yJ #[h.l1,h.g1];have c:=yJ #[h.l2,h.g2];show(D.tup _).iQ=true;rw[D.iQ,D.bV,D.bV,D.bV,D.bV,a,c];rfl
def qf{l:D2}(h:∀x∈l,j5 P k x):D.bV (l.map D.tup)=true:=iF λd hd=>by
 obtain⟨x,a,rfl⟩:=ef.1 hd;exact yJ (h x a)
def C3{l:QbE}(h:∀x∈l,qB nb nm m k x):D.bV (l.map WY.d)=true:=iF λd hd=>by
 obtain⟨x,a,rfl⟩:=ef.1 hd;exact Iu (h x a)
def adS{l:QbE}(h:∀x∈l,qB nb nm m k x):mK 60 (.lst (l.map WY.d)):=by
 refine .lst λd hd=>?_;obtain⟨x,a,rfl⟩:=ef.1 hd;have a:=h x a;refine .tup λd hd=>?_;obtain rfl|hd:=eg.1 hd
 .exact .int _ _
 obtain rfl|hd:=eg.1 hd
 .exact .str _ _ a.fin.s1
 obtain rfl|hd:=eg.1 hd
 .exact .tup λd hd=>(a.g1 d hd).dp 55
 obtain rfl|hd:=eg.1 hd
 .exact .tup λd hd=>(a.g2 d hd).dp 55
 obtain rfl|hd:=eg.1 hd
 .exact .int _ _
 .cases eL.1 hd;exact .str _ _ a.fin.s2
end
theorem C4(ds:BC):Nz QbZ Qf5=decide (ds=[]):=by
 cases ds with
 | nil=>decide +kernel
 | cons d ds=>
  rfl
theorem mY{n:Nat}(h:0<n):DX n (-1)=some (n-1):=by
 unfold DX;rw[cq Wp,ee We];congr 1;lia
theorem j6{f:QbD}{l:QR}(z:α)(h:Qj4):mD Qcr (-1)=some QuA:=by
 unfold mD;rw[ed,mY h];show(l.map f)[l.length-1]? = _;rw[fR,eD,ft We];rfl
theorem T4{f:QbD}{l:QR}(z:α)(h:Qj4):mD Qcr ((l.length:Int)-1)=some QuA:=by
 have:=dF (f:=f) (l:=l) (k:=l.length-1) z We We;simp_all
theorem T5{n:Nat}(h:0<n):DX n ((n:Int)-1)=some (n-1):=by
 unfold DX;rw[ee We,ee We];congr 1;lia
noncomputable def D5(l:D2):T:=.lst ((l.map D.tup).map T.sh)
def T6(l:QbE):T:=.lst ((l.map WY.d).map T.sh)
def Fe(l:D2):T.lst ((l.map D.tup).map T.sh++[T.sh (.tup [])])=D5 (l++[[]]):=by
 rw[D5,fb,fb];rfl
def T7(l:QbE)(w:WY):T.lst ((l.map WY.d).map T.sh++[T.sh w.d])=T6 (l++[w]):=by
 rw[T6,fb,fb];rfl
def Lp(l:D2)(d:D):T.lst (((l.map D.tup).map T.sh).set Qcd (T.sh (.tup Qvi)))=D5 (je l d):=by
 rw[D5,je,ke,ke]
def Lq(l:QbE)(j:Nat)(w:WY):T.lst (((l.map WY.d).map T.sh).set j (T.sh w.d))=T6 (l.set j w):=by
 rw[T6,ke,ke]
def C5{bs nm is os ws:BC}{t:T}(h1:D.bV bs=true)(e:D.bV nm=true)(d:t.clean=true)(c:D.bV is=true)(b:D.bV os=true)(a:D.bV ws=true):T.cy Quz=true:=by
 unfold oK uo uq;rw[hS,hS,List.nil_append,T.cy,T.cy,T.cy,T.cy,T.cy,T.cy,bJ h1,bJ e,d,bJ c,bJ b,bJ a];rfl
def Oy:¬ (HT.iO 6 0 none=0/\HT.iO 6 6 (some 2)=6):=by decide
noncomputable def G1:¬ (HT.iO 6 0 (some 3)=0/\HT.iO 6 6 none=6):=by decide
def Of:¬ (HT.iO 6 0 none=0/\HT.iO 6 6 (some 3)=6):=by decide
def NH:¬ (HT.iO 6 0 (some 4)=0/\HT.iO 6 6 none=6):=by decide
noncomputable def aX:D->Nat->D
 | .tup ds,k=>ds.getD k .non
 | _,_=>.non
noncomputable def sI(i:Int):Str:=Str.ofString Qt5
variable{i:Int}
def j7(h:i.natAbs<10 ^ 30):(sI i).length<=31:=by
 have:=int_text_length_le10 (k:=30) Wp h;unfold sI;rw[ofString_length];exact this
def Iv(h:i.natAbs<10 ^ 30):i.natAbs.log2<1920:=by
 by_cases z:i.natAbs=0
 .rw[z];decide
 .exact(Nat.log2_lt z).2 (Nat.lt_trans h Wl)
def YZ(a c:QaS):Str.ofString (a++c)=Str.ofString a++Str.ofString c:=by
 rw[Str.ofString_eq_toList,Str.ofString_eq_toList,Str.ofString_eq_toList];apply Str.ext';show((a++c).toList.map _).toArray=(a.toList.map _).toArray++(c.toList.map _).toArray;simp
def adT(h:i<0):sI i="-" ++ sI (i.natAbs:Int):=by
 obtain⟨n,rfl⟩:=Int.eq_negSucc_of_lt_zero h;exact YZ "-" _
noncomputable def yK(k:Int):Str:=if 0<k then "+" else "-"
def sH(k:Int):(yK k).length=1:=by
 unfold yK;split<;>rfl
def eY(bn:AT)(d:D):Str:=if (aX d 0).iZ=-1 then sI (aX d 1).iZ else if (aX d 1).iZ=0 then bn.getD (aX d 0).iZ.toNat Str.empty
 else bn.getD (aX d 0).iZ.toNat Str.empty++yK (aX d 1).iZ++sI ((aX d 1).iZ.natAbs:Int)
def fU(bn:AT)(d:D):Str:=if (aX d 0).toS="call" then "call " ++ (aX d 1).toS
 else(aX d 0).toS++" " ++ QpI++" " ++ eY bn Qbh
def kG(bn ns:AT)(d:D):Str:=if d.cnt=2 then(aX d 0).toS++" " ++ ns.getD (aX d 1).iZ.toNat Str.empty
 else eY bn QdT++" " ++ (aX d 0).toS++" " ++ eY bn Qbh
def wW(bn:AT)(a k:Int):eY bn (.tup [.int a,.int k])=if a=-1 then sI k else if k=0 then bn.getD a.toNat Str.empty else bn.getD a.toNat Str.empty++yK k++sI (k.natAbs:Int):=rfl
def Iw(bn:AT)(n:Str):fU bn QhL="call " ++ n:=ee rfl
def ae3(bn:AT)(k:Int)(t:D):fU bn Qlc="put" ++ " " ++ bn.getD k.toNat Str.empty++" " ++ eY bn t:=rfl
def ae4(bn:AT)(n:Str)(t:D):fU bn Qld="say" ++ " " ++ n++" " ++ eY bn t:=rfl
def T8(bn ns:AT)(w:Str)(k:Int):kG bn ns (.tup [.str w,.int k])=w++" " ++ ns.getD k.toNat Str.empty:=rfl
def Iz(bn ns:AT)(w:Str)(s t:D):kG bn ns (.tup [.str w,s,t])=eY bn s++" " ++ w++" " ++ eY bn t:=rfl
theorem j8{l:AT}(h:∀x∈l,x.length<=21)(k:Nat):(l.getD k Str.empty).length<=21:=by
 rw[eD];cases e:l[k]? with
 | none=>exact fT _
 | some x=>exact h x (ff e)
theorem kN{bn:AT}{d:D}(h:∀x∈bn,x.length<=21)(hd:dz nb d):(eY bn d).length<=53:=by
 obtain⟨a,c,rfl,_,b⟩:=hd;have e:=j8 h a.toNat;have e2:=j7 b;have e3:=j7 (i:=c.natAbs) ‹_›;show(if a=-1 then sI c else if c=0 then bn.getD a.toNat _ else bn.getD a.toNat _++yK c++sI c.natAbs).length<=53;split
 .lia
 split
 .lia
 .rw[str_len,str_len];have:=sH c;lia
theorem jf{bn:AT}{d:D}(h:∀x∈bn,x.length<=21)(hd:j3 nb d):(fU bn d).length<=110:=by
 obtain⟨n,rfl,hn⟩|⟨k,t,rfl,_,a⟩|⟨n,t,rfl,hn,a⟩:=hd
 .show(("call ":Str)++n).length<=110;rw[str_len];have:("call ":Str).length=5:=rfl;lia
 .have:=kN h a;have e:=j8 h k.toNat;show(("put":Str)++" " ++ bn.getD k.toNat Str.empty++" " ++ eY bn t).length<=110;rw[str_len,str_len,str_len,str_len];have:("put":Str).length=3:=rfl;have:(" ":Str).length=1:=rfl;lia
 .have:=kN h a;show(("say":Str)++" " ++ n++" " ++ eY bn t).length<=110;rw[str_len,str_len,str_len,str_len];have:("say":Str).length=3:=rfl;have:(" ":Str).length=1:=rfl;lia
theorem wX{bn ns:AT}{nm:Nat}{d:D}(h:∀x∈bn,x.length<=21)(c:∀x∈ns,x.length<=21)(hd:Qhb):(kG bn ns d).length<=110:=by
 have e1:(" ":Str).length=1:=rfl;obtain⟨w,k,rfl,hw,_⟩|⟨w,s,t,rfl,hw,b,a⟩:=hd
 .have e:=j8 c k.toNat;have:w.length<=4:=by obtain rfl|rfl:=hw<;>decide +kernel
  show(w++" " ++ ns.getD k.toNat _).length<=110;rw[str_len,str_len];lia
 .have a1:=kN h b;have a2:=kN h a;have:=by
   have:∀x∈(["<","<=","=","!="]:AT),x.length<=2:=by decide +kernel
   exact this w hw
  show(eY bn s++" " ++ w++" " ++ eY bn t).length<=110;rw[str_len,str_len,str_len,str_len];lia
def jn(a:Str)(l:AT):Str:=l.foldl (λx w=>x++" " ++ w) a
def sJ(a:Str)(l m:AT):jn a (l++m)=jn (jn a l) m:=h9
theorem T9(z:Str):∀(l:AT) (a:Str),z++jn a l=jn (z++a) l
 | [],a=>rfl
 | w::l,a=>by
  show z++jn _ l=jn (z++a++" " ++ w) l;rw[T9 z l,i4 z a " ",i4 z _ w]
theorem Lr:∀(l:AT) (a:Str),Txt.join " " (a::l)=jn a l
 | [],a=>rfl
 | w::l,a=>by
  have b:=Lr l w;rw[join_eq]at b ⊢;show a++" " ++ Str.join " " _=jn _ l;rw[b,T9]
theorem uy{B:Nat}:∀(l:AT) (a:Str),(∀x∈l,x.length<=B)->(jn a l).length<=a.length+l.length*(B+1)
 | [],a,_=>by show a.length<=_;lia
 | w::l,a,h=>by
  have h1:=h w eu;have c:=uy l (a++" " ++ w) λx b=>h x Qbw;rw[str_len,str_len]at c;have e1:(" ":Str).length=1:=rfl;show(jn _ l).length<=_;simp;lia
def y1(a f x lit:Str)(h:lit=" " ++ f++" "):a++lit++x=jn a [f,x]:=by
 subst h;show a++(" " ++ f++" ")++x=a++" " ++ f++" " ++ x;rw[i4 " " f " ",<- i4 a " " _,<- i4 _ f " "]
def wY(f g:Str):AT->AT
 | []=>[]
 | t::r=>f::t::r.flatMap λx=>[g,x]
theorem Ua(f g:Str)(l:AT)(t:Str):wY f g (l++[t])=wY f g l++[if l=[] then f else g,t]:=by
 cases l with
 | nil=>rfl
 | cons x r=>
  show f::x::(r++[t]).flatMap _=_;simp;rfl
theorem qg(f g:Str)(l:AT):(wY f g l).length=2*l.length:=by
 cases l with
 | nil=>rfl
 | cons x r=>
  show(f::x::r.flatMap _).length=_;have:∀r:AT,(r.flatMap λy=>[g,y]).length=2*r.length:=λr=>by
   induction r with
   | nil=>rfl
   | cons y r a=>
    rw[ik,fg,a];show 2+2*r.length=2*Qob;lia
  rw[hq,hq,this,hq];lia
variable{f g:Str}
theorem qh{l:AT}{P:Str->Prop}(hf:P f)(b:P g)(h:∀x∈l,P x):∀x∈wY f g l,P x:=by
 cases l with
 | nil=>intro x a;cases a
 | cons y r=>
  intro x a;obtain rfl|a:=eg.1 a
  .exact hf
  obtain rfl|a:=eg.1 a
  .exact h _ eu
  .obtain⟨z,c,a⟩:=oy.1 a;obtain rfl|a:=eg.1 a
   .exact b
   simp_all
structure CH where
 bs:Cf
 ns:AT
 ks:AT
 es:BA
 ss:BA
 is:D2
 os:D2
 ws:List WY
def CH.d(c:CH):D:=jw Qi2 QiM Qvj Qnc Qnd QiN
noncomputable def CH.bn(c:CH):AT:=c.bs.map (·.1)
structure Y0(c:CH):Prop where
 nl:c.ns.length=c.es.length
 kl:c.ks.length=c.es.length
 sl:c.ss.length=c.es.length
 il:c.is.length=c.es.length
 e0:0<c.es.length
 e1:c.es.length<=41
 tr:jd c.es
 nk:∀x∈c.ns,x.length<=21
 b3:c.bs.length<=3
 bk:∀p∈c.bs,p.1.length<=21/\p.2.natAbs<10 ^ 30
 kk:∀x∈c.ks,x.length<=4
 one:∀m,m<c.es.length->(c.ks.getD m Str.empty="one"->0<=c.ss.getD m 0/\c.ss.getD m 0<c.es.length)/\(c.ks.getD m Str.empty≠"one"->c.ss.getD m 0=-1)
 ow:CZ c.bs.length c.es.length 40 #[c.is,c.os,c.ws]
def Y3(ns:AT)(w:WY):AT:=if w.tg=-1 then [] else ["to",ns.getD w.tg.toNat Str.empty]
def D6(w:WY):AT:=if w.md="new" then [] else [w.md]
def ma(bn ns:AT)(w:WY):AT:=w.sg::(wY "if" "and" (w.qs.map Qcm)++wY "do" "then" (w.ds.map Qc1)++(Y3 ns w++D6 w))
def C6(bn ns:AT)(w:WY):Str:=jn "on" (ma bn ns w)
def Ls(c:CH)(m:Nat):Str:=Txt.mul " " ((cW c.es m).length:Nat)
def IA(p:Qga):Str:="box " ++ p.1++" " ++ sI p.2
theorem Lv(n:Nat):(Txt.mul " " (n:Int)).length<=n+1:=by
 unfold Txt.mul;split
 .exact fT _
 split
 .show 1<=n+1;lia
 .have:∀(k:Nat) (a:Array Nat),((List.replicate k (" ":Str).cps).foldl _ a).size=a.size+k:=λk=>by
   induction k with
   | zero=>intro a;rfl
   | succ k b=>
    intro a;rw[List.replicate_succ,jL,b,Array.size_append];show a.size+1+k=_;lia
  show((List.replicate _ _).foldl _ #[]).size<=n+1;simp_all
theorem adW{n:Nat}(h:n<=1000):MulOk " " (n:Int):=by
 have e:(" ":Str).length=1:=rfl;refine#[WI,λh1 _=>?_,λ_ _=>?_]
 .rw[e];have:(1:Int)<=(2 ^ 63-1) / n:=Int.le_ediv_of_mul_le We We;lia
 .rw[e,hI];apply eP;rw[gc];lia
noncomputable def Hh(l:AT):Nat:=(l.map (·.length)).sum+l.length
theorem wZ(l r:AT):Hh (l++r)=Hh l+Hh r:=by
 unfold Hh;rw[fb,List.sum_append,fg];lia
theorem yL{B:Nat}:∀(l:AT),(∀x∈l,x.length<=B)->Hh l<=l.length*(B+1)
 | [],_=>fT _
 | x::l,h=>by
  have a:=h x eu;have d:=yL l λy b=>h y Qbw;unfold Hh at d ⊢;rw[eM,List.sum_cons,hq,Nat.succ_mul];lia
def cM(a c:Str):(a++c).cps.toList=a.cps.toList++c.cps.toList:=PySem.W.KT.app_list a c
def lz{a c:Str}(h:a.cps.toList=c.cps.toList):a=c:=Str.ext' (Array.toList_inj.1 h)
theorem C7{c:Nat}:∀{p q r s:CO},c∉p->c∉q->p++c::r=q++c::s->p=q/\r=s
 | [],[],_,_,_,_,h=>#[rfl,(hE h).2]
 | [],y::q,_,_,_,a,h=>absurd (hE h).1 (λe=>a (e▸eu))
 | x::p,[],_,_,b,_,h=>absurd (hE h).1 (λe=>b (e▸eu))
 | x::p,y::q,r,s,b,a,h=>by
  obtain⟨e1,e2⟩:=hE h;obtain⟨e3,d⟩:=C7 (λz=>b (eE _ z)) (λz=>a (eE _ z)) e2;simp_all
def j9(c:Nat)(a e:Str)(l:AT):(Str.join #[(List.toArray [c])] (a::e::l)).cps.toList=a.cps.toList++c::(Str.join #[(List.toArray [c])] (e::l)).cps.toList:=by
 show((a++(#[ _ ]))++Str.join _ _).cps.toList=_;rw[cM,cM,eJ];rfl
theorem yM{c:Nat}:∀{l m:AT},l≠[]->m≠[]->(∀p∈l,c∉p.cps.toList)->(∀p∈m,c∉p.cps.toList)->(Str.join #[(List.toArray [c])] l).cps.toList=(Str.join #[(List.toArray [c])] m).cps.toList->l=m
 | [],_,h,_,_,_,_=>absurd rfl h
 | _::_,[],_,h,_,_,_=>absurd rfl h
 | [a],[d],_,_,_,_,e=>by rw[show a=d from lz e]
 | [a],d::d2::m,_,_,b,_,e=>absurd (by
   rw[show a.cps.toList=_ from e,j9];exact e4 _ eu) (b a eu)
 | a::a2::l,[d],_,_,_,hm,e=>absurd (by
   rw[show d.cps.toList=_ from e.symm,j9];exact e4 _ eu) (hm d eu)
 | a::a2::l,d::d2::m,_,_,b,hm,e=>by
  rw[j9,j9]at e;obtain⟨e1,e2⟩:=C7 (b a eu) (hm d eu) e;have:=yM WA WA (λp f=>b p (eE _ f)) (λp f=>hm p (eE _ f)) e2;rw[this,lz e1]
variable{c:Nat}
def Ub{x:Str}(h:QvL)(lim:Nat)(b:1<=lim):∃i r,Builtin.Str.occurrences x #[(List.toArray [c])] 0 x.length lim=i::r/\x.cps.toList[i]? = some c/\∀k,k<i->x.cps.toList[k]? ≠ some c:=by
 obtain⟨_,a⟩|⟨i,r,h1,a,g⟩:=StrLaws.occ_head x _ lim b
 .obtain⟨j,f⟩:=List.getElem?_of_mem h;exact absurd ((u4 x c j).2 f) (a j)
 .exact#[i,r,h1,(u4 x c i).1 a,λk d e=>g k d ((u4 x c k).2 e)]
def adX{x:Str}(h:c∉x.cps.toList)(lim:Nat)(a:1<=lim):Builtin.Str.occurrences x #[(List.toArray [c])] 0 x.length lim=[]:=by
 obtain⟨h1,_⟩|⟨i,r,h1,b,d⟩:=StrLaws.occ_head x _ lim a
 .exact h1
 .exact absurd (ff ((u4 x c i).1 b)) h
theorem IB{l:AT}(h:2<=l.length)(hf:∀p∈l,c∉p.cps.toList):pY (Str.join #[(List.toArray [c])] l) #[(List.toArray [c])]=true/\splitM (Str.join #[(List.toArray [c])] l) #[(List.toArray [c])]=l:=by
 have b:c∈(Str.join #[(List.toArray [c])] l).cps.toList:=by
  match l,h with
  | a::d::l,_=>
   rw[j9];exact e4 _ eu
 have g:=StrLaws.join_split (Str.join #[(List.toArray [c])] l) #[(List.toArray [c])];have f:=StrLaws.split_free (Str.join #[(List.toArray [c])] l) c;have hlen:(#[(List.toArray [c])]:Str).length=1:=rfl;generalize k:Str.join #[(List.toArray [c])] l=x at b g f ⊢;obtain⟨i,r,j,_,_⟩:=Ub b Qjf (Nat.le_add_left _ _);have k1:¬ x.length<(#[(List.toArray [c])]:Str).length:=λz=>by
  have:x.cps.toList=[]:=o4 (by rw[vc];show x.length=0;lia);rw[this]at b;cases b
 have k2:=λz=>StrLaws.kind_free x c z b;have k3:(decide (x.length<(#[(List.toArray [c])]:Str).length) || decide (Builtin.Str.strKind x<Builtin.Str.strKind #[(List.toArray [c])]))=false:=by
  rw[eP k1,eP k2];rfl
 have e:Txt.split x #[(List.toArray [c])]=splitM x #[(List.toArray [c])]:=by
  unfold Txt.split splitM;rw[cq (by rw[k3];exact gq),cq (by rw[j];exact gq)]
 refine#[?_,?_]
 .unfold pY;rw[k3,j];rfl
 .rw[e]at g f;refine yM ?_ ?_ f hf ?_
  .intro z;have:=length_partsBetween x (Builtin.Str.occurrences x #[(List.toArray [c])] 0 x.length Qjf) (#[(List.toArray [c])]:Str).length;unfold splitM at z;rw[z]at this;cases this
  .intro z;rw[z]at h;exact absurd h Wp
  .rw[g,k]
def Y4{x:Str}(h:c∉x.cps.toList):part3 x #[(List.toArray [c])]=[x,"",""]:=by
 unfold part3;rw[adX h 1 (eA _)];rfl
theorem Uc{a r:Str}(h:c∉a.cps.toList):part3 (a++#[(List.toArray [c])]++r) #[(List.toArray [c])]=[a,#[(List.toArray [c])],r]:=by
 have e:(a++#[(List.toArray [c])]++r).cps.toList=a.cps.toList++c::r.cps.toList:=by
  rw[cM,cM,eJ];rfl
 have f:c∈(a++#[(List.toArray [c])]++r).cps.toList:=by
  rw[e];exact e4 _ eu
 obtain⟨i,s,b,h1,g⟩:=Ub f 1 (eA _);have hi:i=a.cps.toList.length:=by
  obtain z|z|z:=Nat.lt_trichotomy i a.cps.toList.length
  .rw[e,km z]at h1;exact absurd (ff h1) h
  .exact z
  .refine absurd ?_ (g _ z);rw[e,r4 (eA _),Nat.sub_self];rfl
 unfold part3;rw[b];subst hi;have k:Builtin.Str.strSub (a++#[(List.toArray [c])]++r) 0 a.cps.toList.length=a:=lz (by
  rw[StrLaws.strSub_toList,e,List.drop_zero,Nat.sub_zero,List.take_left])
 have j:Builtin.Str.strSub (a++#[(List.toArray [c])]++r) (a.cps.toList.length+(#[(List.toArray [c])]:Str).length) (a++#[(List.toArray [c])]++r).length=r:=lz (by
  have d:(a++#[(List.toArray [c])]++r).length=a.cps.toList.length+1+r.cps.toList.length:=by
   rw[str_len,str_len];show a.length+1+r.length=_;rw[vc,vc];rfl
  have hd:(a.cps.toList++c::r.cps.toList).drop QlA=r.cps.toList:=by
   rw[List.drop_append];simp
  rw[StrLaws.strSub_toList,e,d];show List.take (a.cps.toList.length+1+r.cps.toList.length-QlA) (List.drop QlA _)=_;rw[hd,xS,hR])
 simp_all
theorem Ff{x:Str}{n:Nat}(h:x.cps.toList.takeWhile (λc=>(" ":Str).cps.contains c)=x.cps.toList.take n)(hn:n<=x.cps.toList.length):(Txt.lstripChars x " ").cps.toList=x.cps.toList.drop n:=by
 have e:(x.cps.toList.takeWhile ((" ":Str).cps.contains)).length=n:=by rw[h,hO];lia
 unfold Txt.lstripChars;rw[PySem.W.stripBy_eq];show(Builtin.Str.strSub x (x.cps.toList.takeWhile _).length x.length).cps.toList=_;rw[e,StrLaws.strSub_toList];exact rx (List.length_drop▸eA _)
def sL(x:Str):Bool:=decide (1<=x.length)&&(decide (x.length<=30)&&(!decide (x.cps.toList.getD 0 0=48)&&x.cps.toList.all k8))
noncomputable def lA(x:Str):Str:=if x.cps.toList.head? = some 45 then#[(x.cps.toList.drop 1).toArray] else x
def Bj(x:Str):Bool:=decide (x="0") || sL (lA x)
theorem Lw(c:Nat):kK #[(List.toArray [c])] "0123456789" = k8 c:=by
 unfold kK;rw[va];have e:("0123456789":Str).cps.toList=(List.range 10).map (· + 48):=rfl;rw[e];apply m4.2;simp[k8];constructor
 .rintro⟨a,h,rfl⟩;lia
 .intro h;exact#[c-48,We,We]
def yN(m:Nat):(sI (m:Int)).cps.toList=(Nat.toDigits 10 m).map Char.toNat:=PySem.W.KIN.signs_num m
def rJ(m:Nat):PySem.NumText.AllDigits (sI (m:Int)).cps.toList:=λc a=>by
 rw[yN]at a;obtain⟨ch,b,e⟩:=ef.1 a;have r:=PyProof.Rows.digit_range (Nat.isDigit_of_mem_toDigits Wp Wp b);exact e▸r
def Lx(m:Nat):(sI (m:Int)).cps.toList≠[]:=by
 rw[yN];intro e;have h:=PySem.toDigits_len_ge 10 m;rw[q7.1 e]at h;exact absurd h Wp
theorem Ud:∀m:Nat,0<m->(sI (m:Int)).cps.toList.getD 0 0≠48:=by
 intro m;rw[yN]
 induction m using Nat.strongRecOn with
 | ind m a=>
  intro h0;by_cases hm:m<10
  .rw[Nat.toDigits_of_lt_base hm];have:∀k,k<10->0<k->([Nat.digitChar k].map Char.toNat).getD 0 0≠48:=by decide
   exact this m hm h0
  .have t:Nat.toDigits 10 Qpi++Nat.toDigits 10 (m % 10)=Nat.toDigits 10 _:=Nat.toDigits_append_toDigits Wp We We;rw[Nat.div_add_mod]at t;have:=a Qpi We We;have b:=PySem.toDigits_len_ge 10 Qpi;rw[<- t,fb];cases e:(Nat.toDigits 10 _).map _ with
   | nil=>
    rw[q7.1 e]at b;simp_all
   | cons c l=>
    rw[e]at this;exact this
theorem Ue{m:Nat}(h:m<10 ^ 30):(sI (m:Int)).length<=30:=PyProof.Rows.toString_length_le We Wp (by
  have:=Int.ofNat_lt.2 h;exact this)
def iy(x:Str):x.cps.toList.length=x.length:=vc
def IC{m:Nat}(h0:0<m)(h:m<10 ^ 30):sL (sI (m:Int))=true:=by
 unfold sL;have h1:1<=(sI m).length:=kA.2 (Lx m);rw[eC h1,eC (Ue h),eP (Ud m h0),hM.2 λc a=>?_]
 .rfl
 .have:=rJ m c a;unfold k8;rw[eC this.1,eC this.2];rfl
theorem Y5(m:Nat):(sI (m:Int)).cps.toList.head? ≠ some 45:=by
 have hd:=rJ m;cases e:(sI _).cps.toList with
 | nil=>exactλz=>nomatch z
 | cons c l=>
  intro z;have:=gv z;have:=hd c (e▸eu);lia
def w4(h:i<0):(sI i).cps.toList=45::(sI (i.natAbs:Int)).cps.toList:=by
 rw[adT h,cM];rfl
theorem Ug(h:i.natAbs<10 ^ 30):Bj (sI i)=true:=by
 unfold Bj lA;by_cases h0:i<0
 .rw[w4 h0,ee WA];have e:(#[((45::(sI _).cps.toList).drop 1).toArray]:Str)=sI i.natAbs:=lz rfl;rw[e,IC We h,Bool.or_true]
 .obtain⟨m,rfl⟩:=u7 (show 0<=i by lia);have h:m<10 ^ 30:=h;rw[cq (Y5 m)];by_cases hm:m=0
  .subst hm;rfl
  .rw[IC We h,Bool.or_true]
theorem yO(h:i.natAbs<10 ^ 30):intText? (sI i)=some i:=by
 have a:=j7 h;by_cases h0:i<0
 .have:=PySem.intText_neg (w4 h0) (rJ _) (Lx _) We;rw[this,yN,PySem.W.KIN.val_back];grind
 .obtain⟨m,rfl⟩:=u7 (show 0<=i by lia);have:=PySem.intText_digits (rJ m) (Lx m) We;rw[this,yN,PySem.W.KIN.val_back]
theorem sM(i:Int):∀c∈(sI i).cps.toList,c=45\/(48<=c/\c<=57):=by
 intro c a;by_cases h0:i<0
 .rw[w4 h0]at a;obtain h|h:=eg.1 a
  .exact .inl h
  .exact .inr (rJ _ c h)
 .obtain⟨m,rfl⟩:=u7 (show 0<=i by lia);exact .inr (rJ m c a)
def fC{x:Str}(h:Qc9):1<=x.length/\x.length<=12/\(97<=x.cps.toList.getD 0 0/\x.cps.toList.getD 0 0<=122)/\∀c∈x.cps.toList,(97<=c/\c<=122)\/(48<=c/\c<=57):=by
 unfold c9 isLt k8 at h;simp only[gm,pw,hM,nC]at h;exact#[h.1,h.2.1,h.2.2.2.1,h.2.2.2.2]
theorem Y6{x:Str}(h:Qc9):∃c l,x.cps.toList=c::l/\97<=c/\c<=122:=by
 obtain⟨h1,_,a,_⟩:=fC h;cases e:x.cps.toList with
 | nil=>
  rw[<- iy,e]at h1;simp_all
 | cons c l=>
  rw[e]at a;exact#[c,l,rfl,a]
theorem yP{x:Str}{l:CO}(e:x.cps.toList=c::l)(a:97<=c):Bj x=false:=by
 unfold Bj lA;have h1:¬ x="0":=λz=>by
  subst z;have:("0":Str).cps.toList=[48]:=by decide +kernel
  rw[this]at e;have:=(hE e).1;lia
 rw[eP h1,e,cq (by intro z;have:c=45:=gv z;lia)];unfold sL;rw[e,k4];have:k8 c=false:=by
  unfold k8;rw[eP (show ¬ c<=57 by lia),h7]
 rw[this];simp
noncomputable def ui(c:Nat):Nat:=if 97<=c then c-97 else c-22
def Y7:CO->Nat
 | []=>0
 | c::l=>ui c+36*Y7 l
def Uh:∀k:Nat,k<36->(isLt Qi6 || k8 Qi6)=true/\ui Qi6=k/\(k<26->isLt Qi6=true):=by
 decide +kernel
theorem Ly:∀(n:Nat) (r:Int) (x:Str),0<=r->r<36 ^ n->∃t,(OO n r x).cps.toList=x.cps.toList++t/\(Y7 t:Int)=r/\(∀c∈t,(isLt c || k8 c)=true)/\∀k:Nat,r<36 ^ k->t.length<=k
 | 0,r,x,h0,h1=>#[[],by rw[OO,f6],by
   have:r<1:=h1;show((0:Nat):Int)=r;lia,λc a=>by(cases a),λk _=>fT _]
 | n+1,r,x,h0,h1=>by
  rw[OO];split
  .rename_i e;obtain⟨t,e1,e2,e3,d⟩:=Ly n Qpc Qna (Int.ediv_nonneg h0 Wp) (Int.ediv_lt_of_lt_mul Wp (by rw[<- Int.pow_succ];exact h1));obtain⟨c1,c2,_⟩:=Uh (r % 36).toNat We;refine#[vR.getD (r % 36).toNat 0::t,?_,?_,λc a=>?_,λk b=>?_]
   .rw[e1,cM,eJ];rfl
   .show((ui (vR.getD (r % 36).toNat 0)+36*Y7 t:Nat):Int)=r;rw[c2];lia
   .obtain rfl|a:=eg.1 a
    .exact c1
    .exact e3 c a
   .cases k with
    | zero=>
     have:r<1:=b;lia
    | succ k=>
     have:=d k (Int.ediv_lt_of_lt_mul Wp (by rw[<- Int.pow_succ];exact b));rw[hq];lia
  .exact#[[],by rw[f6],by
    show((0:Nat):Int)=r;lia,λc a=>by(cases a),λk _=>fT _]
theorem yQ(h0:0<=m)(h1:Qlw):∃c t,(qA m).cps.toList=c::t/\isLt c=true/\((ui c+26*Y7 t:Nat):Int)=m/\(∀c∈t,(isLt c || k8 c)=true)/\t.length<=11:=by
 obtain⟨t,e1,e2,e3,a⟩:=Ly 20 Qpd _ We We;obtain⟨_,c2,b⟩:=Uh (m % 26).toNat We;refine#[ _,t,e1,b We,?_,e3,a 11 We ];rw[c2];lia
theorem Ui{n:Int}(h0:0<=m)(h1:Qlw)(k0:0<=n)(k1:n<26*131621703842267136)(h:qA m=qA n):m=n:=by
 obtain⟨c,t,e1,_,e2,_⟩:=yQ h0 h1;obtain⟨d,u,g1,_,g2,_⟩:=yQ k0 k1;simp_all
theorem Bk{α β:Type}{f:Qg0}:∀{l:QR},(∀x∈l,∀y∈l,f x=f y->x=y)->l.Nodup->(l.map f).Nodup
 | [],_,_=>.nil
 | a::l,h,n=>by
  obtain⟨n1,n2⟩:=iu.1 n;refine iu.2 #[λhm=>?_,Bk (λx c y b=>h x Qgv y Qbw) n2];obtain⟨y,b,e⟩:=ef.1 hm;exact n1 (h y Qbw a eu e▸b)
theorem Y8(h0:0<=m)(h1:Qlw)(h:qA m∉qo):c9 (qA m)=true:=by
 obtain⟨c,t,e1,e2,_,e3,b⟩:=yQ h0 h1;have a:(qA m).length=t.length+1:=by rw[<- iy,e1];rfl
 unfold c9;rw[eC We,eC We,eP ‹_›,e1];show(true&&(true&&(!false&&(isLt c&&(c::t).all _))))=true;simp_all
theorem Fg(h0:0<=m)(h1:Qsh):c9 Qpg=true:=by
 unfold jD;split
 .rename_i j e;obtain⟨b,h,_⟩:=rF.1 e;have c:=gh.1 h;unfold WR at b;simp only[gm,kx,xy]at b;exact Y8 We We b.2
 .rename_i e;exfalso;have d:=List.find?_eq_none.1 e;have g:(List.range QfY).map (λj:Nat=>qA Qcv) ⊆ us++qo:=λx a=>by
   obtain⟨j,c,rfl⟩:=ef.1 a;have:=d j c;unfold WR at this;simp only[gm,kx,xy,not_and,Classical.not_not]at this;by_cases z:qA Qcv∈us
   .exact e6 _ z
   .exact e4 _ (this z)
  have hn:((List.range QfY).map (λj:Nat=>qA Qcv)).Nodup:=Bk (λx a y f e=>by
   have:=gh.1 a;have:=gh.1 f;have:=Ui (m:=m+x) (n:=m+y) We We We We e;lia) List.nodup_range
  have:=hn.length_le_of_subset g;rw[ed,gi,fg]at this;have e:qo.length=19:=rfl;lia
structure LT where
 n0:Str
 md:Str
 n2:Str
 f:Int
 a:Int
 c:Int
structure C8(p:LT):Prop where
 n0:c9 p.n0=true
 md:c9 p.md=true
 n2:c9 p.n2=true
 f:p.f.natAbs<10 ^ 30
 a:p.a=-1\/p.a=0
 c:p.c.natAbs<10 ^ 30
def QS(n:Str)(a c:Int):Str:=if a=-1 then sI c else if c=0 then n else n++yK c++sI (c.natAbs:Int)
def LT.tt(p:LT):Str:=QS p.n0 p.a p.c
def LT.tn(p:LT):Str:=if p.a=-1 then "" else p.n0
def LT.ws(p:LT):Nat->AT
 | 0=>["box",p.n0,sI p.f]
 | 1=>["leaf",p.md]
 | 2=>["in","put",p.n0,p.tt]
 | _=>["out","call",p.n2]
def LT.rest(p:LT)(i:Nat):Str:=Str.join " " (p.ws i)
def LT.line(p:LT)(i:Nat):Str:=if i<2 then p.rest i else " " ++ p.rest i
def mZ(k:Int):yK k=#[(List.toArray [if 0<k then 43 else 45])]:=by
 unfold yK;split<;>decide +kernel
theorem Fi{p:LT}(h:C8 p):∀c∈p.tt.cps.toList,33<=c:=by
 intro c a;have hn:=(fC h.n0).2.2.2;have b:=sM;unfold LT.tt QS at a;split at a
 .have:=b p.c c a;lia
 split at a
 .have:=hn c a;lia
 .rw[mZ,cM,cM]at a;obtain a|a:=eB.1 a
  .obtain a|a:=eB.1 a
   .have:=hn c a;lia
   .have:=eL.1 a;lia
  .have:=b _ c a;lia
theorem agS{p:LT}(h:C8 p):∀i,∀w∈p.ws i,∀c∈w.cps.toList,33<=c:=by
 have lit:∀w∈(["box","leaf","in","put","out","call"]:AT),∀c∈w.cps.toList,33<=c:=by decide +kernel
 have nm:∀{x:Str},c9 x=true->∀c∈x.cps.toList,33<=c:=λd c a=>by
  have:=(fC d).2.2.2 c a;lia
 have b:∀c∈(sI p.f).cps.toList,33<=c:=λc a=>by
  have:=sM p.f c a;lia
 intro i
 match i with
 | 0=>
  intro w hw;simp only[LT.ws,eg,fw,hG]at hw;obtain rfl|rfl|rfl:=hw
  .exact lit _ Wl
  .exact nm h.n0
  .exact b
 | 1=>
  intro w hw;simp only[LT.ws,eg,fw,hG]at hw;obtain rfl|rfl:=hw
  .exact lit _ Wl
  .exact nm h.md
 | 2=>
  intro w hw;simp only[LT.ws,eg,fw,hG]at hw;obtain rfl|rfl|rfl|rfl:=hw
  .exact lit _ Wl
  .exact lit _ Wl
  .exact nm h.n0
  .exact Fi h
 | _+3=>
  intro w hw;simp only[LT.ws,eg,fw,hG]at hw;obtain rfl|rfl|rfl:=hw
  .exact lit _ Wl
  .exact lit _ Wl
  .exact nm h.n2
def uz:(" ":Str)=#[(List.toArray [32])]:=by decide +kernel
theorem yR{c:Nat}:∀{l:AT} {d:Nat},d∈(Str.join #[(List.toArray [c])] l).cps.toList->d=c\/∃w∈l,d∈w.cps.toList
 | [],d,h=>by
  cases h
 | [a],d,h=>.inr #[a,eu,h]
 | a::e::l,d,h=>by
  rw[j9]at h;obtain h|h:=eB.1 h
  .exact .inr #[a,eu,h]
  .obtain h|h:=eg.1 h
   .exact .inl h
   .obtain h|⟨w,hw,hd⟩:=yR h
    .exact .inl h
    .exact .inr #[w,eE _ hw,hd]
theorem Uj{p:LT}(h:C8 p):p.tt.length<=53:=by
 have h1:=(fC h.n0).2.1;have b:=j7 h.c;have a:=j7 (by rw[vK];exact h.c);unfold LT.tt QS;split
 .lia
 split
 .lia
 .rw[str_len,str_len];have:=sH p.c;lia
theorem Fj{c:Nat}{n:Nat}:∀{l:AT},(∀w∈l,w.length<=n)->(Str.join #[(List.toArray [c])] l).length<=l.length*Qaw
 | [],_=>fT _
 | [a],h=>by
  have:=h a eu;show a.length<=1*Qaw;lia
 | a::e::l,h=>by
  have h1:=h a WA;have b:=Fj (c:=c) λw hw=>h w Qo5;have e3:(Str.join #[(List.toArray [c])] (a::e::l)).length=a.length+1+(Str.join #[(List.toArray [c])] (e::l)).length:=by
   show((a++(#[(List.toArray [c])]))++Str.join _ _).length=_;rw[str_len,str_len];rfl
  rw[e3,hq];lia
theorem sz{n:Nat}(h:n<=10000):n<=sizeLine:=by rw[gc];lia
def Fl{x:Str}(h:Qc9):¬ x="":=λz=>by
 subst z;exact absurd (fC h).1 Wp
def IE{p:LT}(h:C8 p):Bj p.tt=decide (p.a=-1):=by
 unfold LT.tt QS;by_cases b:p.a=-1
 .rw[ee b,eC b];exact Ug h.c
 .rw[cq b,eP b];obtain⟨c,l,e,h1,d⟩:=Y6 h.n0;split
  .exact yP e h1
  .have e2:(p.n0++yK p.c++sI p.c.natAbs).cps.toList=c::(l++((yK p.c).cps.toList++(sI p.c.natAbs).cps.toList)):=by
    rw[cM,cM,e,eJ,hS]
   exact yP e2 h1
theorem vz{x:Str}(h:Qc9)(a:c<48):c∉x.cps.toList:=λz=>by
 have:=(fC h).2.2.2 c z;lia
theorem Uk(m:Nat)(a:c<48):c∉(sI (m:Int)).cps.toList:=λz=>by
 have:=rJ m c z;lia
def cH:AT:=["leaf","one","all"]
def join_one(y a:Str):Str.join y [a]=a:=rfl
def gE(y a c:Str)(l:AT):Str.join y (a::c::l)=a++y++Str.join y (c::l):=rfl
theorem sN(y:Str):∀(l m:AT),l≠[]->m≠[]->Str.join y (l++m)=Str.join y l++y++Str.join y m
 | [],_,h,_=>absurd rfl h
 | _::_,[],_,h=>absurd rfl h
 | [a],c::m,_,_=>rfl
 | a::d::l,c::m,_,_=>by
  have:=sN y (d::l) (c::m) QjK WA;show a++y++Str.join y ((d::l)++(c::m))=a++y++Str.join y _++y++Str.join y _;rw[this];simp[i4]
abbrev _root_.EM:=List AT
theorem Bl(y:Str):∀(l:EM),(∀x∈l,x≠[])->Str.join y l.flatten=Str.join y (l.map (Str.join y))
 | [],_=>rfl
 | [x],_=>by
  simp;rfl
 | x::z::l,h=>by
  have a:=Bl y _ λx c=>h x Qgv;have b:=h z (eE _ eu);rw[pl,sN y x _ (h x eu) (by
   exactλe=>b (vy.1 e).1),a]
  rfl
theorem qj(n:Nat):(Txt.mul " " (n:Int)).cps.toList=List.replicate n 32:=by
 have:∀(k:Nat) (a:Array Nat),((List.replicate k (" ":Str).cps).foldl _ a).toList=a.toList++List.replicate k 32:=λk=>by
  induction k with
  | zero=>simp
  | succ k b=>
   intro a;rw[List.replicate_succ,jL,b,Array.toList_append,eJ];rfl
 unfold Txt.mul;split
 .have:n=0:=by lia
  subst this;rfl
 split
 .rename_i h;have:n=1:=by
   rw[show((" ":Str).length==0)=false from rfl,Bool.or_false,ip]at h;lia
  subst this;rfl
 simp_all
noncomputable def Fo(n:Nat):Txt.mul " " (n:Int)++" " = Txt.mul " " ((n+1:Nat):Int):=lz (by
 rw[cM,qj,qj,List.replicate_succ',uz])
theorem Ul{n:Nat}{l:CO}(h:l.head? ≠ some 32):(List.replicate n 32++l).takeWhile (λc=>(" ":Str).cps.contains c)=List.replicate n 32:=by
 have e:(" ":Str).cps=(List.toArray [32]):=rfl
 induction n with
 | zero=>
  simp;cases l with
  | nil=>rfl
  | cons c l=>
   rw[List.takeWhile_cons_of_neg WE]
 | succ n a=>
  rw[List.replicate_succ,hS,List.takeWhile_cons_of_pos WE,a]
theorem OV{n:Nat}{x:Str}(h:x.cps.toList.head? ≠ some 32):Txt.lstripChars (Txt.mul " " (n:Int)++x) " " = x:=lz (by
 have ec:(Txt.mul " " n++x).cps.toList=List.replicate n 32++x.cps.toList:=by rw[cM,qj]
 refine(Ff (n:=n) ?_ ?_).trans ?_
 .rw[ec,Ul h,List.take_left' kS]
 .rw[ec,fg,kS];lia
 .rw[ec,List.drop_left' kS])
def dW(bn:AT)(d:D):AT:=if (aX d 0).toS="call" then ["call",(aX d 1).toS] else [(aX d 0).toS,if (aX d 0).toS="put" then bn.getD (aX d 1).iZ.toNat Str.empty else(aX d 1).toS,eY bn Qbh]
def aW(bn ns:AT)(d:D):AT:=if d.cnt=2 then [(aX d 0).toS,ns.getD (aX d 1).iZ.toNat Str.empty] else [eY bn QdT,(aX d 0).toS,eY bn Qbh]
def tC(bn:AT)(d:D):D:=.tup [.str (if (aX d 0).iZ=-1 then "" else bn.getD (aX d 0).iZ.toNat Str.empty),aX d 1]
def dC(bn:AT)(d:D):D:=if (aX d 0).toS="call" then d else .tup [aX d 0,.str QpI,tC bn Qbh]
def aC(bn ns:AT)(d:D):D:=if d.cnt=2 then .tup [aX d 0,.str Qrs] else .tup [aX d 0,tC bn QdT,tC bn Qbh]
def Lz(bn:AT)(d:D):fU bn d=Str.join " " (dW bn d):=by
 unfold fU dW;split
 .rfl
 .rw[gE,gE,join_one];simp only[i4]
def Y9(bn ns:AT)(d:D):kG bn ns d=Str.join " " (aW bn ns d):=by
 unfold kG aW;split
 .rfl
 .rw[gE,gE,join_one];simp only[i4]
def lk(f g:Str):EM->EM
 | []=>[]
 | t::r=>(f::t)::r.map (g::·)
def Hi(ns:AT)(w:WY):EM:=if w.tg=-1 then [] else [("to":Str)::ns.getD w.tg.toNat Str.empty::D6 w]
def wP(bn ns:AT)(w:WY):EM:=["on",w.sg]::(lk "if" "and" Qfy++lk "do" "then" Qex++Hi ns w)
theorem Um(f g:Str):∀(l:EM),(∀x∈l,x≠[])->wY f g (l.map (Str.join " "))≠[]->Str.join " " (wY f g (l.map (Str.join " ")))=Str.join " " (lk f g l).flatten
 | [],_,h=>absurd rfl h
 | t::r,d,k=>by
  clear k;have two:∀(f:Str) (t:AT),t≠[]->Str.join " " [f,Str.join " " t]=Str.join " " (f::t):=λf t i=>by
   cases t with
   | nil=>exact absurd rfl i
   | cons a t=>rfl
  have ev:∀(r:EM),(∀x∈r,x≠[])->(r.map (Str.join " ")).flatMap (λx=>[g,x])=(r.flatMap λx=>[[g],x]).map (Str.join " "):=λr j=>by
   induction r with
   | nil=>rfl
   | cons x r e=>
    rw[eM,ik,ik,fb,e λy c=>j y Qgv];rfl
  have e1:wY f g ((t::r).map (Str.join " "))=(([f]::t::r.flatMap λx=>[[g],x])).map (Str.join " "):=by
   show f::Str.join " " t::(r.map (Str.join " ")).flatMap _=_;rw[ev r λy c=>d y Qgv];rfl
  rw[e1,<- Bl]
  .congr 1;show [f]++(t++(r.flatMap λx=>[[g],x]).flatten)=(f::t)++(r.map (g::·)).flatten;have e2:(r.flatMap λx=>[[g],x]).flatten=(r.map (g::·)).flatten:=by
    clear d e1 ev two
    induction r with
    | nil=>rfl
    | cons x r e=>
     rw[ik,List.flatten_append,e,eM,pl];simp
   rw[e2];rfl
  .intro x b;obtain rfl|b:=eg.1 b
   .exact j2 _ _
   obtain rfl|b:=eg.1 b
   .exact d _ eu
   .obtain⟨y,c,b⟩:=oy.1 b;obtain rfl|b:=eg.1 b
    .exact j2 _ _
    .cases eL.1 b;exact d _ Qgv
def JE(a l:AT):Prop:=Str.join " " a=Str.join " " l/\(a=[]↔l=[])
theorem JE.same(a:AT):JE a a:=#[rfl,.rfl]
theorem JE.cat{a c l m:AT}(h1:JE a l)(b:JE c m):JE (a++c) (l++m):=by
 refine#[?_,by rw[vy,vy,h1.2,b.2]];by_cases e:a=[]
 .rw[e,h1.2.1 e];exact b.1
 by_cases d:c=[]
 .rw[d,b.2.1 d,f6,f6];exact h1.1
 rw[sN " " _ _ e d,sN " " _ _ (λz=>e (h1.2.2 z)) (λz=>d (b.2.2 z)),h1.1,b.1]
def SO(bn ns:AT)(d:D):aW bn ns d≠[]:=by
 unfold aW;split<;>exact j2 _ _
def Uo(bn:AT)(d:D):dW bn d≠[]:=by
 unfold dW;split<;>exact j2 _ _
theorem Fp(f g:Str)(l:EM)(h:∀x∈l,x≠[]):JE (wY f g (l.map (Str.join " "))) (lk f g l).flatten:=by
 cases l with
 | nil=>exact#[rfl,#[λ_=>rfl,λ_=>rfl]]
 | cons t r=>exact#[Um f g _ h QjK,#[λz=>by(cases z),λz=>by(cases z)]]
def Up(bn ns:AT){w:WY}(h:w.tg=-1->w.md="new"):C6 bn ns w=Str.join " " (wP bn ns w).flatten:=by
 unfold C6;rw[<- Lr,join_eq];have f:w.qs.map Qcm=(w.qs.map QhY).map (Str.join " "):=by
  rw[ej];exact hZ λd _=>Y9 bn ns d
 have e:w.ds.map Qc1=(w.ds.map (dW bn)).map (Str.join " "):=by
  rw[ej];exact hZ λd _=>Lz bn d
 have a1:=Fp "if" "and" (w.qs.map QhY) λx a=>by
  obtain⟨d,_,rfl⟩:=ef.1 a;exact SO bn ns d
 have a2:=Fp "do" "then" (w.ds.map (dW bn)) λx a=>by
  obtain⟨d,_,rfl⟩:=ef.1 a;exact Uo bn d
 have c:Y3 ns w++D6 w=(Hi ns w).flatten:=by
  unfold Y3 Hi;split
  .rename_i b;rw[D6,ee (h b)];rfl
  .rw[pl,List.flatten_nil,f6];rfl
 unfold ma wP;rw[f,e,c,pl,List.flatten_append,List.flatten_append];exact((JE.same ["on",w.sg]).cat ((a1.cat a2).cat (.same _))).1
inductive RW
 | bx (n:Str) (k:Int)
 | md (n:Nat) (k x st:Str) (z:Int)
 | io (n:Nat) (w:Str) (d:D)
 | wy (n:Nat) (w:WY)
def RW.bl:RW->Nat
 | .bx _ _=>0
 | .md n _ _ _ _=>n
 | .io n _ _=>n+1
 | .wy n _=>n+1
def RW.word:RW->Str
 | .bx _ _=>"box"
 | .md _ k _ _ _=>k
 | .io _ w _=>w
 | .wy _ _=>"on"
def RW.ws(bn ns:AT):RW->AT
 | .bx n k=>["box",n,sI k]
 | .md _ k x st _=>k::x::if st="" then [] else [st]
 | .io _ w d=>w::dW bn d
 | .wy _ w=>(wP bn ns w).flatten
def RW.rest(bn ns:AT)(r:RW):Str:=Str.join " " (r.ws bn ns)
def RW.line(bn ns:AT)(r:RW):Str:=Txt.mul " " (r.bl:Nat)++r.rest bn ns
def tx(ns:AT)(w:WY):Str:=if w.tg=-1 then "" else ns.getD w.tg.toNat Str.empty
def RW.ct(bn ns:AT):RW->T
 | .bx n k=>.sh (.tup [.str n,.int k])
 | .md _ _ x st _=>.sh (.tup [.str x,.str st])
 | .io _ _ d=>.sh (dC bn d)
 | .wy _ w=>.tup [.sh (.str w.sg),.lst ((w.qs.map Qjb).map T.sh),.lst ((w.ds.map (dC bn)).map T.sh),.sh (.str (tx ns w)),.sh (.str w.md)]
def RW.cn:RW->D
 | .bx n k=>.tup [.str n,.int k]
 | .md _ _ x _ z=>.tup [.str x,.int z]
 | .io _ _ d=>d
 | .wy _ w=>.tup [.str w.sg,.tup w.qs,.tup w.ds,.int w.tg,.str w.md]
def RW.fm(bn ns:AT)(i:Int)(r:RW):T:=.tup [.sh Qa0,.sh (.int r.bl),.sh (.str r.word),r.ct bn ns]
def RW.nf(i:Int)(r:RW):D:=.tup [.int i,.int r.bl,.str r.word,r.cn]
abbrev _root_.Ch:=List RW
def CH.mr(c:CH)(m:Nat):Ch:=.md (cW c.es m).length QlB QtW (if c.ks.getD m Str.empty="one" then c.ns.getD (c.ss.getD m 0).toNat Str.empty else "") Qxz ::
 ((c.is.getD m []).map (.io (cW c.es m).length "in")++(c.os.getD m []).map (.io (cW c.es m).length "out")++(c.ws.filter λw=>decide QbH).map (.wy (cW c.es m).length))
def CH.br(c:CH):Ch:=c.bs.map λp=>.bx p.1 p.2
def CH.rows(c:CH):Ch:=c.br++(List.range c.es.length).flatMap c.mr
def iz(l:AT):Prop:=∀x∈l,c9 x=true
def m5(nb:Nat)(d:D):Prop:=(∃n:Str,d=.tup [.str "call",.str n]/\c9 n=true)\/(∃(k:Int) (t:D),d=.tup [.str "put",.int k,t]/\(0<=k/\k<nb)/\dz nb t)\/(∃(n:Str) (t:D),d=.tup [.str "say",.str n,t]/\c9 n=true/\dz nb t)
structure QT(nb nm:Nat)(w:WY):Prop where
 l:w.qs.length+w.ds.length<=40
 q:∀d∈w.qs,ig nb nm d
 d:∀d∈w.ds,m5 nb d
 s:c9 w.sg=true
 t:w.tg=-1/\w.md="new" \/ (0<=w.tg/\w.tg<nm)/\w.md∈(["new","near","far"]:AT)
def RW.Ok(bn ns:AT):RW->Prop
 | .bx n k=>c9 n=true/\k.natAbs<10 ^ 30
 | .md n k x st z=>n<=50/\k∈cH/\c9 x=true/\((k="one" /\ (0<=z/\z<ns.length)/\st=ns.getD z.toNat Str.empty)\/(k≠"one" /\ st="" /\ z=-1))
 | .io n w d=>n<=50/\w∈(["in","out"]:AT)/\m5 bn.length d
 | .wy n w=>n<=50/\QT bn.length ns.length w
def Wd(x:Str):Prop:=x.length<=53/\∀c∈x.cps.toList,33<=c
theorem sO{x:Str}(h:Qc9):Wd x:=by
 obtain⟨_,d,_,b⟩:=fC h;refine#[We,λc a=>?_];have:=b c a;lia
theorem Uq(h:k.natAbs<10 ^ 30):Wd (sI k):=by
 refine#[gr (j7 h) Wp,λc a=>?_];have:=sM k c a;lia
theorem fO{l:AT}(h:iz l)(h0:0<=k)(h1:QjY):c9 (l.getD k.toNat Str.empty)=true:=h _ (mX We)
theorem uA{bn:AT}{d:D}(hb:iz bn)(h:Qhc):∃a k:Int,d=.tup [.int a,.int k]/\k.natAbs<10 ^ 30/\((a=-1/\eY bn d=sI k)\/(¬ a=-1/\c9 QsC=true/\eY bn d=QS QsC 0 k)):=by
 obtain⟨a,k,rfl,c,b⟩:=h;refine#[a,k,rfl,b,?_];rw[wW];by_cases e:a=-1
 .exact .inl #[e,ee e]
 .have:0<=a/\a<bn.length:=by lia
  refine .inr #[e,fO hb this.1 this.2,?_];rw[cq e,QS,cq (show ¬ (0:Int)=-1 by decide)]
def C9{bn:AT}{d:D}(hb:iz bn)(h:Qhc):Wd (eY bn d):=by
 obtain⟨a,k,rfl,c,⟨_,e⟩|⟨_,hn,e⟩⟩:=uA hb h
 .exact e▸Uq c
 .rw[e];have b:C8 #[bn.getD _ _,bn.getD _ _,bn.getD _ _,0,0,k]:=#[hn,hn,hn,WA,.inr rfl,c];exact#[Uj b,Fi b]
def jx{x:Str}(h:x∈(["box","leaf","one","all","in","out","on","if","and","do","then","to","new","near","far","put","call","say","open","shut","<","<=","=","!="]:AT)):Wd x:=by
 have:∀y∈(["box","leaf","one","all","in","out","on","if","and","do","then","to","new","near","far","put","call","say","open","shut","<","<=","=","!="]:AT),y.length<=53/\∀c∈y.cps.toList,33<=c:=by decide +kernel
 exact this x h
def LC(bn:AT)(n:Str):dW bn QhL=[("call":Str),n]:=ee rfl
def adY(bn:AT)(k:Int)(t:D):dW bn Qlc=[("put":Str),bn.getD k.toNat Str.empty,eY bn t]:=rfl
def adZ(bn:AT)(n:Str)(t:D):dW bn Qld=[("say":Str),n,eY bn t]:=rfl
def LD{bn:AT}{d:D}(hb:iz bn)(h:Qhd):(∀x∈dW bn d,Wd x)/\(dW bn d).length<=3:=by
 obtain⟨n,rfl,hn⟩|⟨k,t,rfl,c,b⟩|⟨n,t,rfl,hn,b⟩:=h
 .rw[LC];refine#[λx a=>?_,ew rfl];simp only[eg,fw,hG]at a;obtain rfl|rfl:=a
  .exact jx Wl
  .exact sO hn
 .rw[adY];refine#[λx a=>?_,ew rfl];simp only[eg,fw,hG]at a;obtain rfl|rfl|rfl:=a
  .exact jx Wl
  .exact sO (fO hb c.1 c.2)
  .exact C9 hb b
 .rw[adZ];refine#[λx a=>?_,ew rfl];simp only[eg,fw,hG]at a;obtain rfl|rfl|rfl:=a
  .exact jx Wl
  .exact sO hn
  .exact C9 hb b
theorem ad0{bn ns:AT}{d:D}(hb:iz bn)(hn:iz ns)(h:QlC):(∀x∈aW bn ns d,Wd x)/\(aW bn ns d).length<=3:=by
 obtain⟨w,k,rfl,hw,b⟩|⟨w,s,t,rfl,hw,e,c⟩:=h
 .refine#[λx a=>?_,ew rfl];have a:x∈[w,ns.getD k.toNat Str.empty]:=a;simp only[eg,fw,hG]at a;obtain rfl|rfl:=a
  .obtain rfl|rfl:=hw<;>exact jx Wl
  .exact sO (fO hn b.1 b.2)
 .refine#[λx a=>?_,ew rfl];have a:x∈[eY bn s,w,eY bn t]:=a;simp at a;obtain rfl|rfl|rfl:=a
  .exact C9 hb e
  .refine jx ?_;simp_all
  .exact C9 hb c
theorem oS{l:EM}{p:AT}(h:p∈lk f g l):∃x∈l,p=f::x\/p=g::x:=by
 cases l with
 | nil=>cases h
 | cons t r=>
  obtain rfl|h:=eg.1 h
  .exact#[t,eu,.inl rfl]
  .obtain⟨x,a,rfl⟩:=ef.1 h;exact#[x,eE _ a,.inr rfl]
theorem Ur(f g:Str)(l:EM):(lk f g l).length=l.length:=by
 cases l with
 | nil=>rfl
 | cons t r=>rw[lk,hq,ed,hq]
theorem LG{bn ns:AT}{w:WY}(hb:iz bn)(hn:iz ns)(h:Qh4):(wP bn ns w).length<=42/\∀p∈wP bn ns w,p.length<=4/\∀x∈p,Wd x:=by
 have c:∀{f:Str} {x:AT},f∈(["if","and","do","then"]:AT)->(∀y∈x,Wd y)/\x.length<=3->(f::x).length<=4/\∀y∈f::x,Wd y:=λhf a=>by
  refine#[by rw[hq];lia,λy g=>?_];obtain rfl|g:=eg.1 g
  .simp only[eg,fw,hG]at hf;obtain rfl|rfl|rfl|rfl:=hf<;>exact jx Wl
  .exact a.1 y g
 have i:(Hi ns w).length<=1:=by
  unfold Hi;split<;>exact ew rfl
 have k:=h.l;refine#[?_,λp b=>?_]
 .unfold wP;rw[hq,fg,fg,Ur,Ur,ed,ed];lia
 .obtain rfl|b:=eg.1 b
  .refine#[ew rfl,λx a=>?_];obtain rfl|a:=eg.1 a
   .exact jx Wl
   .cases eL.1 a;exact sO h.s
  obtain b|b:=eB.1 b
  .obtain b|b:=eB.1 b
   .obtain⟨x,a,e⟩:=oS b;obtain⟨d,hd,rfl⟩:=ef.1 a;have:=ad0 hb hn QoP;obtain rfl|rfl:=e
    .exact c Wl this
    .exact c Wl this
   .obtain⟨x,a,e⟩:=oS b;obtain⟨d,hd,rfl⟩:=ef.1 a;have:=LD hb QoQ;obtain rfl|rfl:=e
    .exact c Wl this
    .exact c Wl this
  .unfold Hi at b;split at b
   .cases b
   .rename_i j;cases eL.1 b;obtain⟨z,_⟩|⟨i,hm⟩:=h.t
    .exact absurd z j
    refine#[?_,λx a=>?_]
    .unfold D6;split<;>exact ew rfl
    obtain rfl|a:=eg.1 a
    .exact jx Wl
    obtain rfl|a:=eg.1 a
    .exact sO (fO hn i.1 i.2)
    .unfold D6 at a;split at a
     .cases a
     .cases eL.1 a;refine jx ?_;simp only[eg,fw,hG]at hm;obtain e|e|e:=hm<;>rw[e]<;>decide +kernel
theorem Ft{l:EM}(h:∀p∈l,p.length<=4):l.flatten.length<=l.length*4:=by
 induction l with
 | nil=>exact fT _
 | cons p l b=>
  have a:=h p eu;have c:=b λq d=>h q (eE _ d);rw[pl,fg,hq];lia
variable{r:RW}
theorem uB{bn ns:AT}(hb:iz bn)(hn:iz ns)(h:QbF):(∀x∈r.ws bn ns,Wd x)/\(r.ws bn ns).length<=168/\∃x l,r.ws bn ns=r.word::x::l:=by
 cases r with
 | bx n k=>
  refine#[λx f=>?_,ew rfl,_,_,rfl];have f:x∈[("box":Str),n,sI k]:=f;simp only[eg,fw,hG]at f;obtain rfl|rfl|rfl:=f
  .exact jx Wl
  .exact sO h.1
  .exact Uq h.2
 | md n k x st z=>
  obtain⟨_,h1,c,m⟩:=h;refine#[λy b=>?_,?_,_,_,rfl]
  .obtain rfl|b:=eg.1 b
   .refine jx ?_;simp only[cH,eg,fw,hG]at h1;obtain e|e|e:=h1<;>rw[e]<;>decide +kernel
   obtain rfl|b:=eg.1 b
   .exact sO c
   .split at b
    .cases b
    .rename_i j;cases eL.1 b;obtain⟨_,i,e⟩|⟨_,e,_⟩:=m
     .rw[e];exact sO (fO hn i.1 i.2)
     .exact absurd e j
  .show(if st="" then [] else [st]).length+1+1<=168;split<;>exact ew rfl
 | io n w d=>
  obtain⟨_,h1,c⟩:=h;have:=LD hb c;refine#[λy b=>?_,?_,?_]
  .obtain rfl|b:=eg.1 b
   .simp only[eg,fw,hG]at h1;obtain rfl|rfl:=h1<;>exact jx Wl
   .exact this.1 y b
  .show(dW bn d).length+1<=168;lia
  .cases e:dW bn d with
   | nil=>exact absurd e (Uo _ _)
   | cons a l=>exact#[a,l,by show w::dW bn d=_;rw[e];rfl]
 | wy n w=>
  obtain⟨h1,c⟩:=LG hb hn h.2;refine#[λy b=>?_,?_,_,_,rfl]
  .obtain⟨p,g,b⟩:=List.mem_flatten.1 b;exact(c p g).2 y b
  .have:=Ft λp g=>(c p g).1;show(wP bn ns w).flatten.length<=168;lia
theorem Za{bn ns:AT}(h:QbF):r.word∈(["box","leaf","one","all","in","out","on"]:AT):=by
 cases r with
 | bx n k=>exact eu
 | md n k x st z=>
  have:=h.2.1;simp[cH]at this;show k∈_;grind
 | io n w d=>
  have:=h.2.1;simp at this;show w∈_;obtain e|e:=this<;>rw[e]<;>decide +kernel
 | wy n w=>exact(by decide +kernel:("on":Str)∈(["box","leaf","one","all","in","out","on"]:AT))
section
variable{bn ns:AT}(hb:iz bn)(hn:iz ns)(h:QbF)
include hb hn h
theorem OX:pY (r.rest bn ns) " " = true/\splitM (r.rest bn ns) " " = r.ws bn ns:=by
 obtain⟨h1,_,x,l,e⟩:=uB hb hn h;exact IB (e▸Nat.le_add_left _ _) λw hw z=>by
  have:=(h1 w hw).2 32 z;lia
def Us:(r.rest bn ns).cps.toList.head? ≠ some 32:=by
 obtain⟨_,_,x,l,e⟩:=uB hb hn h;have hw:=Za h;have:∀w∈(["box","leaf","one","all","in","out","on"]:AT),w.cps.toList.head? ≠ some 32/\w.cps.toList≠[]:=by decide +kernel
 obtain⟨h1,a⟩:=this _ hw;unfold RW.rest;rw[e,uz,j9];cases e2:r.word.cps.toList with
 | nil=>exact absurd e2 a
 | cons c m=>
  rw[e2]at h1;exact h1
def OY:Txt.lstripChars (r.line bn ns) " " = r.rest bn ns:=OV (Us hb hn h)
def ad1:(r.rest bn ns).length<=9072/\(r.line bn ns).length=r.bl+(r.rest bn ns).length/\r.bl<=51:=by
 obtain⟨h1,b,_⟩:=uB hb hn h;have a:=Fj (c:=32) λw hw=>(h1 w hw).1;refine#[gr a (si 54 b),?_,?_]
 .unfold RW.line;rw[str_len];have:(Txt.mul " " r.bl).length=r.bl:=by rw[<- iy,qj,kS]
  rw[this]
 .cases r with
  | bx n k=>exact fT _
  | md n k x st z=>exact gr h.1 Wp
  | io n w d=>exact ri h.1
  | wy n w=>exact ri h.1
theorem Ut:∀c∈(r.line bn ns).cps.toList,32<=c:=λc a=>by
 obtain⟨h1,_⟩:=uB hb hn h;unfold RW.line at a;rw[cM,qj]at a;obtain a|a:=eB.1 a
 .have:=List.eq_of_mem_replicate a;lia
 .unfold RW.rest at a;rw[uz]at a;obtain z|⟨w,hw,hd⟩:=yR a
  .lia
  .have:=(h1 w hw).2 c hd;lia
end
theorem OZ{l:AT}(h:l≠[])(hf:∀p∈l,c∉p.cps.toList):Txt.split (Str.join #[(List.toArray [c])] l) #[(List.toArray [c])]=l:=by
 refine yM ?_ h (StrLaws.split_free _ c) hf (by rw[StrLaws.join_split]);unfold Txt.split;split
 .exact j2 _ _
 split
 .exact j2 _ _
 .intro z;have:=length_partsBetween (Str.join #[(List.toArray [c])] l) (Builtin.Str.occurrences (Str.join #[(List.toArray [c])] l) #[(List.toArray [c])] 0 (Str.join #[(List.toArray [c])] l).length ((Str.join #[(List.toArray [c])] l).length+1)) (#[(List.toArray [c])]:Str).length;simp_all
theorem Fv{bn ns:AT}(hb:iz bn)(hn:iz ns){l:Ch}(h:∀r∈l,r.Ok bn ns)(b:l≠[]):Txt.split (Str.join "\n" (l.map Qnj)) "\n" = l.map Qnj:=by
 refine OZ (λz=>b (q7.1 z)) λw hw z=>?_;obtain⟨r,a,rfl⟩:=ef.1 hw;have:=Ut hb hn (h r a) 10 z;lia
noncomputable def rP(l:AT)(z:Int):Str:=if z=-1 then "" else l.getD z.toNat Str.empty
structure LI(l:AT):Prop where
 n:iz l
 d:l.Nodup
def yS{bn:AT}{d:D}(hb:iz bn)(h:Qhc):∃p:LT,C8 p/\p.tt=eY bn d/\D.tup [.str p.tn,.int p.c]=tC bn d:=by
 have b:c9 "a" = true:=rfl;obtain⟨a,k,rfl,f,⟨h1,e⟩|⟨h1,hn,e⟩⟩:=uA hb h
 .refine#[#["a","a","a",0,-1,k],#[b,b,b,WA,.inl rfl,f],?_,?_]
  .rw[e];rfl
  .show _=D.tup [.str (if a=-1 then "" else _),.int k];rw[ee h1];rfl
 .refine#[#[bn.getD a.toNat Str.empty,"a","a",0,0,k],#[hn,b,b,WA,.inr rfl,f],?_,?_]
  .rw[e];rfl
  .show D.tup [.str (if (0:Int)=-1 then "" else _),.int k]=D.tup [.str (if a=-1 then "" else _),.int k];rw[cq h1];rfl
def Zb(bn:AT)(n:Str):dC bn QhL=.tup [.str "call",.str n]:=ee rfl
def ad2(bn:AT)(k:Int)(t:D):dC bn Qlc=.tup [.str "put",.str (bn.getD k.toNat Str.empty),tC bn t]:=rfl
def ad3(bn:AT)(n:Str)(t:D):dC bn Qld=.tup [.str "say",.str n,tC bn t]:=rfl
def Dc(bn:AT){d:D}(h:dz nb d):(tC bn d).iQ=true:=by
 obtain⟨a,k,rfl,_⟩:=h;rfl
def De(bn:AT){d:D}(h:Qed):(dC bn d).iQ=true:=by
 obtain⟨n,rfl,_⟩|⟨k,t,rfl,_,a⟩|⟨n,t,rfl,_,a⟩:=h
 .rfl
 .show QqG=true;rw[Dc bn a];rfl
 .show QqG=true;rw[Dc bn a];rfl
def Uu(bn ns:AT){nm:Nat}{d:D}(h:Qhb):(aC bn ns d).iQ=true:=by
 obtain⟨w,k,rfl,_⟩|⟨w,s,t,rfl,_,b,a⟩:=h
 .rfl
 .show(true&&((tC bn s).iQ&&((tC bn t).iQ&&true)))=true;rw[Dc bn b,Dc bn a];rfl
def oU{bn:AT}{d:D}(hb:iz bn)(h:Qhd):(∃n,c9 n=true/\dW bn d=[("call":Str),n]/\dC bn d=.tup [.str "call",.str n])\/∃w n t,w∈(["put","say"]:AT)/\c9 n=true/\dz bn.length t/\dW bn d=[w,n,eY bn t]/\dC bn d=.tup [.str w,.str n,tC bn t]:=by
 obtain⟨n,rfl,hn⟩|⟨k,t,rfl,b,a⟩|⟨n,t,rfl,hn,a⟩:=h
 .exact .inl #[n,hn,LC _ _,Zb _ _]
 .exact .inr #["put",_,t,WA,fO hb b.1 b.2,a,rfl,rfl ]
 .exact .inr #["say",n,t,WA,hn,a,rfl,rfl ]
theorem oq{C:D->D}(h:∀d∈l,(C d).iQ=true):D.bV (l.map C)=true:=iF λd hd=>by
 obtain⟨x,a,rfl⟩:=ef.1 hd;exact h x a
theorem yT{bn ns:AT}(hb:iz bn)(hn:iz ns)(h:QbF):(r.ct bn ns).clean=true:=by
 cases r with
 | bx n k=>rfl
 | md n k x st z=>rfl
 | io n w d=>exact De bn h.2.2
 | wy n w=>
  have a:=bJ (oq λd hd=>Uu bn ns (h.2.q d hd));have c:=bJ (oq λd hd=>De bn (h.2.d d hd));show(true&&((T.lst _).clean&&((T.lst _).clean&&(true&&(true&&true)))))=true;rw[a,c];rfl
theorem w6{bn ns:AT}(h:QbF):r.cn.iQ=true:=by
 cases r with
 | bx n k=>rfl
 | md n k x st z=>rfl
 | io n w d=>
  obtain⟨x,rfl,_⟩|⟨k,t,rfl,_,⟨_,_,rfl,_⟩⟩|⟨x,t,rfl,_,⟨_,_,rfl,_⟩⟩:=h.2.2<;>rfl
 | wy n w=>
  have a:=iF λq b=>by
   obtain⟨x,k,rfl,_⟩|⟨x,s,t,rfl,_,⟨_,_,rfl,_⟩,⟨_,_,rfl,_⟩⟩:=h.2.q q b<;>rfl
  have c:=iF λq b=>by
   obtain⟨x,rfl,_⟩|⟨k,t,rfl,_,⟨_,_,rfl,_⟩⟩|⟨x,t,rfl,_,⟨_,_,rfl,_⟩⟩:=h.2.d q b<;>rfl
  show Qp7=true;simp_all
def RW.cd(bn ns:AT):RW->D
 | .bx n k=>.tup [.str n,.int k]
 | .md _ _ x st _=>.tup [.str x,.str st]
 | .io _ _ d=>dC bn d
 | .wy _ w=>.tup [.str w.sg,.lst (w.qs.map Qjb),.lst (w.ds.map (dC bn)),.str (rP ns w.tg),.str w.md]
theorem ad4(bn ns:AT)(r:RW):(r.ct bn ns).ez=r.cd bn ns:=by
 cases r with
 | bx n k=>rfl
 | md n k x st z=>rfl
 | io n w d=>rfl
 | wy n w=>
  show D.tup [_,(T.lst _).ez,(T.lst _).ez,_,_]=_;rw[bF,bF];rfl
def IG(bn ns:AT)(i:Int)(r:RW):(r.fm bn ns i).ez=.tup [.int i,.int r.bl,.str r.word,r.cd bn ns]:=by
 show D.tup [_,_,_,(r.ct bn ns).ez]=_;rw[ad4];rfl
def Fw{bn ns:AT}(hb:iz bn)(hn:iz ns)(h:QbF):(r.fm bn ns i).clean=true:=by
 show(true&&(true&&(true&&((r.ct bn ns).clean&&true))))=true;rw[yT hb hn h];rfl
theorem Fx{n:Str}{c:Int}(hn:c9 n=true)(a:¬ c=0):45∈(n++yK c++sI (c.natAbs:Int)).cps.toList↔c<0:=by
 rw[cM,cM,eB,eB,mZ];constructor
 .intro q;obtain(q|q)|q:=q
  .exact absurd q (vz hn Wp)
  .have:=eL.1 q;lia
  .exact absurd q (Uk _ Wp)
 .intro q;refine .inl (.inr (eL.2 ?_));rw[cq We]
def Uv{a c:Int}(d:a.natAbs<10 ^ 30)(b:c.natAbs<10 ^ 30)(h:sI a=sI c):a=c:=by
 have e:=yO d;rw[h,yO b]at e;exact(gv e).symm
theorem ad5{p q:LT}(d:C8 p)(b:C8 q)(h:p.tt=q.tt):p.tn=q.tn/\p.c=q.c:=by
 have i:decide (p.a=-1)=decide (q.a=-1):=by rw[<- IE d,<- IE b,h]
 unfold LT.tn;by_cases h1:p.a=-1
 .have f:q.a=-1:=er (i▸eC h1);rw[ee h1,ee f];unfold LT.tt QS at h;rw[ee h1,ee f]at h;exact#[rfl,Uv d.c b.c h]
 .have f:¬ q.a=-1:=eR (i▸eP h1);rw[cq h1,cq f];unfold LT.tt QS at h;rw[cq h1,cq f]at h;have sg:∀{n m:Str} {c:Int},c9 n=true->¬ c=0->n++yK c++sI (c.natAbs:Int)=m->c9 m=true->False:=λ{n m c} hn j e hm=>by
   have:(if 0<c then 43 else 45)∈m.cps.toList:=by
    rw[<- e,cM,cM,mZ];exact e6 _ (e4 _ QcR)
   exact absurd this (vz hm (by split<;>decide))
  by_cases c1:p.c=0
  .rw[ee c1]at h;by_cases c2:q.c=0
   .rw[ee c2]at h;exact#[h,by rw[c1,c2]]
   .rw[cq c2]at h;exact(sg b.n0 c2 h.symm d.n0).elim
  .rw[cq c1]at h;by_cases c2:q.c=0
   .rw[ee c2]at h;exact(sg d.n0 c1 h b.n0).elim
   .rw[cq c2]at h;have m1:=Fx d.n0 c1;have m2:=Fx b.n0 c2;rw[h,m2]at m1;have es:(if 0<p.c then 43 else 45)=(if 0<q.c then 43 else 45):=by
     by_cases z:p.c<0
     .have:=m1.2 z;rw[cq We,cq We]
     .have:¬ q.c<0:=λy=>z (m1.1 y);rw[ee We,ee We]
    have g:=congrArg (λs:Str=>s.cps.toList) h;simp only[cM,mZ,es,eJ]at g;obtain⟨e1,e2⟩:=C7 (vz d.n0 (by split<;>decide)) (vz b.n0 (by split<;>decide)) g;have ec:=Uv (by rw[vK];exact d.c) (by rw[vK];exact b.c) (lz e2);refine#[lz e1,?_];lia
theorem Df{bn:AT}(hb:iz bn){d e:D}(hd:Qhc)(he:dz bn.length e)(h:eY bn d=eY bn e):tC bn d=tC bn e:=by
 obtain⟨p,b,p1,p2⟩:=yS hb hd;obtain⟨q,a,f,c⟩:=yS hb he;obtain⟨e1,e2⟩:=ad5 b a WE;simp_all
theorem ad6{bn:AT}(hb:iz bn){d e:D}(hd:Qhd)(he:m5 bn.length e)(h:dW bn d=dW bn e):dC bn d=dC bn e:=by
 obtain⟨n,_,b,c1⟩|⟨w,n,t,_,_,f,b,c1⟩:=oU hb hd
 .obtain⟨m,_,a,c2⟩|⟨v,m,s,_,_,c,a,c2⟩:=oU hb he
  .simp_all
  simp_all
 .obtain⟨m,_,a,c2⟩|⟨v,m,s,_,_,c,a,c2⟩:=oU hb he
  .rw[a]at h;lia
  .rw[b,a]at h;obtain⟨e1,h⟩:=hE h;obtain⟨e2,h⟩:=hE h;rw[c1,c2,e1,e2,Df hb f c (hE h).1]
def ad7{bn ns:AT}(hb:iz bn){nm:Nat}{d e:D}(hd:ig bn.length nm d)(he:ig bn.length nm e)(h:aW bn ns d=aW bn ns e):aC bn ns d=aC bn ns e:=by
 obtain⟨w,k,rfl,_⟩|⟨w,s,t,rfl,_,f,c⟩:=hd
 .obtain⟨v,j,rfl,_⟩|⟨v,x,y,rfl,_,b,a⟩:=he
  .have h:[w,ns.getD k.toNat _]=[v,ns.getD j.toNat _]:=h;obtain⟨e1,h⟩:=hE h;show D.tup [.str w,.str Qvk]=.tup [.str v,.str (ns.getD j.toNat _)];rw[e1,(hE h).1]
  .cases (hE (hE h).2).2
 .obtain⟨v,j,rfl,_⟩|⟨v,x,y,rfl,_,b,a⟩:=he
  .cases (hE (hE h).2).2
  .have h:[eY bn s,w,eY bn t]=[eY bn x,v,eY bn y]:=h;obtain⟨e1,h⟩:=hE h;obtain⟨e2,h⟩:=hE h;show D.tup [.str w,tC bn s,tC bn t]=.tup [.str v,tC bn x,tC bn y];rw[e2,Df hb f b e1,Df hb c a (hE h).1]
noncomputable def II:Ee:=[("on",["if","do","to"]),("if",["and","do","to"]),("and",["and","do","to"]),("do",["then","to"]),("then",["then","to"]),("to",[])]
noncomputable def fk:AT:=["on","if","and","do","then","to"]
theorem LJ{x:Str}:∀(l:Ee),(l.lookup x).isSome=decide (x∈l.map (·.1))
 | []=>rfl
 | (y,v)::l=>by
  rw[hT,eM];by_cases h:x=y
  .subst h;rw[beq_self_eq_true,eC (eu)];rfl
  .rw[kP.2 h];rw[LJ l];apply oC.2;rw[eg];exact#[.inr,λz=>z.resolve_left h]
def Uw(x:Str):(II.lookup x).isSome=decide (x∈fk):=LJ II
def pS(l:EM)(x:Str):EM:=if x∈fk then l++[[x]] else l.set Qcd (l.getD Qcd []++[x])
def zv(p:AT):Prop:=∃f l,p=f::l/\f∈fk/\∀x∈l,x∉fk
theorem LK:∀(l:AT) (ps:EM) (a:AT),(∀x∈l,x∉fk)->l.foldl pS (ps++[a])=ps++[a++l]
 | [],ps,a,_=>by simp
 | x::l,ps,a,h=>by
  have e:pS (ps++[a]) x=ps++[a++[x]]:=by
   unfold pS;simp_all
  rw[jL,e,LK l ps _ λy b=>h y Qbw,eJ];rfl
theorem Ux:∀(ps qs:EM),(∀p∈ps,zv p)->ps.flatten.foldl pS qs=qs++ps
 | [],qs,_=>by simp
 | p::ps,qs,h=>by
  obtain⟨f,l,rfl,hf,b⟩:=h p eu;simp;have e:pS qs f=qs++[[f]]:=ee hf;rw[e,LK l qs [f] b,Ux ps _ λq a=>h q QdS,eJ];rfl
theorem ad8(l:EM)(x:Str):l.length<=(pS l x).length/\(pS l x).length<=l.length+1:=by
 unfold pS;split
 .rw[fg,hJ];lia
 .rw[ij];lia
theorem IJ:∀(ws:AT) (l:EM),l.length<=(ws.foldl pS l).length/\(ws.foldl pS l).length<=l.length+ws.length
 | [],l=>by simp
 | x::ws,l=>by
  have a:=ad8 l x;have c:=IJ ws (pS l x);simp;lia
theorem Uy:∀(ws:AT) (l:EM) (n:Nat),(∀p∈l,p.length<=n)->∀p∈ws.foldl pS l,p.length<=n+ws.length
 | [],l,n,h=>h
 | x::ws,l,n,h=>λp b=>by
  have:=Uy ws _ _ (λq a=>by
   unfold pS at a;split at a
   .obtain a|a:=eB.1 a
    .exact hU QdX
    simp_all
   .obtain a|rfl:=kj a
    .exact hU QdX
    .rw[fg,eD];cases e:l[l.length-1]? with
     | none=>exact Nat.le_add_left _ _
     | some y=>exact ri (h y (ff e))) p b
  grind
theorem LF{x:Str}(h:QvL)(a:c<97):x∉fk:=λz=>by
 have:∀y∈fk,∀c∈y.cps.toList,97<=c:=by decide +kernel
 have:=this x z c h;lia
def Bm{x:Str}(h:Qc9):x∉fk:=λz=>by
 have e:∀y∈fk,c9 y=false:=by decide +kernel
 rw[e x z]at h;cases h
theorem IK{bn:AT}{d:D}(hb:iz bn)(h:Qhc):eY bn d∉fk:=by
 have num:=λk=>by
  have f:=sM k;have g:(sI k).cps.toList≠[]:=by
   by_cases h0:k<0
   .rw[w4 h0];simp
   .obtain⟨m,rfl⟩:=u7 (show 0<=k by lia);exact Lx m
  cases e:(sI k).cps.toList with
  | nil=>exact absurd e g
  | cons c l=>
   have b:c∈(sI k).cps.toList:=e▸eu;have:=f c b;exact LF b We
 obtain⟨a,k,rfl,i,⟨_,e⟩|⟨_,hn,e⟩⟩:=uA hb h
 .exact e▸num k
 .rw[e];unfold QS;rw[cq WA];split
  .exact Bm hn
  .refine LF (c:=if 0<k then 43 else 45) ?_ (by split<;>decide);rw[cM,cM,mZ];exact e6 _ (e4 _ QcR)
def Uz{bn:AT}{d:D}(hb:iz bn)(h:Qhd):∀x∈dW bn d,x∉fk:=by
 intro x a;obtain⟨n,hn,e,_⟩|⟨w,n,t,hw,hn,b,e,_⟩:=oU hb h
 .rw[e]at a;simp at a;obtain rfl|rfl:=a
  .decide +kernel
  .exact Bm hn
 .rw[e]at a;simp at a hw;obtain rfl|rfl|rfl:=a
  .obtain rfl|rfl:=hw<;>decide +kernel
  .exact Bm hn
  .exact IK hb b
def Zc{bn ns:AT}{d:D}(hb:iz bn)(hn:iz ns)(h:QlC):∀x∈aW bn ns d,x∉fk:=by
 intro x a;obtain⟨w,k,rfl,hw,b⟩|⟨w,s,t,rfl,hw,e,c⟩:=h
 .have a:x∈[w,ns.getD _ _]:=a;simp only[eg,fw,hG]at a;obtain rfl|rfl:=a
  .obtain rfl|rfl:=hw<;>decide +kernel
  .exact Bm (fO hn b.1 b.2)
 .have a:x∈[eY bn s,w,eY bn t]:=a;simp at a hw;obtain rfl|rfl|rfl:=a
  .exact IK hb e
  .obtain rfl|rfl|rfl|rfl:=hw<;>decide +kernel
  .exact IK hb c
section
variable{bn ns:AT}{w:WY}(hb:iz bn)(hn:iz ns)(h:Qh4)
include hb hn h
def UA:∀p∈wP bn ns w,zv p:=by
 intro p a;obtain rfl|a:=eg.1 a
 .refine#[_,_,rfl,Wl,λx b=>?_];cases eL.1 b;exact Bm h.s
 obtain a|a:=eB.1 a
 .obtain a|a:=eB.1 a
  .obtain⟨x,b,e⟩:=oS a;obtain⟨d,hd,rfl⟩:=ef.1 b;have:=Zc hb hn QoP;obtain rfl|rfl:=e
   .exact#[_,_,rfl,Wl,this]
   .exact#[_,_,rfl,Wl,this]
  .obtain⟨x,b,e⟩:=oS a;obtain⟨d,hd,rfl⟩:=ef.1 b;have:=Uz hb QoQ;obtain rfl|rfl:=e
   .exact#[_,_,rfl,Wl,this]
   .exact#[_,_,rfl,Wl,this]
 .unfold Hi at a;split at a
  .cases a
  .rename_i f;cases eL.1 a;obtain⟨z,_⟩|⟨c,hm⟩:=h.t
   .exact absurd z f
   refine#[_,_,rfl,Wl,λx b=>?_];obtain rfl|b:=eg.1 b
   .exact Bm (fO hn c.1 c.2)
   .unfold D6 at b;split at b
    .cases b
    .cases eL.1 b;simp only[eg,fw,hG]at hm;obtain e|e|e:=hm<;>rw[e]<;>decide +kernel
end
def rQ(p:AT):Str:=p.getD 0 Str.empty
def yU(x:Str):AT:=(II.lookup x).getD []
def Ah:Str->AT->Prop
 | _,[]=>True
 | x,y::l=>y∈yU x/\Ah y l
theorem UB:∀{l:AT} {x:Str},Ah x l->∀j y,l[j]? = some y->y∈yU ((x::l).getD j Str.empty)
 | z::l,x,h,0,y,e=>by
  cases e;exact h.1
 | z::l,x,h,j+1,y,e=>UB (l:=l) h.2 j y e
theorem LN{f g:Str}{t:AT}(hf:g∈yU f)(b:g∈yU g)(a:∀x∈([f,g]:AT),Ah x t):∀k,Ah f (List.replicate k g++t)
 | 0=>a f WA
 | k+1=>#[hf,LN b b (λx c=>a x WE) k]
theorem UC(f g:Str)(l:EM):(lk f g l).map rQ=if l=[] then [] else f::List.replicate Qcd g:=by
 cases l with
 | nil=>rfl
 | cons t r=>
  rw[lk,eM,ej];show f::r.map (λ_=>g)=_;rw[List.map_const'];rfl
def UD{l:EM}{t:AT}{x:Str}(h0:Ah x t)(a:f∈yU x)(hf:g∈yU f)(c:g∈yU g)(b:∀y∈([f,g]:AT),Ah y t):Ah x ((lk f g l).map rQ++t):=by
 rw[UC];split
 .exact h0
 .exact#[a,LN hf c b _]
theorem ad9(bn ns:AT)(w:WY):Ah "on" ((lk "if" "and" Qfy++lk "do" "then" Qex++Hi ns w).map rQ):=by
 have b:∀x∈(["on","if","and","do","then"]:AT),Ah x ((Hi ns w).map rQ):=λx a=>by
  have e:∀x∈(["on","if","and","do","then"]:AT),("to":Str)∈yU x:=by decide +kernel
  unfold Hi;split
  .trivial
  .exact#[e x a,trivial]
 have hd:∀x∈(["on","if","and"]:AT),Ah x ((lk "do" "then" Qex).map rQ++(Hi ns w).map rQ):=λx a=>by
  have e:∀x∈(["on","if","and"]:AT),("do":Str)∈yU x/\x∈(["on","if","and","do","then"]:AT):=by decide +kernel
  exact UD (b x (e x a).2) (e x a).1 Wl Wl λy c=>b y WF
 simp;exact UD (hd _ Wl) Wl Wl Wl λy c=>hd y WF
def Bo{q:Qoz}{z:Bool}(hf:q f=z)(b:q g=z)(l:EM):(lk f g l).filter Qin=if z then lk f g l else []:=by
 have:∀p∈lk f g l,q (rQ p)=z:=λp a=>by
  obtain⟨x,_,rfl|rfl⟩:=oS a
  .exact hf
  .exact b
 cases z with
 | true=>exact List.filter_eq_self.2 this
 | false=>exact o9.2 λp a=>this p a▸gq
def UE(bn ns:AT)(w:WY){q:Qoz}{z y:Bool}(h1:q "on" = false)(e:q "to" = false)(d:q "if" = z)(c:q "and" = z)(b:q "do" = y)(a:q "then" = y):(wP bn ns w).filter Qin=(if z then lk "if" "and" (w.qs.map QhY) else [])++if y then lk "do" "then" (w.ds.map (dW bn)) else []:=by
 have no:∀{p:AT} (l:Qe8),q _=false->(p::l).filter _=l.filter Qin:=λl h=>pj (h▸gq);have t:(Hi ns w).filter Qin=[]:=by
  unfold Hi;split
  .rfl
  .exact no [] e
 unfold wP;rw[no (p:=[("on"),w.sg]) _ h1,kz,kz,Bo d c,Bo b a,t,f6]
def LB(bn ns:AT)(w:WY):(wP bn ns w).filter Qqq=lk "if" "and" Qfy:=by
 rw[UE bn ns w (q:=λx=>decide _) (z:=true) (y:=false) (rfl) (rfl) (rfl) (rfl) (rfl) (rfl)];exact f6 _
def LA(bn ns:AT)(w:WY):(wP bn ns w).filter Qql=lk "do" "then" Qex:=by
 rw[UE bn ns w (q:=λx=>decide _) (z:=false) (y:=true) (rfl) (rfl) (rfl) (rfl) (rfl) (rfl)];rfl
structure Zd(c:CH):Prop where
 pre:jZ c.es
 kinds:∀m:Nat,m<c.es.length->c.ks.getD m Str.empty∈(["leaf","one","all"]:AT)
structure Dg(c:CH):Prop extends Zd c where
 ok:Y0 c
 n:iz c.ns
 b:iz c.bn
 deep:∀m:Int,0<=m->m<c.es.length->(cW c.es m).length<=12
 is:∀l∈c.is,∀d∈l,m5 c.bn.length d
 os:∀l∈c.os,∀d∈l,m5 c.bn.length d
 wn:∀w∈c.ws,QT c.bn.length c.ns.length w
 ws:c.ws.Pairwise λa c=>a.src<=c.src
 rl:c.rows.length<=4964
def CH.zY(c:CH):BC:=(List.range c.rows.length).map λi=>(c.rows.getD i (.bx "" 0)).nf ((i:Nat)+1:Int)
def Ai(es:BA):BA:=(List.range es.length).map λ(m:Nat)=>((cW es m).length:Int)
def oV:Cf:=[("leaf",0),("one",0),("all",0),("in",1),("out",2),("on",3)]
def tJ(b:Str)(mb:Int):RW->Prop
 | .bx _ _=>mb=-1
 | .md n k _ _ _=>k∈cH/\((mb=-1/\n=0)\/(mb ≠ -1/\1<=n/\(n:Int)<=mb+1))
 | .io n w _=>w∈(["in","out"]:AT)/\mb ≠ -1/\(n:Int)=mb/\∃a c,oV.lookup b=some a/\oV.lookup w=some c/\a<=c
 | .wy n _=>mb ≠ -1/\(n:Int)=mb/\∃a,oV.lookup b=some a/\a<=3
theorem qk{c:CH}(h:Dg c):∀r∈c.rows,r.Ok c.bn c.ns:=by
 intro r a;have k:c.ns.length=c.es.length:=h.ok.nl;obtain a|a:=eB.1 a
 .obtain⟨p,i,rfl⟩:=ef.1 a;exact#[h.b _ (ef.2 #[p,i,rfl]),(h.ok.bk p i).2]
 .obtain⟨m,hm,a⟩:=oy.1 a;have hm:=gh.1 hm;have hd:=h.deep m We We;have j:∀{l:D2},c.is.length=c.es.length->∀d,d∈l.getD m []->∃x∈l,d∈x:=λ{l} _ d hd=>by
   rw[eD]at hd;cases e:l[m]? with
   | none=>rw[e]at hd;cases hd
   | some x=>rw[e]at hd;exact#[x,ff e,hd]
  obtain rfl|a:=eg.1 a
  .refine#[We,Qny,h.n _ (mX We),?_];by_cases h1:c.ks.getD m Str.empty="one"
   .have:=(h.ok.one m hm).1 h1;exact .inl #[h1,We,ee h1]
   .exact .inr #[h1,cq h1,(h.ok.one m hm).2 h1]
  obtain a|a:=eB.1 a
  .obtain a|a:=eB.1 a
   .obtain⟨d,g,rfl⟩:=ef.1 a;obtain⟨x,f,hd2⟩:=j h.ok.il d g;exact#[We,Wl,h.is x f d hd2]
   .obtain⟨d,g,rfl⟩:=ef.1 a;obtain⟨x,f,hd2⟩:=j h.ok.il d g;exact#[We,Wl,h.os x f d hd2]
  .obtain⟨w,hw,rfl⟩:=ef.1 a;exact#[We,h.wn w (hY.1 hw).1]
def UG(m:Int):RW->Int
 | .md n _ _ _ _=>n
 | _=>m
def zZ:Str->Int->Ch->Prop
 | _,_,[]=>True
 | a,mb,r::l=>tJ a mb r/\zZ r.word (UG mb r) l
theorem IL:∀{l:Ch} {a:Str} {mb:Int},zZ a mb l->∀j r,l[j]? = some r->tJ (if j=0 then a else(l.getD (j-1) (.bx "" 0)).word) ((l.take j).foldl UG mb) r
 | b::l,a,mb,h,0,r,e=>by
  cases e;exact h.1
 | b::l,a,mb,h,j+1,r,e=>by
  have:=IL h.2 j r e;cases j with
  | zero=>exact this
  | succ j=>
   exact this
theorem UH:∀{l:Cf} {a:Str} {t:Ch},(∀x,zZ x (-1) t)->zZ a (-1) (l.map (λp=>.bx p.1 p.2)++t)
 | [],a,t,h=>h a
 | p::l,a,t,h=>#[rfl,UH h]
theorem LQ{n:Nat}{w:Str}{mb:Int}{c:Int}(hw:QtK)(hm:mb ≠ -1)(hn:Qpj)(a:oV.lookup w=some c):∀{l:BC} {t:Ch},zZ w mb t->zZ w mb Qx9
 | [],t,h=>h
 | d::l,t,h=>#[#[hw,hm,hn,c,c,a,a,WA ],LQ hw hm hn a h]
theorem UI{n:Nat}{w:Str}{mb:Int}{a c:Int}(hw:QtK)(hm:mb ≠ -1)(hn:Qpj)(f:oV.lookup w=some c){b:Str}{t:Ch}(g:oV.lookup b=some a)(e:a<=c)(h1:zZ b mb t)(h:zZ w mb t):zZ b mb Qx9:=by
 cases l with
 | nil=>exact h1
 | cons d l=>exact#[#[hw,hm,hn,a,c,g,f,e],LQ hw hm hn f h]
theorem UJ{n:Nat}{mb:Int}(hm:mb ≠ -1)(hn:Qpj):∀{l:QbE} {b:Str} {t:Ch},(∃a,oV.lookup b=some a/\a<=3)->(∀x,zZ x mb t)->zZ b mb (l.map Qo0++t)
 | [],b,t,_,h=>h b
 | w::l,b,t,c,h=>#[#[hm,hn,c],UJ hm hn #[3,rfl,WA ] h]
theorem aea{c:CH}(h:Zd c){m:Nat}(hm:m<c.es.length){b:Str}{mb:Int}{t:Ch}(h1:(mb=-1/\(cW c.es m).length=0)\/(mb ≠ -1/\1<=(cW c.es m).length/\((cW c.es m).length:Int)<=mb+1))(k:∀x,zZ x ((cW c.es m).length:Int) t):zZ b mb (c.mr m++t):=by
 have i:=Qny;have f:oV.lookup QlB=some 0:=by
  simp only[eg,fw,hG]at i;obtain e|e|e:=i<;>rw[e]<;>decide +kernel
 have d:((cW c.es m).length:Int) ≠ -1:=by lia
 unfold CH.mr;rw[hS,eJ,eJ];refine#[#[i,h1],?_];have hw:∀{b:Str} {a:Int},oV.lookup b=some a->a<=3->zZ b _ ((c.ws.filter λw=>decide QbH).map _++t):=λg l=>UJ d rfl #[_,g,l] k;have j:∀{b:Str} {a:Int},oV.lookup b=some a->a<=2->zZ b _ ((c.os.getD m []).map (RW.io _ "out")++((c.ws.filter _).map _++t)):=λg n=>UI (c:=2) Wl d rfl Wl g n (hw g We) (hw (a:=2) Wl Wp);exact UI (c:=1) Wl d rfl Wl f Wp (j f Wp) (j (a:=1) Wl Wp)
theorem UK(h:jZ es){m:Nat}(hm:m+1<es.length):1<=(cW es ((m+1:Nat):Int)).length/\(cW es ((m+1:Nat):Int)).length<=(cW es m).length+1:=by
 have a:=h.2 m hm;have e:=yp h.1 (m:=((m+1:Nat))) We We;rw[hI]at e;generalize es.getD _ 0=x at a e;have b:0<=x:=by
  obtain z|z:=a
  .lia
  .exact(wO h.1 We We z).1
 rw[e,cq We,hq];obtain z|z:=a
 .rw[z];lia
 .obtain⟨pre,ep,_⟩:=qa h.1 (m+1) We We We z;rw[ep,fg,hq];lia
theorem FA(h:jd es)(h0:QoM):es.getD 0 0=-1/\cW es ((0:Nat):Int)=[]:=by
 have a:=h.at (k:=((0:Nat))) We We;rw[hI]at a;have e:es.getD 0 0=-1:=by lia
 have:=yp h (m:=((0:Nat))) We We;rw[hI,ee e]at this;exact#[e,this]
theorem Fz{c:CH}(h:Zd c):∀(k m:Nat),m+k=c.es.length->∀x,zZ x (if m=0 then -1 else((cW c.es ((m-1:Nat):Int)).length:Int)) ((List.range' m k).flatMap c.mr)
 | 0,m,e,x=>trivial
 | k+1,m,e,x=>by
  rw[List.range'_succ,ik];refine aea h We ?_ λy=>?_
  .cases m with
   | zero=>exact .inl #[rfl,by rw[(FA h.pre.1 We).2];rfl]
   | succ m=>
    rw[cq WA,nr];have:=UK h.pre (m:=m) We;exact .inr #[We,this.1,We]
  .have:=Fz h k (m+1) We y;simp_all
def FD{c:CH}(h:Zd c):zZ "" (-1) c.rows:=by
 have:=Fz h c.es.length 0 Qwe;rw[ee rfl,<- List.range_eq_range']at this;exact UH this
noncomputable def UL{c:CH}(h:Dg c):zZ "" (-1) c.rows:=FD h.1
noncomputable def z0:RW:=.bx "" 0
noncomputable def idx(F:Qjc)(l:Ch):BC:=(List.range l.length).map λi=>F i (l.getD i (.bx "" 0))
def UM(F:Qjc)(r:RW)(l:Ch):idx F (r::l)=F 0 r::idx (λi=>F Qai) l:=by
 unfold idx;rw[hq,List.range_succ_eq_map,eM,ej];rfl
theorem Dh{p:Qcz}{p':Qj5}{g:Qcy}{g':RW->T}:∀(l:Ch) (F:Qjc),(∀i,∀r∈l,p (F i r)=p' r)->(∀i,∀r∈l,p' r=true->g (F i r)=g' r)->((idx F l).filter p).map g=(l.filter p').map g'
 | [],F,_,_=>rfl
 | r::l,F,h1,f=>by
  have d:=Dh l _ (λi q b=>h1 Qai q Qbw) (λi q b=>f _ q Qbw);have a:=h1 0 r eu;have c:=f 0 r eu;rw[UM,List.filter_cons,List.filter_cons,a];cases e:p' r with
  | true=>rw[ee rfl,ee rfl,eM,eM,d,c e]
  | false=>rw[cq WA,cq WA,d]
theorem w9{F:Qjc}{l:Ch}{d:D}(h:d∈idx F l):∃i r,i<l.length/\r∈l/\r=l.getD i (.bx "" 0)/\d=F i r:=by
 obtain⟨i,hi,rfl⟩:=ef.1 h;have hi:=gh.1 hi;refine#[i,_,hi,?_,rfl,rfl];simp_all
noncomputable def RW.Ny:RW->Bool
 | .bx _ _=>true
 | _=>false
def RW.UN:RW->Bool
 | .md _ _ _ _ _=>true
 | _=>false
theorem Z0{bn ns:AT}(h:QbF):decide (r.word="box")=r.Ny:=by
 cases r with
 | bx n k=>exact eC rfl
 | md n k x st z=>
  refine eP λe=>?_;have e:k="box":=e;have:=h.2.1;rw[e]at this;exact absurd this Wl
 | io n w d=>
  refine eP λe=>?_;have e:w="box":=e;have:=h.2.1;rw[e]at this;exact absurd this Wl
 | wy n w=>exact eP (show ¬ ("on":Str)="box" by decide +kernel)
theorem Di{bn ns:AT}(h:QbF):decide (r.word∈cH)=r.UN:=by
 cases r with
 | bx n k=>exact eP (show ¬ ("box":Str)∈cH by decide +kernel)
 | md n k x st z=>exact eC h.2.1
 | io n w d=>
  refine eP λe=>?_;have e:w∈cH:=e;have:=h.2.1;simp at this;obtain rfl|rfl:=this<;>exact absurd e Wl
 | wy n w=>exact eP (show ¬ ("on":Str)∈cH by decide +kernel)
def CH.md(c:CH)(m:Nat):RW:=.md (cW c.es m).length QlB QtW (if c.ks.getD m Str.empty="one" then c.ns.getD (c.ss.getD m 0).toNat Str.empty else "") Qxz
def UO(c:CH):c.rows.filter RW.Ny=c.br:=by
 unfold CH.rows;rw[kz,List.filter_eq_self.2,o9.2,f6]
 .intro r a;obtain⟨m,_,a⟩:=oy.1 a;obtain rfl|a:=eg.1 a
  .exact gq
  obtain a|a:=eB.1 a
  .obtain a|a:=eB.1 a
   .obtain⟨d,_,rfl⟩:=ef.1 a;exact gq
   .obtain⟨d,_,rfl⟩:=ef.1 a;exact gq
  .obtain⟨d,_,rfl⟩:=ef.1 a;exact gq
 .intro r a;obtain⟨p,_,rfl⟩:=ef.1 a;rfl
def xg{f:α->RW}{p:Qj5}(h:∀a,p (f a)=false)(l:QR):(l.map f).filter p=[]:=by
 rw[o9];intro r b;obtain⟨a,_,rfl⟩:=ef.1 b;rw[h];exact gq
def UQ(c:CH):c.rows.filter RW.UN=(List.range c.es.length).map c.md:=by
 unfold CH.rows;have e:c.br.filter RW.UN=[]:=xg Qbv _;rw[kz,e,List.nil_append,List.filter_flatMap];have:∀m,(c.mr m).filter RW.UN=[c.md m]:=λm=>by
  unfold CH.mr;rw[ph rfl,kz,kz,xg Qbv,xg Qbv,xg Qbv];rfl
 generalize List.range _=l
 induction l with
 | nil=>rfl
 | cons m l a=>rw[ik,a,this];rfl
theorem Bp{f:Str->α}(l:AT):(List.range l.length).map (λm=>f (l.getD m Str.empty))=l.map f:=by
 refine kb λi=>?_;rw[fR,fR];by_cases h:i<l.length
 .rw[h5 h,ft h];show some (f _)=some _;rw[eD,ft h];rfl
 simp_all
def Zf{bn ns:AT}(h:QbF):(r.nf i).iQ=true:=by
 show(true&&(true&&(true&&(r.cn.iQ&&true))))=true;rw[w6 h];rfl
def gD(w:Str)(st:D2):RW->D2
 | .md _ _ _ _ _=>st++[[]]
 | .io _ v d=>if v=w then st.set Qbc Qh9 else st
 | _=>st
theorem UR{w:Str}{n:Nat}:∀(l:BC) (st:D2) (a:BC),(l.map Qvl).foldl (gD w) (st++[a])=st++[a++l]
 | [],st,a=>by simp
 | d::l,st,a=>by
  have e:gD w (st++[a]) (.io n w d)=st++[a++[d]]:=by
   show(if w=w then _ else _)=_;simp
  rw[eM,jL,e,UR l st _,eJ];rfl
theorem UT{w v:Str}{n:Nat}(h:v≠w):∀(l:BC) (st:D2),(l.map (RW.io n v)).foldl (gD w) st=st
 | [],st=>rfl
 | d::l,st=>by
  show(l.map _).foldl _ (if v=w then _ else st)=st;exact cq h▸UT h l st
theorem UU{w:Str}{n:Nat}:∀(l:QbE) (st:D2),(l.map Qo0).foldl (gD w) st=st
 | [],st=>rfl
 | d::l,st=>UU l st
theorem Lu{w:Str}:∀(l:Cf) (st:D2),(l.map λp=>RW.bx p.1 p.2).foldl (gD w) st=st
 | [],st=>rfl
 | d::l,st=>Lu l st
noncomputable def CH.dl(c:CH)(b:Bool):D2:=if b then c.is else c.os
theorem SK(c:CH)(b:Bool)(m:Nat)(st:D2):(c.mr m).foldl Qok st=st++[(c.dl b).getD m []]:=by
 unfold CH.mr;rw[jL,h9,h9];show((c.ws.filter _).map _).foldl _ (((c.os.getD m []).map _).foldl _ (((c.is.getD m []).map _).foldl _ (st++[[]])))=_;cases b with
 | true=>
  rw[ee rfl,UR,UT Wl,UU];rfl
 | false=>
  rw[cq WA,UT (v:="in") Wl,UR,UU];rfl
theorem UW(c:CH)(b:Bool):∀n,((List.range n).flatMap c.mr).foldl Qok []=(List.range n).map λm=>(c.dl b).getD m []
 | 0=>rfl
 | n+1=>by
  rw[oP,q5,h9,UW c b n,fb];rw[ik,List.flatMap_nil,f6,SK];rfl
theorem Zg{c:CH}(h:Y0 c)(b:Bool):c.rows.foldl Qok []=c.dl b:=by
 unfold CH.rows CH.br;rw[h9,Lu,UW];have e:(c.dl b).length=c.es.length:=by
  have a:=h.il;have d:=h.ow.n2;cases b with
  | true=>exact a
  | false=>exact d.trans a
 refine kb λi=>?_;simp;grind
def gW(st:Qj6):RW->BC×Int
 | .md _ _ _ _ _=>(st.1,st.2+1)
 | .wy _ w=>(st.1++[.tup [.int st.2,.str w.sg,.tup w.qs,.tup w.ds,.int w.tg,.str w.md]],st.2)
 | _=>st
theorem UX{v:Str}{n:Nat}:∀(l:BC) (st:Qj6),(l.map (RW.io n v)).foldl gW st=st
 | [],st=>rfl
 | d::l,st=>UX l st
theorem Lo:∀(l:Cf) (st:Qj6),(l.map λp=>RW.bx p.1 p.2).foldl gW st=st
 | [],st=>rfl
 | d::l,st=>Lo l st
theorem Lm{n:Nat}{m:Int}:∀(l:QbE) (st:BC),(∀w∈l,w.src=m)->(l.map Qo0).foldl gW (st,m)=(st++l.map WY.d,m)
 | [],st,_=>by simp
 | w::l,st,h=>by
  show(l.map _).foldl gW (st++[.tup _],m)=_;rw[Lm l _ λx a=>h x QdS,eJ,<- h w eu];rfl
theorem UY(c:CH):∀n:Nat,((List.range n).flatMap c.mr).foldl gW ([],-1)=(((List.range n).flatMap λ(m:Nat)=>c.ws.filter λw=>decide QbH).map WY.d,(n:Int)-1)
 | 0=>rfl
 | n+1=>by
  rw[oP,q5,h9,UY c n,q5];rw[ik,List.flatMap_nil,f6,ik];unfold CH.mr;rw[jL,h9,h9];show((c.ws.filter _).map _).foldl _ (((c.os.getD n []).map _).foldl _ (((c.is.getD n []).map _).foldl _ (_,(n:Int)-1+1)))=_;rw[UX,UX,show n-1+1=(n:Int) by lia,Lm _ _ (λw hw=>er (hY.1 hw).2)];simp
theorem LR:∀(l:QbE) (n:Int),Qrt->(∀w∈l,w.src<=n)->l=(l.filter λw=>decide Qpk)++l.filter λw=>decide (w.src=n)
 | [],_,_,_=>rfl
 | w::l,n,d,hb=>by
  obtain⟨h1,f⟩:=List.pairwise_cons.1 d;have hw:=hb w eu;by_cases h:w.src<n
  .rw[ph (p:=λw:WY=>decide Qpk) (eC h),pj We,hS,<- LR l n f λx b=>hb x Qbw]
  .have e:w.src=n:=by lia
   have a:(w::l).filter (λw=>decide Qpk)=[]:=o9.2 λx b z=>by
    have z:=er z;obtain rfl|b:=eg.1 b
    .exact h z
    .have:=h1 x b;lia
   have c:(w::l).filter (λw=>decide (w.src=n))=w::l:=List.filter_eq_self.2 λx b=>eC (by
    obtain rfl|b:=eg.1 b
    .exact e
    .have:=h1 x b;have:=hb x Qbw;lia)
   rw[a,c];rfl
theorem FE:∀(n:Nat) (l:QbE),Qrt->(∀w∈l,0<=w.src/\w.src<n)->((List.range n).flatMap λ(m:Nat)=>l.filter λw=>decide QbH)=l
 | 0,l,_,hb=>by
  cases l with
  | nil=>rfl
  | cons w l=>
   have:=hb w eu;lia
 | n+1,l,f,hb=>by
  have e:=LR l n f λw hw=>by
   have:=hb w hw;lia
  have g:=FE n _ (f.filter _) λw hw=>by
   obtain⟨h1,i⟩:=hY.1 hw;exact#[(hb w h1).1,er i]
  rw[oP,q5,ik,List.flatMap_nil,f6];refine Eq.trans (congrArg (· ++ _) ?_) e.symm;refine Eq.trans ?_ g;have go:∀r:CO,(∀m∈r,m<n)->(r.flatMap λ(m:Nat)=>l.filter λw=>decide QbH)=r.flatMap λ(m:Nat)=>(l.filter λw=>decide (w.src<(n:Int))).filter λw=>decide QbH:=λr d=>by
   induction r with
   | nil=>rfl
   | cons m r b=>
    rw[ik,ik,b λx h=>d x (eE _ h),List.filter_filter];congr 1;refine u3 λw _=>?_;have:=d m eu;by_cases z:w.src=(m:Int)
    .rw[eC z,eC We];rfl
    .rw[eP z];rfl
  exact go _ λm hm=>gh.1 hm
theorem Zh{c:CH}(h:Dg c):(c.rows.foldl gW ([],-1)).1=c.ws.map WY.d:=by
 unfold CH.rows CH.br;rw[h9,Lo,UY];rw[FE _ _ h.ws λw hw=>?_];have:=(h.ok.ow.ww w hw).sr;have:=h.ok.il;simp_all
theorem UZ{w:Str}:∀(l:Ch) (mb:Int) (st:D2),(mb ≠ -1->0<st.length)->l.foldl UG mb ≠ -1->0<(l.foldl (gD w) st).length
 | [],mb,st,h,z=>h z
 | r::l,mb,st,h,z=>by
  refine UZ l _ _ ?_ z;cases r with
  | md n k x a y=>
   intro _;show 0<(st++[[]]).length;simp
  | bx n k=>exact h
  | wy n v=>exact h
  | io n v d=>
   intro q;have:=h q;show 0<(if v=w then _ else st).length;split
   .rw[ij];exact this
   .exact this
theorem IQ{w:Str}:∀(l:Ch) (st:D2),(l.foldl (gD w) st).length<=st.length+l.length
 | [],st=>eA _
 | r::l,st=>by
  have:=IQ (w:=w) l (gD w st r);have e:(gD w st r).length<=st.length+1:=by
   cases r with
   | md n k x a y=>
    show(st++[[]]).length<=_;simp
   | bx n k=>exact kv _
   | wy n v=>exact kv _
   | io n v d=>
    show(if v=w then _ else st).length<=_;split
    .rw[ij];simp
    simp
  simp;lia
theorem U0{w:Str}:∀(l:Ch) (st:D2) (n:Nat),(∀p∈st,p.length<=n)->∀p∈l.foldl (gD w) st,p.length<=n+l.length
 | [],st,n,h=>h
 | r::l,st,n,h=>λp b=>by
  have:=U0 l _ _ (λq a=>by
   cases r with
   | bx _ _=>exact hU QdX
   | wy _ _=>exact hU QdX
   | md _ _ _ _ _=>
    obtain a|a:=eB.1 a
    .exact hU QdX
    simp_all
   | io _ v d=>
    have a:q∈(if v=w then st.set _ _ else st):=a;split at a
    .obtain a|rfl:=kj a
     .exact hU QdX
     .rw[fg,eD];cases e:st[st.length-1]? with
      | none=>exact Nat.le_add_left _ _
      | some y=>exact ri (h y (ff e))
    .exact hU QdX) p b
  grind
noncomputable def tT(l:BC):T:=.lst (l.map T.sh)
def Zi(l:D2):T.ez (.lst (l.map tT))=.lst (l.map .lst):=by
 rw[T.ez];congr 1
 induction l with
 | nil=>rfl
 | cons p l a=>
  rw[eM,T.fK,a,eM];congr 1;exact bF _
noncomputable def NG:D->BC
 | .lst ds=>ds
 | _=>[]
def U1{d:D}(h:Qed):d.iQ=true:=by
 obtain⟨x,rfl,_⟩|⟨k,t,rfl,_,⟨_,_,rfl,_⟩⟩|⟨x,t,rfl,_,⟨_,_,rfl,_⟩⟩:=h<;>rfl
theorem U3:∀(l:Ch) (st:Qj6),(l.foldl gW st).1.length<=st.1.length+l.length
 | [],st=>eA _
 | r::l,st=>by
  have:=U3 l (gW st r);have e:(gW st r).1.length<=st.1.length+1:=by
   cases r with
   | md n k x a y=>exact kv _
   | bx n k=>exact kv _
   | io n v d=>exact kv _
   | wy n v=>
    show(st.1++[_]).length<=_;simp
  simp;lia
noncomputable def U4:AT->ES
 | []=>[]
 | x::r=>if x∈r then U4 r else U4 r++[((.inr x:Key),D.int r.length)]
def Dj(l:AT):ES:=U4 l.reverse
noncomputable def pz(l:AT)(x:Str):Int:=if x="" then -1 else(l.idxOf x:Nat)
noncomputable def pk(l:AT)(x:Str):Bool:=decide (x="") || decide QbY
def U5(a c:ES)(k:Key):kF (a++c) k=(kF a k).or (kF c k):=by
 unfold kF;rw[List.find?_append];cases a.find? _<;>rfl
theorem LV(x:Str):∀r:AT,kF (U4 r) QeZ=if x∈r then some (.int (r.reverse.idxOf x:Nat)) else none
 | []=>rfl
 | y::r=>by
  have b:=LV x r;unfold U4;rw[ka];by_cases c:y∈r
  .rw[ee c,b];by_cases a:x∈r
   .rw[ee a,ee QdS,List.idxOf_append,ee Qtn]
   .rw[cq a,cq λz=>?_];simp_all
  .rw[cq c,U5,b];by_cases a:x∈r
   .rw[ee a,ee QdS,List.idxOf_append,ee Qtn];rfl
   .rw[cq a];by_cases e:x=y
    .subst e;rw[ee eu,List.idxOf_append,cq (λz=>a (List.mem_reverse.1 z))];unfold kF;simp
    .rw[cq _]
     .unfold kF;rw[List.find?_cons_of_neg (by simpa using λz:y=x=>e z.symm)];rfl
     simp_all
def Dk(l:AT)(x:Str):kF (Dj l) QeZ=if x∈l then some (.int (l.idxOf x:Nat)) else none:=by simp[Dj,LV]
def U6(l:AT)(x:Str):Dj QcV=if x∈l then Dj l else Dj l++[((.inr x:Key),D.int l.length)]:=by
 unfold Dj;rw[vl];show U4 (x::l.reverse)=_;rw[U4];simp
theorem LW:∀r:AT,(U4 r).length<=r.length
 | []=>eA _
 | x::r=>by
  have:=LW r;unfold U4;split
  .simp;lia
  simp_all
def Zj(l:AT):(Dj l).length<=l.length:=by
 have:=LW l.reverse
 rwa [vk]at this
theorem IU:∀r:AT,∀p∈U4 r,∃n:Nat,p.2=.int n
 | [],_,h=>by cases h
 | x::r,p,h=>by
  unfold U4 at h;split at h
  .exact IU r p h
  .obtain h|h:=eB.1 h
   .exact IU r p h
   .rw[eL.1 h];exact#[ _,rfl]
inductive vS
 | call (n:Str)
 | put (b n:Str) (k:Int)
 | say (x n:Str) (k:Int)
def WT(n:Str)(k:Int):D:=.tup [.str n,.int k]
def oa(l:AT)(n:Str)(k:Int):D:=.tup [.int (pz l n),.int k]
def vS.d:vS->D
 | .call n=>.tup [.str "call",.str n]
 | .put b n k=>.tup [.str "put",.str b,WT n k]
 | .say x n k=>.tup [.str "say",.str x,WT n k]
def vS.ok(l:AT):vS->Bool
 | .call _=>true
 | .put b n _=>pk l b&&pk l n
 | .say _ n _=>pk l n
def vS.n(l:AT):vS->D
 | .call n=>.tup [.str "call",.str n]
 | .put b n k=>.tup [.str "put",.int (pz l b),oa l n k]
 | .say x n k=>.tup [.str "say",.str x,oa l n k]
inductive vU
 | ur (w x:Str)
 | num (w n:Str) (k:Int) (n2:Str) (k2:Int)
def vU.d:vU->D
 | .ur w x=>.tup [.str w,.str x]
 | .num w n k n2 k2=>.tup [.str w,WT n k,WT n2 k2]
def vU.Ok:vU->Prop
 | .ur w _=>w∈(["open","shut"]:AT)
 | .num w _ _ _ _=>w∉(["open","shut"]:AT)
def vU.ok(bs ms:AT):vU->Bool
 | .ur _ x=>pk ms x
 | .num _ n _ n2 _=>pk bs n&&pk bs n2
def vU.n(bs ms:AT):vU->D
 | .ur w x=>.tup [.str w,.int (pz ms x)]
 | .num w n k n2 k2=>.tup [.str w,oa bs n k,oa bs n2 k2]
structure Hj where
 sg:Str
 as:List vU
 ds:List vS
 tg:Str
 md:Str
def Hj.d(w:Hj):D:=.tup [.str w.sg,.lst (w.as.map vU.d),.lst (w.ds.map vS.d),.str w.tg,.str w.md]
def Hj.ok(bs ms:AT)(w:Hj):Bool:=w.as.all (vU.ok bs ms)&&(w.ds.all (vS.ok bs)&&pk ms w.tg)
def Hj.n(bs ms:AT)(w:Hj):D:=.tup [.str w.sg,.tup (w.as.map (vU.n bs ms)),.tup (w.ds.map (vS.n bs)),.int (pz ms w.tg),.str w.md]
structure Hj.Ok(w:Hj):Prop where
 a:∀q∈w.as,q.Ok
 al:w.as.length<=1000
 dl:w.ds.length<=1000
inductive xh
 | bx (n:Str) (k:Int)
 | md (w x st:Str)
 | dd (w:Str) (d:vS)
 | wy (w:Hj)
structure kH where
 r:Int
 bl:Nat
 c:xh
def xh.w:xh->Str
 | .bx _ _=>"box"
 | .md w _ _=>w
 | .dd w _=>w
 | .wy _=>"on"
def xh.d:xh->D
 | .bx n k=>.tup [.str n,.int k]
 | .md _ x st=>.tup [.str x,.str st]
 | .dd _ d=>d.d
 | .wy w=>w.d
def xh.ok(bs ms:AT):xh->Bool
 | .bx _ _=>true
 | .md _ _ st=>pk ms st
 | .dd _ d=>d.ok bs
 | .wy w=>w.ok bs ms
def xh.n(bs ms:AT):xh->D
 | .bx n k=>.tup [.str n,.int k]
 | .md _ x st=>.tup [.str x,.int (pz ms st)]
 | .dd _ d=>d.n bs
 | .wy w=>w.n bs ms
def xh.Ok:xh->Prop
 | .bx _ _=>True
 | .md w _ _=>w∈cH
 | .dd w _=>w∈(["in","out"]:AT)
 | .wy w=>w.Ok
def kH.d(q:kH):D:=.tup [.int q.r,.int q.bl,.str q.c.w,q.c.d]
def kH.n(bs ms:AT)(q:kH):D:=.tup [.int q.r,.int q.bl,.str q.c.w,q.c.n bs ms]
def sP(l:AT)(d:vS):(d.n l).iQ=true:=by cases d<;>rfl
def Dl(bs ms:AT)(a:vU):(a.n bs ms).iQ=true:=by cases a<;>rfl
def LX(bs ms:AT)(w:Hj):(w.n bs ms).iQ=true:=by
 have h1:D.bV (w.as.map _)=true:=eN (Dl bs ms) _;have a:D.bV (w.ds.map _)=true:=eN (sP bs) _;show Qp7=true;rw[h1,a];rfl
theorem Zk(bs ms:AT)(c:xh):(c.n bs ms).iQ=true:=by
 cases c with
 | bx=>rfl
 | md=>rfl
 | dd w d=>exact sP bs d
 | wy w=>exact LX bs ms w
open Classical in
def inv[Inhabited α](f:QbD)(d:D):α:=if h:∃a,f a=d then h.choose else default
def Dm[Inhabited α]{f:QbD}(i:∀a c,f a=f c->a=c)(a:α):inv f (f a)=a:=by
 unfold inv;have h:∃c,f c=f a:=#[a,rfl];rw[dif_pos h];exact i _ _ h.choose_spec
def LY[Inhabited α]{f:QbD}(i:∀a c,f a=f c->a=c){p:Qb6}{l:QR}(h:∀d∈l.map f,true=true->p (inv f d)=true):l.all p=true:=hM.2 λa b=>by
 have:=h _ (ef.2 #[a,b,rfl]) rfl
 rwa [Dm i]at this
def LZ[Inhabited α]{f:QbD}(i:∀a c,f a=f c->a=c)(g:α->T)(l:QR):((l.map f).filter λ_=>true).map (λd=>g (inv f d))=l.map g:=by
 rw[cP,ej];exact hZ λa _=>congrArg g (Dm i a)
theorem IV{p:Qb6}{l:QR}{a:α}(h:a∈l)(n:p a=false):l.all p=false:=by
 cases q:l.all p with
 | false=>rfl
 | true=>rw[hM.1 q a h]at n;cases n
instance:Inhabited vS:=#[.call ""]
instance:Inhabited vU:=#[.ur "" ""]
instance:Inhabited xh:=#[.bx "" 0]
instance:Inhabited Hj:=#[#["",[],[],"",""]]
instance:Inhabited kH:=#[#[0,0,default]]
theorem sR:∀a c:vS,a.d=c.d->a=c:=by
 have h:¬ ("put":Str)="say":=by decide +kernel
 intro a c e;cases a<;>cases c<;>simp[vS.d,WT]at e
 .rw[e]
 .obtain⟨rfl,rfl,rfl⟩:=e;rfl
 .exact absurd e.1 h
 .exact absurd e.1.symm h
 simp_all
def xo:∀a c:vU,a.d=c.d->a=c:=by
 intro a c e;cases a<;>cases c<;>simp[vU.d,WT]at e
 .obtain⟨rfl,rfl⟩:=e;rfl
 .obtain⟨rfl,⟨rfl,rfl⟩,rfl,rfl⟩:=e;rfl
noncomputable def xh.Ny:xh->Bool
 | .bx _ _=>true
 | _=>false
def xh.UN:xh->Bool
 | .md _ _ _=>true
 | _=>false
def xh.nm:xh->Str
 | .bx n _=>n
 | .md _ x _=>x
 | _=>""
def Zm(fs:Qda):AT:=(fs.filter (·.c.Ny)).map (·.c.nm)
def Zn(fs:Qda):AT:=(fs.filter (·.c.UN)).map (·.c.nm)
def L0(fs:Qda)(q:kH):Bool:=q.c.ok (Zm fs) (Zn fs)
def oW(fs:Qda):Int:=match fs.find? λq=>!L0 fs q with
 | some q=>q.r
 | none=>0
structure Ll(fs:Qda):Prop where
 ok:∀q∈fs,q.c.Ok
 l:fs.length<=5000
 bl:(Zm fs).length<=1000
 ml:(Zn fs).length<=1000
theorem Zo{c:xh}(h:c.Ok):decide (c.w="box")=c.Ny:=by
 cases c with
 | bx=>exact eC rfl
 | md w x st=>
  have h:w∈cH:=h;exact eP λz=>by rw[show w="box" from z]at h;exact absurd h Wl
 | dd w d=>
  have h:w∈(["in","out"]:AT):=h;exact eP λz=>by rw[show w="box" from z]at h;exact absurd h Wl
 | wy w=>exact eP (show ¬ ("on":Str)="box" by decide +kernel)
theorem Zq{c:xh}(h:c.Ok):decide (c.w∈cH)=c.UN:=by
 cases c with
 | bx=>exact eP (show("box":Str)∉cH by decide +kernel)
 | md w x st=>exact eC h
 | dd w d=>
  have h:w∈(["in","out"]:AT):=h;refine eP λz=>?_;have z:w∈cH:=z;simp at h;obtain rfl|rfl:=h<;>exact absurd z Wl
 | wy w=>exact eP (show("on":Str)∉cH by decide +kernel)
variable{fs:Qda}
def U7{p:Qcz}{p':kH->Bool}{g:Qcy}{g':kH->T}(c:∀q∈fs,p q.d=p' q)(b:∀q∈fs,p' q=true->g q.d=g' q):((fs.map kH.d).filter p).map g=(fs.filter p').map g':=by
 rw[la,ej,u3 ‹_›];exact hZ λq a=>b q (hY.1 a).1 (hY.1 a).2
def map_inj{f:QbD}(i:∀a c,f a=f c->a=c){l m:QR}(h:l.map f=m.map f):l=m:=(List.map_inj_right i).1 h
def Zr:∀a c:Hj,a.d=c.d->a=c:=by
 rintro⟨a1,a2,a3,a4,a5⟩ ⟨c1,c2,i,h,g⟩ e;simp[Hj.d]at e;obtain⟨rfl,f,b,rfl,rfl⟩:=e;rw[map_inj xo f,map_inj sR b]
theorem L1:∀a c:kH,a.c.Ok->c.c.Ok->a.d=c.d->a=c:=by
 rintro⟨a1,a2,a3⟩ ⟨c1,c2,k⟩ f g e;have f:a3.Ok:=f;simp[kH.d,D.tup.injEq,List.cons.injEq,D.str.injEq,D.int.injEq,Int.ofNat_inj,and_true]at e;obtain⟨rfl,rfl,hw,hd⟩:=e;have j:=Zo f;have i:=Zq f;rw[hw,Zo g]at j;rw[hw,Zq g]at i;have b:∀{w:Str},w∈(["in","out"]:AT)->¬ w="on":=λh z=>by rw[z]at h;exact absurd h Wl
 cases a3<;>cases k<;>first|(cases j;done)|(cases i;done)|skip
 .simp only[xh.d,and_true]at hd;lia
 .simp only[xh.d,D.tup.injEq,List.cons.injEq,D.str.injEq,and_true]at hd;obtain⟨rfl,rfl⟩:=hd;cases (hw);rfl
 .cases (hw);rw[sR _ _ hd]
 .exact absurd hw (b f)
 .exact absurd hw.symm (b g)
 .rw[Zr _ _ hd]
open Classical in
def IW(l:Qda)(d:D):kH:=if h:∃a∈l,a.d=d then h.choose else default
def xq{l:Qda}(h:∀q∈l,q.c.Ok){q:kH}(b:q∈l):IW l q.d=q:=by
 unfold IW;have e:∃a∈l,a.d=q.d:=#[q,b,rfl];exact dif_pos e▸L1 _ _ (h _ e.choose_spec.1) (h _ b) e.choose_spec.2
theorem O1(h:∀q∈fs,q.c.Ok){i:Nat}{q:kH}(e:(fs.map kH.d)[i]? = some q.d)(b:q.c.Ok)(lt:∀u∈(fs.map kH.d).take i,true=true->L0 fs (IW fs u)=true)(n:L0 fs q=false):oW fs=q.r:=by
 have hi:i<fs.length:=by
  have:=(hH.1 e).1;simp_all
 have e2:=by
  rw[fR,ft hi]at e;exact L1 _ _ (h _ WA) b (gv e)
 have hf:fs.find? (λq=>!L0 fs q)=some q:=by
  rw[List.find?_eq_some_iff_getElem];refine#[by rw[n];rfl,i,hi,e2,λj a=>?_];have hm:fs[j]'(Nat.lt_trans a hi)∈fs:=j1 _;have:=lt (fs[j]'(Nat.lt_trans a hi)).d (x5.2 #[j,WI,WA ]) rfl;rw[xq h hm]at this;simp_all
 unfold oW;rw[hf]
def ND(h:∀q∈fs,q.c.Ok)(a:∀d∈fs.map kH.d,true=true->L0 fs Qpl=true):fs.all (L0 fs)=true:=hM.2 λq b=>by
 have:=a q.d QsZ rfl
 rwa [xq h b]at this
def Zt(h:∀q∈fs,q.c.Ok)(g:kH->D):((fs.map kH.d).filter λ_=>true).map (λd=>T.sh (g Qpl))=(fs.map g).map T.sh:=by
 rw[cP,ej,ej];exact hZ λq a=>by show T.sh _=_;rw[xq h a];rfl
def Zu(bs ms:AT)(q:kH):(q.n bs ms).iQ=true:=by
 show(true&&(true&&(true&&((q.c.n bs ms).iQ&&true))))=true;rw[Zk];rfl
def Bq(l:AT):(T.iY (Dj l)).clean=true:=by
 rw[T.clean];refine iF λd hd=>?_;obtain⟨b,a,rfl⟩:=ef.1 hd;obtain⟨n,e⟩:=IU l.reverse b a;rw[e];rfl
def WU(bn ns:AT)(rs:Ch):Str:=Str.join "\n" (rs.map Qnj)
structure sT(bn ns:AT)(rs:Ch):Prop where
 b:iz bn
 n:iz ns
 ok:∀r∈rs,r.Ok bn ns
 st:zZ "" (-1) rs
 ne:rs≠[]
 tl:(WU bn ns rs).length<=sizeLine
 rl:rs.length<=4964
def L4(bn ns:AT)(rs:Ch):B2:=(List.range rs.length).map λi=>(rs.getD i (.bx "" 0)).fm bn ns ((i:Nat)+1:Int)
def dK(bn:AT)(d:D):vS:=
 if (aX d 0).toS="call" then .call (aX d 1).toS
 else if (aX d 0).toS="put" then .put (bn.getD (aX d 1).iZ.toNat Str.empty) QlD (aX Qbh 1).iZ
 else .say (aX d 1).toS QlD (aX Qbh 1).iZ
def aK(bn ns:AT)(d:D):vU:=
 if d.cnt=2 then .ur (aX d 0).toS Qrs
 else .num (aX d 0).toS (rP bn (aX QdT 0).iZ) (aX QdT 1).iZ QlD (aX Qbh 1).iZ
def wK(bn ns:AT)(w:WY):Hj:=#[w.sg,w.qs.map (aK bn ns),w.ds.map (dK bn),rP ns w.tg,w.md]
def Zv(bn ns:AT):RW->xh
 | .bx n k=>.bx n k
 | .md _ k x st _=>.md k x st
 | .io _ w d=>.dd w (dK bn d)
 | .wy _ w=>.wy (wK bn ns w)
def U8(bn ns:AT)(i:Int)(r:RW):kH:=#[i,r.bl,Zv bn ns r]
def uC(bn ns:AT)(rs:Ch):List kH:=(List.range rs.length).map λi=>U8 bn ns ((i:Nat)+1:Int) (rs.getD i (.bx "" 0))
section
variable{bn ns:AT}{nm:Nat}{d:D}
def Zw(h:dz nb d):WT (rP bn (aX d 0).iZ) (aX d 1).iZ=tC bn d:=by
 obtain⟨a,c,rfl,_⟩:=h;rfl
def GI(h:Qed):(dK bn d).d=dC bn d:=by
 obtain⟨n,rfl,_⟩|⟨k,t,rfl,_,a⟩|⟨n,t,rfl,_,a⟩:=h
 .rfl
 .rw[ad2,<- Zw a];rfl
 .rw[ad3,<- Zw a];rfl
theorem GG(h:Qhb):(aK bn ns d).d=aC bn ns d/\(aK bn ns d).Ok:=by
 obtain⟨w,k,rfl,hw,_⟩|⟨w,s,t,rfl,hw,b,a⟩:=h
 .refine#[rfl,?_];show w∈(["open","shut"]:AT);simp_all
 .constructor
  .show D.tup [.str w,WT (rP bn (aX s 0).iZ) (aX s 1).iZ,WT Qmw (aX t 1).iZ]=.tup [.str w,tC bn s,tC bn t];rw[Zw b,Zw a]
  .show w∉(["open","shut"]:AT);simp at hw;obtain rfl|rfl|rfl|rfl:=hw<;>decide +kernel
theorem ZA(h:QbF):(Zv bn ns r).Ok:=by
 cases r with
 | bx n k=>trivial
 | md n k x st z=>exact h.2.1
 | io n w d=>exact h.2.1
 | wy n w=>
  have hw:=h.2;have b:=hw.l;refine#[λq a=>?_,?_,?_]
  .obtain⟨d,hd,rfl⟩:=ef.1 a;exact(GG Qjp).2
  .show(w.qs.map _).length<=1000;simp;lia
  .show(w.ds.map _).length<=1000;simp;lia
theorem SI(h:QbF):(Zv bn ns r).w=r.word/\(Zv bn ns r).d=r.cd bn ns:=by
 cases r with
 | bx n k=>exact#[rfl,rfl]
 | md n k x st z=>exact#[rfl,rfl]
 | io n w d=>exact#[rfl,GI h.2.2]
 | wy n w=>
  have hw:=h.2;refine#[rfl,?_];show D.tup [.str w.sg,.lst ((w.qs.map _).map _),.lst ((w.ds.map _).map _),.str (rP ns _),.str w.md]=.tup _;rw[ej,ej,hZ (show ∀d∈w.qs,(vU.d∘aK bn ns) d=aC bn ns d fromλd hd=>(GG Qjp).1),hZ (show ∀d∈w.ds,(vS.d∘dK bn) d=dC bn d fromλd hd=>GI Qjq)]
def Tu(h:QbF):(r.fm bn ns i).ez=(U8 bn ns i r).d:=by
 obtain⟨e1,e2⟩:=SI h;rw[IG];show _=D.tup [.int i,.int r.bl,.str (Zv bn ns r).w,(Zv bn ns r).d];rw[e1,e2]
end
def U9{rs:Ch}{i:Nat}(h:i<rs.length):rs.getD i (.bx "" 0)∈rs:=by
 rw[eD,ft h];exact j1 h
theorem Va{α:Type}{f:α->T}{g:QbD}:∀l:List α,(∀i∈l,(f i).ez=g i)->T.fK Qcr=l.map g
 | [],_=>rfl
 | i::l,h=>by rw[eM,T.fK,Va l λj a=>h j QdS,h i eu,eM]
def Zx{bn ns:AT}{rs:Ch}(h:Qjr):(T.lst Qi7).ez=.lst ((uC bn ns rs).map kH.d):=by
 unfold L4 uC;rw[ej];exact congrArg _ (Va _ λi hi=>Tu Qlu)
theorem Br{α:Type}{f:α->T}:∀l:List α,(∀i∈l,(f i).clean=true)->T.cG Qcr=true
 | [],_=>rfl
 | i::l,h=>by rw[eM,T.cG,Br l λj a=>h j QdS,h i eu];rfl
def Bs{bn ns:AT}{rs:Ch}(h:Qjr):(T.lst Qi7).clean=true:=by
 rw[iS];exact Br _ λi hi=>Fw h.b h.n Qlu
def Zy{bn ns:AT}{rs:Ch}(h:Qjr):∀q∈uC bn ns rs,q.c.Ok:=λq a=>by
 obtain⟨i,hi,rfl⟩:=ef.1 a;exact ZA Qlu
structure PT where
 c:CH
 xb:Str
 xn:Str
def PT.bn(p:PT):AT:=p.c.bn++[p.xb]
def PT.ns(p:PT):AT:=p.c.ns++[p.xn]
def PT.mr(p:PT)(m:Nat):Ch:=.md (cW p.c.es m).length Qto Qtp Qnk Qb8 ::
 ((p.c.is.getD m []).map (.io (cW p.c.es m).length "in")++(p.c.os.getD m []).map (.io (cW p.c.es m).length "out")++(p.c.ws.filter λw=>decide QbH).map (.wy (cW p.c.es m).length))
def PT.rows(p:PT):Ch:=p.c.br++(List.range p.c.es.length).flatMap p.mr
def PT.oX(p:PT):List kH:=uC p.bn p.ns p.rows
def PT.rz(p:PT)(z:Int):Int:=pz p.c.ns (rP p.ns z)
def PT.Zz(p:PT)(d:D):D:=(dK p.bn d).n p.c.bn
def PT.MW(p:PT)(d:D):D:=(aK p.bn p.ns d).n p.c.bn p.c.ns
def PT.xf(p:PT)(w:WY):WY:=#[w.src,w.sg,w.qs.map p.MW,w.ds.map p.Zz,p.rz w.tg,w.md]
def PT.rn(p:PT):CH:=#[p.c.bs,p.c.ns,p.c.ks,p.c.es,p.c.ss.map p.rz,p.c.is.map (·.map p.Zz),p.c.os.map (·.map p.Zz),p.c.ws.map p.xf]
def PT.Vb(p:PT):RW->RW
 | .bx n k=>.bx n k
 | .md n k x st _=>.md n k x (if k="one" then p.c.ns.getD (pz p.c.ns st).toNat Str.empty else "") (pz p.c.ns st)
 | .io n w d=>.io n w QjD
 | .wy n w=>.wy n (p.xf w)
variable{β:Type}
def getD_map(f:Qg0)(l:QR)(i:Nat)(a:α):(l.map f).getD i (f a)=f (l.getD i a):=by
 rw[eD,eD,fR];cases l[i]?<;>rfl
def getD_in{l:QR}{i:Nat}(h:Qj7)(a c:α):l.getD i a=l.getD i c:=by
 rw[eD,eD,ft h];rfl
theorem Ts{p:PT}{m:Nat}(h:m<p.c.ss.length):(p.mr m).map p.Vb=p.rn.mr m:=by
 have e1:p.rn.ss.getD m 0=pz p.c.ns Qnk:=by
  show(p.c.ss.map _).getD m 0=_;rw[getD_in WE 0 _,getD_map];rfl
 have e2:p.rn.is.getD m []=(p.c.is.getD m []).map _:=getD_map _ _ m [];have e3:p.rn.os.getD m []=(p.c.os.getD m []).map _:=getD_map _ _ m [];have a:p.rn.ws.filter (λw=>decide QbH)=(p.c.ws.filter _).map _:=la;unfold PT.mr CH.mr;rw[e1,e2,e3,a,eM,fb,fb,ej,ej,ej,ej,ej,ej];rfl
def xr{p:PT}(h:Qhe):p.rows.map p.Vb=p.rn.rows:=by
 unfold PT.rows CH.rows;rw[fb,List.map_flatMap];have e1:p.c.br.map p.Vb=p.rn.br:=by
  unfold CH.br;simp;rfl
 congr 1;have go:∀l:CO,(∀m∈l,m<p.c.ss.length)->l.flatMap (λa=>(p.mr a).map _)=l.flatMap p.rn.mr:=λl b=>by
  induction l with
  | nil=>rfl
  | cons m l d=>rw[ik,ik,d λj e=>b j (eE _ e),Ts (b m eu)]
 exact go _ λm hm=>h▸gh.1 hm
theorem To(p:PT)(i:Int)(r:RW):(U8 p.bn p.ns i r).n p.c.bn p.c.ns=(p.Vb r).nf i:=by
 cases r with
 | bx n k=>rfl
 | md n k x st z=>rfl
 | io n w d=>rfl
 | wy n w=>
  show D.tup [.int i,.int _,.str _,.tup [.str _,.tup ((w.qs.map _).map _),.tup ((w.ds.map _).map _),.int _,.str _]]=.tup _;rw[ej,ej];rfl
def Zs{p:PT}(h:Qhe):p.oX.map (kH.n p.c.bn p.c.ns)=p.rn.zY:=by
 unfold PT.oX uC CH.zY;rw[<- xr h,ej,ed];refine hZ λi _=>?_;show(U8 _ _ _ _).n _ _=_;rw[To];exact congrArg _ (getD_map _ _ i _).symm
def RW.nm:RW->Str
 | .bx n _=>n
 | .md _ _ x _ _=>x
 | _=>""
theorem mi(a:α)(l:QR):(List.range l.length).map (λi=>l.getD i a)=l:=by
 refine kb λi=>?_;rw[fR];by_cases h:i<l.length
 .simp_all
 simp_all
variable{bn ns:AT}
def Vc{q:kH->Bool}{q':Qj5}(h:∀i r,q (U8 bn ns i r)=q' r)(rs:Ch):((uC bn ns rs).filter q).map (·.c.nm)=(rs.filter q').map RW.nm:=by
 have hn:∀i r,(U8 bn ns i r).c.nm=r.nm:=λi r=>by cases r<;>rfl
 have go:∀(f:Nat->RW) (l:CO),((l.map _).filter q).map (·.c.nm)=((l.map f).filter q').map RW.nm:=λf l=>by
  rw[la,la,ej,ej,u3 (show ∀i∈l,(q∘λi=>U8 bn ns ((i:Nat)+1) _) i=(q'∘f) i fromλi _=>h _ _)];exact hZ λi _=>hn _ _
 have:=go (λi=>rs.getD i (.bx "" 0)) (List.range rs.length);rw[mi]at this;exact this
def IX(p:PT)(r:RW):(p.Vb r).Ny=r.Ny/\(p.Vb r).UN=r.UN/\(p.Vb r).nm=r.nm:=by cases r<;>exact#[rfl,rfl,rfl]
def L5{p:PT}(h:Qhe){q:Qj5}(a:∀r,q (p.Vb r)=q r):(p.rows.filter q).map RW.nm=(p.rn.rows.filter q).map RW.nm:=by
 rw[<- xr h,la,ej,u3 (show ∀r∈p.rows,(q∘p.Vb) r=q r fromλr _=>a r)];exact hZ λr _=>(IX p r).2.2.symm
def sS{p:PT}(h:Qhe):Zm p.oX=p.c.bn:=by
 unfold Zm PT.oX;rw[Vc (q':=RW.Ny) (λi r=>by cases r<;>rfl),L5 h λr=>(IX p r).1,UO];show(p.c.bs.map _).map _=p.c.bs.map _;rw[ej];rfl
def sU{p:PT}(h:Qhe)(hn:p.c.ns.length=p.c.es.length):Zn p.oX=p.c.ns:=by
 unfold Zn PT.oX;rw[Vc (q':=RW.UN) (λi r=>by cases r<;>rfl),L5 h λr=>(IX p r).2.1,UQ,ej];exact hn▸mi _ _
theorem Vd(p:PT):∀{l:Ch} {a:Str} {mb:Int},zZ a mb (l.map p.Vb)->zZ a mb l
 | [],_,_,_=>trivial
 | r::l,a,mb,h=>by
  have h1:tJ a mb r:=by cases r<;>exact h.1
  have b:zZ r.word (UG mb r) (l.map p.Vb):=by cases r<;>exact h.2
  exact#[h1,Vd p b]
structure n7(p:PT):Prop where
 n:iz p.ns
 b:iz p.bn
 nl:p.c.ns.length=p.c.es.length
 kl:p.c.ks.length=p.c.es.length
 sl:p.c.ss.length=p.c.es.length
 il:p.c.is.length=p.c.es.length
 ol:p.c.os.length=p.c.es.length
 e0:0<p.c.es.length
 e1:p.c.es.length<=41
 pre:jZ p.c.es
 deep:∀m:Int,0<=m->m<p.c.es.length->(cW p.c.es m).length<=12
 kinds:∀m:Nat,m<p.c.es.length->p.c.ks.getD m Str.empty∈(["leaf","one","all"]:AT)
 one:∀m:Nat,m<p.c.es.length->(p.c.ks.getD m Str.empty="one" /\ 0<=p.c.ss.getD m 0/\p.c.ss.getD m 0<p.ns.length)\/(p.c.ks.getD m Str.empty≠"one" /\ p.c.ss.getD m 0=-1)
 b3:p.c.bs.length<=3
 bk:∀q∈p.c.bs,q.2.natAbs<10 ^ 30
 is:∀l∈p.c.is,l.length<=40/\∀d∈l,m5 p.bn.length d
 os:∀l∈p.c.os,l.length<=40/\∀d∈l,m5 p.bn.length d
 wl:p.c.ws.length<=40
 wn:∀w∈p.c.ws,QT p.bn.length p.ns.length w/\0<=w.src/\w.src<p.c.es.length
 ws:p.c.ws.Pairwise λa c=>a.src<=c.src
structure g7(p:PT):Prop extends n7 p where
 tl:(WU p.bn p.ns p.rows).length<=sizeLine
 rl:p.rows.length<=4964
def G2(l:AT):pz l "" = -1:=ee rfl
theorem L6{l:AT}{x:Str}(h:pk l x=true)(n:x≠""):0<=pz l x/\pz l x<l.length:=by
 unfold pk at h;rw[eP n,Bool.false_or,pw]at h;unfold pz;rw[cq n];have:=x4 h;lia
variable{z:Int}
theorem uD{l:AT}(h:iz l)(z0:0<=z)(a:z<l.length):rP l z=l.getD z.toNat Str.empty/\rP l z≠"":=by
 have e:rP l z=l.getD _ _:=cq We;exact#[e,e▸Fl (fO h z0 a)]
variable{b m:AT}{d:D}
def L7(hb:iz bn){t:D}(h:dz bn.length t)(k:pk b Qmw=true):dz b.length (oa b Qmw (aX t 1).iZ):=by
 obtain⟨a,c,rfl,e,d⟩:=h;refine#[_,c,rfl,?_,d];obtain rfl|⟨f,a1⟩:=e
 .exact .inl (G2 b)
 .exact .inr (L6 k (uD hb f a1).2)
def Ve(hb:iz bn)(h:Qhd)(k:(dK bn d).ok b=true):m5 b.length ((dK bn d).n b):=by
 obtain⟨n,rfl,hn⟩|⟨z,t,rfl,c,a⟩|⟨n,t,rfl,hn,a⟩:=h
 .exact .inl #[n,rfl,hn]
 .have k:(pk b _&&pk b _)=true:=k;rw[gm]at k;exact .inr (.inl #[_,_,rfl,L6 k.1 (Fl (fO hb c.1 c.2)),L7 hb a k.2])
 .exact .inr (.inr #[n,_,rfl,hn,L7 hb a k])
def Tn(hb:iz bn)(hn:iz ns)(h:QlC)(k:(aK bn ns d).ok b m=true):ig b.length m.length ((aK bn ns d).n b m):=by
 obtain⟨w,z,rfl,hw,a⟩|⟨w,s,t,rfl,hw,e,c⟩:=h
 .exact .inl #[w,_,rfl,hw,L6 k (Fl (fO hn a.1 a.2))]
 .have k:(pk b _&&pk b _)=true:=k;simp at k;exact .inr #[w,_,_,rfl,hw,L7 hb e k.1,L7 hb c k.2]
def nP(n:Nat)(h:dz nb d):Sm Qaw d/\mK Qaw d/\d.iQ=true:=by
 obtain⟨a,c,rfl,_⟩:=h;refine#[#[by show 2<=_;decide,λd hd=>?_],.tup λd hd=>?_,rfl]
 .obtain rfl|hd:=eg.1 hd
  .cases n<;>trivial
  .cases eL.1 hd;cases n<;>trivial
 .obtain rfl|hd:=eg.1 hd
  .exact .int _ _
  .cases eL.1 hd;exact .int _ _
theorem L8{x:Str}(h:Qc9):PyData.strOk x=true:=by
 have h:=(fC h).2.2.2;unfold PyData.strOk;rw[<- Array.all_toList,hM];intro c a;have:=h c a;refine eC ?_;lia
theorem oY{x:Str}(h:Qc9):x.length<=21:=by
 have:=(fC h).2.1;lia
def Dn(h:Qed):oR QdV d:=by
 obtain⟨n,rfl,hn⟩|⟨z,t,rfl,b,a⟩|⟨n,t,rfl,hn,a⟩:=h
 .exact good2 (.inl #[n,rfl,oY hn]) rfl rfl Qbf Qbf Qet Qsi
 .exact good3 (.inr (.inl #[_,_,rfl,b,a])) rfl rfl (nP 0 a).2.2 Qbf QiF QlM Qet Qiq QlE
 .exact good3 (.inr (.inr #[_,_,rfl,oY hn,a])) rfl rfl (nP 0 a).2.2 Qbf Qbf QlM Qet Qsi QlE
variable{nm:Nat}
def ZC(h:Qhb):oR QoN d:=by
 have h0:=h;obtain⟨w,z,rfl,hw,c⟩|⟨w,s,t,rfl,hw,b,a⟩:=h
 .exact good2 h0 rfl rfl Qbf QiF (λn=>.str _ _ (by obtain rfl|rfl:=hw<;>decide +kernel)) Qiq
 .exact good3 h0 rfl (nP 0 b).2.2 (nP 0 a).2.2 Qbf (λn=>(nP n b).1) QlM (λn=>.str _ _ (by simp at hw;obtain rfl|rfl|rfl|rfl:=hw<;>decide +kernel)) (λn=>(nP n b).2.1) QlE
section
variable{p:PT}
def FG(h:g7 p){m:Nat}(hm:QiU):∀r∈p.mr m,r∈p.rows:=λr a=>e4 _ (oy.2 #[m,gh.2 hm,a])
theorem mem_getD{l:List QR}{x:QR}(h:x∈l):∃m,m<l.length/\l.getD m []=x:=by
 obtain⟨m,hm,e⟩:=q8 h;exact#[m,hm,by simp_all ]
theorem Bt{l:List QR}{m:Nat}{d:α}(h:d∈l.getD m []):∃x∈l,d∈x:=by
 rw[eD]at h;cases e:l[m]? with
 | none=>rw[e]at h;cases h
 | some x=>rw[e]at h;exact#[x,ff e,h]
theorem Ma(h:g7 p):∀r∈p.rows,r.Ok p.bn p.ns:=by
 intro r a;have hb:=λq c=>h.b _ (e6 _ (ef.2 #[q,c,rfl]));obtain a|a:=eB.1 a
 .obtain⟨q,c,rfl⟩:=ef.1 a;exact#[hb q c,h.bk q c]
 obtain⟨m,hm,a⟩:=oy.1 a;have hm:=gh.1 hm;have hd:=h.deep m We We;obtain rfl|a:=eg.1 a
 .refine#[We,h.kinds m hm,h.n _ (e6 _ (mX (h.nl▸hm))),?_];obtain⟨h1,e,i⟩|⟨h1,e⟩:=h.one m hm
  .exact .inl #[h1,#[e,i],cq We]
  .exact .inr #[h1,ee e,e]
 obtain a|a:=eB.1 a
 .obtain a|a:=eB.1 a
  .obtain⟨d,g,rfl⟩:=ef.1 a;obtain⟨x,f,hd2⟩:=Bt g;exact#[We,Wl,(h.is x f).2 d hd2]
  .obtain⟨d,g,rfl⟩:=ef.1 a;obtain⟨x,f,hd2⟩:=Bt g;exact#[We,Wl,(h.os x f).2 d hd2]
 .obtain⟨w,hw,rfl⟩:=ef.1 a;exact#[We,(h.wn w (hY.1 hw).1).1]
def KU(h:g7 p):sT p.bn p.ns p.rows:=by
 refine#[h.b,h.n,Ma h,?_,λz=>?_,h.tl,h.rl]
 .apply Vd p;exact xr h.sl▸FD #[h.pre,h.kinds]
 .have e0:=h.e0;have:=(vy.1 z).2;rw[List.flatMap_eq_nil_iff]at this;cases this 0 (gh.2 e0)
theorem Vf(h:g7 p):Ll p.oX:=by
 refine#[Zy (KU h),?_,?_,?_]
 .show(uC _ _ _).length<=_;rw[uC,ed,gi];have:=h.rl;lia
 .rw[sS h.sl,CH.bn,ed];have:=h.b3;lia
 .rw[sU h.sl h.nl,h.nl];have:=h.e1;lia
def PT.kn(p:PT):Bool:=p.oX.all (L0 p.oX)
theorem Dp(h:g7 p)(k:Qfk)(a:r∈p.rows):(Zv p.bn p.ns r).ok p.c.bn p.c.ns=true:=by
 obtain⟨i,hi,e⟩:=q8 a;have hm:U8 p.bn p.ns Qai r∈p.oX:=ef.2 #[i,gh.2 hi,by simp_all ];have:=hM.1 k _ hm;unfold L0 at this
 rwa [sS h.sl,sU h.sl h.nl]at this
def KO{m:Nat}(h:m<p.c.ss.length):p.rn.ss.getD m 0=p.rz Qb8:=by
 show(p.c.ss.map p.rz).getD m 0=_;rw[getD_in (by rw[ed];exact h) 0 (p.rz 0),getD_map]
end
section
variable{p:PT}
def Jq(h:g7 p)(k:Qfk)(a:l∈p.c.is)(hd:d∈l):m5 p.c.bn.length QjD:=by
 obtain⟨m,hm,rfl⟩:=mem_getD a;exact Ve h.b ((h.is _ a).2 d hd) (Dp h k (FG h (h.il▸hm) _ (eE _ (e6 _ (e6 _ QsD)))))
def Jn(h:g7 p)(k:Qfk)(a:l∈p.c.os)(hd:d∈l):m5 p.c.bn.length QjD:=by
 obtain⟨m,hm,rfl⟩:=mem_getD a;exact Ve h.b ((h.os _ a).2 d hd) (Dp h k (FG h (h.ol▸hm) _ (eE _ (e6 _ (e4 _ QsD)))))
def IT(h:g7 p)(k:pk p.c.ns (rP p.ns z)=true)(z0:0<=z)(a:z<p.ns.length):0<=p.rz z/\p.rz z<p.c.ns.length:=L6 k (uD h.n z0 a).2
def yB(p:PT):p.rz (-1)=-1:=G2 _
theorem IS(h:g7 p)(k:Qfk){w:WY}(hw:w∈p.c.ws):QT p.c.bn.length p.c.ns.length (p.xf w):=by
 obtain⟨a,b,c⟩:=h.wn w hw;have e:=Int.toNat_of_nonneg b;have g:=Dp h k (FG h We _ (eE _ (e4 _ (ef.2 #[w,hY.2 #[hw,eC e.symm],rfl]))));have g:((w.qs.map _).all _&&((w.ds.map (dK p.bn)).all _&&pk p.c.ns _))=true:=g;rw[gm,gm,hM,hM]at g;obtain⟨k1,k2,k3⟩:=g;refine#[?_,λd hd=>?_,λd hd=>?_,a.s,?_]
 .show(w.qs.map _).length+(w.ds.map _).length<=40;simp;exact a.l
 .obtain⟨q,f,rfl⟩:=ef.1 hd;exact Tn h.b h.n (a.q q f) (k1 _ Qs0)
 .obtain⟨q,f,rfl⟩:=ef.1 hd;exact Ve h.b (a.d q f) (k2 _ Qs0)
 .obtain⟨t,md⟩|⟨t,md⟩:=a.t
  .exact .inl #[by show p.rz w.tg=-1;rw[t];exact yB p,md]
  .exact .inr #[IT h k3 t.1 t.2,md]
def Vg(h:g7 p)(k:Qfk):Y0 p.rn:=by
 have len:∀{l:D2},(l.map (·.map p.Zz)).length=l.length:=ed ..;have tp:∀{i:D2},(∀l∈i,l.length<=40)->(∀l∈i,∀d∈l,m5 p.c.bn.length QjD)->∀l∈i.map (·.map p.Zz),j5 (j3 p.c.bs.length) 40 l:=λh1 g l f=>by
  obtain⟨l,u,rfl⟩:=ef.1 f;refine#[by rw[ed];exact h1 l u,λd hd=>?_];obtain⟨d,hd2,rfl⟩:=ef.1 hd;have:=Dn (g l u d hd2)
  rwa [CH.bn,ed]at this
 refine#[h.nl,h.kl,(ed ..).trans h.sl,len.trans h.il,h.e0,h.e1,h.pre.1,λx j=>oY (h.n x (e6 _ j)),h.b3,λq r=>#[oY (h.b _ (e6 _ (ef.2 #[q,r,rfl]))),h.bk q r],λx j=>?_,λm hm=>?_,?_]
 .obtain⟨m,hm,rfl⟩:=q8 (show x∈p.c.ks from j);have:=h.kinds m (h.kl▸hm);rw[eD,ft hm,Option.getD_some]at this;simp only[eg,fw,hG]at this;obtain e|e|e:=this<;>rw[e]<;>decide
 .have hm:m<p.c.es.length:=hm;rw[KO (h.sl▸hm)];obtain⟨h1,g,y⟩|⟨h1,g⟩:=h.one m hm
  .have v:=Dp h k (FG h hm _ eu);have:=IT h v g y;exact#[λ_=>by show _/\_<(p.c.es.length:Int);rw[<- h.nl];exact this,λz=>absurd h1 z]
  .exact#[λz=>absurd z h1,λ_=>by rw[g];exact yB p]
 .refine#[by show 0<(p.c.is.map _).length;rw[len,h.il];exact h.e0,by show(p.c.is.map _).length<=_;rw[len,h.il];exact h.e1,by show(p.c.os.map _).length=(p.c.is.map _).length;rw[len,len,h.ol,h.il],tp (λl f=>(h.is l f).1) (λl f d hd=>Jq h k f hd),tp (λl f=>(h.os l f).1) (λl f d hd=>Jn h k f hd),by show(p.c.ws.map _).length<=_;rw[ed];exact h.wl,λw hw=>?_];obtain⟨w,o,rfl⟩:=ef.1 hw;have a:=IS h k o;have bl:p.c.bn.length=p.c.bs.length:=ed ..;refine#[a.l,λd hd=>bl▸h.nl▸ZC (a.q d hd),λd hd=>bl▸Dn (a.d d hd),#[L8 a.s,?_,oY a.s,h.nl▸a.t],(h.wn w o).2.1,?_]
  .obtain⟨_,e⟩|⟨_,e⟩:=a.t
   .rw[e];decide +kernel
   .simp only[eg,fw,hG]at e;obtain e|e|e:=e<;>rw[e]<;>decide +kernel
  .show w.src<((p.c.is.map _).length:Int);rw[len,h.il];exact(h.wn w o).2.2
def Th(h:g7 p)(k:Qfk):Dg p.rn:=by
 refine#[#[h.pre,h.kinds],Vg h k,λx a=>h.n x Qgu,λx a=>h.b x Qgu,h.deep,λl c d hd=>?_,λl c d hd=>?_,λw hw=>?_,?_,?_]
 .obtain⟨l,e,rfl⟩:=ef.1 c;obtain⟨d,hd2,rfl⟩:=ef.1 hd;exact Jq h k e hd2
 .obtain⟨l,e,rfl⟩:=ef.1 c;obtain⟨d,hd2,rfl⟩:=ef.1 hd;exact Jn h k e hd2
 .obtain⟨w,f,rfl⟩:=ef.1 hw;exact IS h k f
 .exact rk.2 h.ws
 .rw[<- xr h.sl,ed];exact h.rl
end
noncomputable def vA(h:Qed):j3 nb d:=(Dn h).pr
variable{w:WY}
theorem Mb(hb:∀x∈bn,x.length<=21)(hn:∀x∈ns,x.length<=21)(hw:Qh4):(C6 bn ns w).length<=9326:=by
 have a:∀x∈ma bn ns w,x.length<=110:=by
  intro x b;obtain rfl|b:=eg.1 b
  .exact gr (oY hw.s) Wp
  obtain b|b:=eB.1 b
  .obtain b|b:=eB.1 b
   .exact qh (P:=λx=>x.length<=110) Wl Wl (λy c=>by
     obtain⟨d,hd,rfl⟩:=ef.1 c;exact wX hb hn Qjp) x b
   .exact qh (P:=λx=>x.length<=110) Wl Wl (λy c=>by
     obtain⟨d,hd,rfl⟩:=ef.1 c;exact jf hb (vA Qjq)) x b
  obtain b|b:=eB.1 b
  .unfold Y3 at b;split at b
   .cases b
   .obtain rfl|b:=eg.1 b
    .decide +kernel
    .cases eL.1 b;exact gr (j8 hn _) Wp
  .unfold D6 at b;split at b
   .cases b
   .cases eL.1 b;have:∀x∈(["new","near","far"]:AT),x.length<=110:=by decide +kernel
    obtain⟨_,e⟩|⟨_,e⟩:=hw.t
    .rw[e];decide +kernel
    .exact this _ e
 have d:(ma bn ns w).length<=84:=by
  have a:=hw.l;unfold ma;rw[hq,fg,fg,fg,qg,qg,ed,ed];have e1:(Y3 ns w).length<=2:=by unfold Y3;split<;>exact ew rfl
  have e2:(D6 w).length<=1:=by unfold D6;split<;>exact ew rfl
  lia
 have:=uy _ "on" a;have e:("on":Str).length=2:=rfl;unfold C6;have:(ma bn ns w).length*(110+1)<=84*111:=si _ d;lia
def Mf(q:Qga):IA q=RW.line bn ns (.bx q.1 q.2):=by
 apply lz;show(IA q).cps.toList=(Txt.mul " " ((0:Nat))++(("box")++" " ++ (q.1++" " ++ sI q.2))).cps.toList;have l1:("box ":Str).cps.toList=("box":Str).cps.toList++(" ":Str).cps.toList:=rfl;unfold IA;simp only[cM,l1,qj,eJ,List.replicate_zero,List.nil_append]
variable{n:Nat}
def FH{k x st:Str}(h:st=""):Txt.mul " " (n:Int)++(k++" " ++ x)=RW.line bn ns QwV:=by
 show _=Txt.mul " " n++Str.join " " (k::x::if st="" then [] else [st]);rw[ee h,gE,join_one]
def FI{k x st:Str}(h:st≠""):Txt.mul " " (n:Int)++(k++" " ++ x++" " ++ st)=RW.line bn ns QwV:=by
 show _=Txt.mul " " n++Str.join " " (k::x::if st="" then [] else [st]);rw[cq h,gE,gE,join_one];simp[i4]
theorem xu{w lit:Str}(h:lit=" " ++ w++" "):Txt.mul " " (n:Int)++lit++fU bn d=RW.line bn ns (.io n w d):=by
 show _=Txt.mul " " ((n+1:Nat))++Str.join " " (w::dW bn d);rw[h,<- Fo,Lz];cases hd:dW bn d with
 | nil=>exact absurd hd (Uo _ _)
 | cons a l=>
  rw[gE];simp[i4]
def Mg(h:w.tg=-1->w.md="new"):Txt.mul " " (n:Int)++" " ++ C6 bn ns w=RW.line bn ns (.wy n w):=by
 rw[Fo,Up bn ns h];rfl
def PT.IY(p:PT)(j:Nat):Ch:=p.c.br++(List.range j).flatMap p.mr
def O2(p:PT)(j:Nat):p.IY QaF=p.IY j++p.mr j:=by
 unfold PT.IY;rw[oP,q5,eJ];simp
def PT.ls(p:PT)(l:Ch):T:=.lst ((l.map λr=>D.str Qit).map T.sh)
def xA(p:PT)(l:Ch)(r:RW):T.lst ((l.map λr=>D.str Qit).map T.sh++[T.sh (.str Qit)])=p.ls (l++[r]):=by
 unfold PT.ls;rw[fb,fb];rfl
def PT.p(p:PT):D:=adN (p.c.bs.map j0) p.ns p.c.ks p.c.es p.c.ss (p.c.is.map .tup) (p.c.os.map .tup) (p.c.ws.map WY.d)
variable{p:PT}
def Tf(h:g7 p):(∀x∈p.bn,x.length<=21)/\∀x∈p.ns,x.length<=21:=#[λx a=>oY (h.b x a),λx a=>oY (h.n x a)]
def uE(nb:Int)(d:D):Bool:=if (aX d 0).toS="call" then false else decide ((aX d 0).toS="put")&&decide (nb<=(aX d 1).iZ) || decide (nb<=(aX Qbh 0).iZ)
def O4(nb nm:Int)(d:D):Bool:=if d.cnt=2 then decide (nm<=(aX d 1).iZ) else decide (nb<=max (aX QdT 0).iZ (aX Qbh 0).iZ)
def IZ(nb nm:Int)(w:WY):Bool:=decide (nm<=w.tg) || (w.qs.any (O4 nb nm) || w.ds.any (uE nb))
def NB(nb nm:Int):RW->Bool
 | .bx _ _=>false
 | .md _ _ _ _ z=>decide (nm<=z)
 | .io _ _ d=>uE nb d
 | .wy _ w=>IZ nb nm w
def PT.sg(p:PT):RW->Bool:=NB p.c.bs.length p.c.es.length
noncomputable def Vi:Nat->List Bool->Nat
 | _,[]=>0
 | k,true::_=>k+1
 | k,false::l=>Vi Qaf l
theorem Dq{α:Type}(q:Qb6):∀(l:QR) (k:Nat),Vi k (l.map q)=(match l.findIdx? q with|some i=>k+i+1|none=>0)
 | [],k=>rfl
 | a::l,k=>by
  rw[eM,List.findIdx?_cons];cases q a with
  | true=>rfl
  | false=>
   show Vi Qaf (l.map q)=_;rw[Dq q l];cases l.findIdx? q with
   | none=>rfl
   | some i=>
    show k+1+i+1=k+Qai+1;lia
theorem FJ{α:Type}:∀(l:QR) (k:Nat) (t:List Bool),Vi k (l.map (λ_=>false)++t)=Vi (k+l.length) t
 | [],_,_=>rfl
 | _::l,k,t=>by
  show Vi Qaf (l.map _++t)=_;rw[FJ l,hq,Nat.add_assoc,Nat.add_comm 1]
def iU{l:QR}{i:Nat}{d:α}(h:l[i]? = some d):l.drop i=d::l.drop Qai:=by
 obtain⟨a,rfl⟩:=hH.1 h;exact x7 a
def PT.row(p:PT):Nat:=Vi 0 (p.rows.map p.sg)
def O5(nb:Int)(n:Str):uE nb QhL=false:=ee rfl
def FL(nb k a c:Int):uE nb Qq9=(decide (nb<=k) || decide (nb<=a)):=rfl
def Vj(nb:Int)(n:Str)(a c:Int):uE nb Qra=decide (nb<=a):=rfl
theorem Vk{l:AT}{x:Str}(a:Qj8)(b:x∉l)(h0:0<=z)(h1:z<((l++[x]).length:Nat)):pk l ((l++[x]).getD z.toNat Str.empty)=!decide ((l.length:Int)<=z):=by
 have hn:=Fl (fO a h0 h1);unfold pk;rw[eP hn];by_cases h:l.length<=z
 .simp_all
 simp_all
theorem Bu{l:AT}{x:Str}(a:Qj8)(b:x∉l)(h:z=-1\/(0<=z/\z<((l++[x]).length:Nat))):pk l (rP QcV z)=!decide ((l.length:Int)<=z):=by
 obtain rfl|⟨h0,h1⟩:=h
 .rw[eP We];rfl
 .exact(uD a h0 h1).1▸Vk a b h0 h1
variable{l:AT}{x w:Str}
def IP(f:Qj8)(b:x∉l)(h:m5 (l++[x]).length d):(dK QcV d).ok l=!uE l.length d:=by
 obtain⟨n,rfl,_⟩|⟨k,t,rfl,i,a,c,rfl,g,j⟩|⟨n,t,rfl,hn,a,c,rfl,g,j⟩:=h
 .rfl
 .have e:dK _ Qq9=.put ((l++[x]).getD k.toNat _) (rP _ a) c:=(cq (show ¬ ("put":Str)="call" by decide +kernel)).trans rfl;rw[e,FL,Bool.not_or];show(pk l _&&pk l _)=_;rw[Vk f b i.1 i.2,Bu f b g]
 .have e:dK QcV Qra=.say n _ c:=(cq (show ¬ ("say":Str)="call" by decide +kernel)).trans rfl;exact Bu f b g
def Tc(g:Qj8)(f:x∉l)(hm:iz (m++[w]))(hw:w∉m)(h:ig (l++[x]).length (m++[w]).length d):(aK QcV (m++[w]) d).ok l m=!O4 l.length m.length d:=by
 obtain⟨u,k,rfl,_,k0,k1⟩|⟨u,s,t,rfl,_,⟨a,c,rfl,i,_⟩,⟨a2,c2,rfl,e,_⟩⟩:=h
 .exact Vk hm hw k0 k1
 .show(pk l (rP _ a)&&pk l (rP _ a2))=!decide (l.length<=max a a2);rw[Bu g f i,Bu g f e,<- Bool.not_or];by_cases h1:l.length<=a
  .rw[eC h1,eC (Int.le_trans h1 (Int.le_max_left ..))];rfl
  .by_cases b:l.length<=a2
   .rw[eC b,eC (Int.le_trans b (Int.le_max_right ..)),Bool.or_true]
   .rw[eP h1,eP b,eP (Int.not_le.2 (Int.max_lt.2 #[Int.not_le.1 h1,Int.not_le.1 b]))];rfl
theorem Dr{α β:Type}{f:Qg0}{p:β->Bool}{q:Qb6}:∀{l:QR},(∀a∈l,p (f a)=!q a)->(l.map f).all p=!l.any q
 | [],_=>rfl
 | a::l,h=>by
  rw[eM,k4,jq,h a eu,Dr λb hb=>h b (eE _ hb),Bool.not_or]
structure wu(p:PT):Prop where
 b:p.xb∉p.c.bn
 n:p.xn∉p.c.ns
theorem Zp(h:g7 p)(a:wu p)(m:r∈p.rows):(Zv p.bn p.ns r).ok p.c.bn p.c.ns=!p.sg r:=by
 have g:=Ma h r m;have bl:p.c.bn.length=p.c.bs.length:=ed ..;cases r with
 | bx n k=>rfl
 | md n k x st z=>
  show pk p.c.ns st=!decide _;have j:st=rP p.ns z/\(z=-1\/(0<=z/\z<(p.ns.length:Nat))):=by
   obtain⟨_,i,e⟩|⟨_,i,e⟩:=g.2.2.2
   .exact#[by rw[e];exact(cq We).symm,.inr i]
   .exact#[by rw[i];exact(ee e).symm,.inl e]
  rw[j.1,<- h.nl];exact Bu h.n a.n j.2
 | io n w d=>
  show(dK p.bn d).ok p.c.bn=!uE p.c.bs.length d;rw[<- bl];exact IP h.b a.b g.2.2
 | wy n w=>
  show((w.qs.map (aK p.bn p.ns)).all _&&((w.ds.map (dK p.bn)).all (vS.ok p.c.bn)&&pk p.c.ns (rP p.ns w.tg)))=!(decide _ || (w.qs.any _ || w.ds.any Qmq));have hw:=g.2;have l:=hw.t.imp (·.1) (·.1);rw[<- bl,<- h.nl,Dr (f:=aK p.bn p.ns) (λd hd=>Tc h.b a.b h.n a.n Qjp),Dr (f:=dK p.bn) (λd hd=>IP h.b a.b Qjq),Bool.not_or,Bool.not_or];rw[show pk p.c.ns (rP p.ns w.tg)=!decide _ from Bu h.n a.n l];cases (decide ((p.c.ns.length:Int)<=w.tg))<;>cases (w.qs.any _)<;>cases (w.ds.any (uE p.c.bn.length))<;>rfl
theorem Zl(h:g7 p)(f:wu p):p.kn=decide QjS/\(p.kn=false->oW p.oX=p.row):=by
 have ok:∀(i:Nat) (hi:i<p.rows.length),L0 p.oX (U8 p.bn p.ns ((i:Nat)+1:Int) (p.rows.getD i (.bx "" 0)))=!p.sg p.rows[i]:=λi hi=>by
  unfold L0;rw[sS h.sl,sU h.sl h.nl];have:p.rows.getD i (.bx "" 0)=p.rows[i]:=by rw[eD,ft hi];rfl
  show(Zv p.bn p.ns (p.rows.getD i (.bx "" 0))).ok _ _=_;rw[this];exact Zp h f (j1 _)
 have fl:p.oX.length=p.rows.length:=by
  show(uC _ _ _).length=_;rw[uC,ed,gi]
 have c:∀(i:Nat) (hi:i<p.rows.length),p.oX[i]'(fl▸hi)=U8 p.bn p.ns ((i:Nat)+1:Int) (p.rows.getD i (.bx "" 0)):=λi hi=>by
  show(uC p.bn p.ns p.rows)[i]'(by rw[uC,ed,gi];exact hi)=_;unfold uC;rw[List.getElem_map,List.getElem_range]
 unfold PT.row;rw[Dq];cases e:p.rows.findIdx? p.sg with
 | none=>
  have hn:=List.findIdx?_eq_none_iff.1 e;have kn:p.kn=true:=hM.2 λq g=>by
   obtain⟨i,hi,rfl⟩:=q8 g;have a:i<p.rows.length:=fl▸hi;rw[c i a,ok i a,hn _ (j1 a)];rfl
  exact#[kn,λz=>by rw[kn]at z;cases z]
 | some i=>
  obtain⟨hi,h1,k⟩:=List.findIdx?_eq_some_iff_getElem.1 e;have kn:p.kn=false:=pv.2 #[_,j1 (fl▸hi),by rw[c i hi,ok i hi,h1];decide];refine#[by rw[kn];exact(eP (rh _)).symm,λ_=>?_];have hf:p.oX.find? (λq=>!L0 p.oX q)=some (U8 p.bn p.ns ((i:Nat)+1:Int) (p.rows.getD i (.bx "" 0))):=by
   rw[List.find?_eq_some_iff_getElem];refine#[by rw[ok i hi,h1];rfl,i,fl▸hi,c i hi,λj d=>?_];have b:j<p.rows.length:=Nat.lt_trans d hi;rw[c j b,ok j b];have:=k j d
   revert this
   cases p.sg p.rows[j]<;>intro z<;>first|rfl|exact absurd rfl z
  unfold oW;rw[hf];show((i:Nat)+1:Int)=((0+i+1:Nat):Int);lia
theorem yV{α β:Type}{P:β->Prop}{f:β->α}:∀(l:QR),(∀a∈l,∃q,a=f q/\P q)->∃qs:List β,l=qs.map f/\∀q∈qs,P q
 | [],_=>by simp
 | a::l,h=>by
  obtain⟨q,e,g⟩:=h a eu;obtain⟨qs,e2,d⟩:=yV l λb hb=>h b (eE _ hb);refine#[q::qs,by rw[e,e2];rfl,λx c=>?_];obtain rfl|c:=eg.1 c
  .exact g
  simp_all
theorem IM(a:k.natAbs<10 ^ 30):WN k=true:=by
 unfold WN;grind
theorem Mh{a:Int}(c:a=-1\/(0<=a/\a<nb))(b:k.natAbs<10 ^ 30):OJ nb a k=true:=by
 unfold OJ zX;rw[IM b];simp_all
def FN(h:0<=k/\k<n):zX k n=true:=by
 unfold zX;rw[eC h.1,eC h.2];rfl
theorem IH(h:Qed):∃q:Hg,d=QO q/\mB q/\mC nb q=true:=by
 have sm:∀{x:Str},c9 x=true->x.length<=1000:=λh=>by
  have:=(fC h).2.1;lia
 obtain⟨n,rfl,hn⟩|⟨k,t,rfl,f,⟨a,c,rfl,e,b⟩⟩|⟨n,t,rfl,hn,⟨a,c,rfl,e,b⟩⟩:=h
 .exact#[.call n,rfl,sm hn,hn]
 .refine#[.put k a c,rfl,trivial,?_];show(zX k nb&&OJ nb a c)=true;rw[FN f,Mh e b];rfl
 .refine#[.say n a c,rfl,sm hn,?_];show(c9 n&&OJ nb a c)=true;rw[hn,Mh e b];rfl
theorem Tb(h:Qhb):∃q:l9,d=ot q/\YK q/\ue nm nb q=true:=by
 obtain⟨w,k,rfl,hw,e⟩|⟨w,s,t,rfl,hw,⟨a,c,rfl,g,f⟩,⟨a2,c2,rfl,b,i⟩⟩:=h
 .refine#[.ur w k,rfl,?_,FN e];show w∈(["open","shut"]:AT);simp_all
 .refine#[.num w a c a2 c2,rfl,?_,?_]
  .show ¬ w∈(["open","shut"]:AT);simp at hw;obtain rfl|rfl|rfl|rfl:=hw<;>decide +kernel
  .show(decide _&&(OJ nb a c&&OJ nb a2 c2))=true;rw[eC hw,Mh g f,Mh b i];rfl
theorem Ta{w:WY}(h:QT nb nm w)(a:0<=w.src/\w.src<nm):∃q:YL,w.d=YM q/\q.Ok nm nb/\q.src=w.src/\∀x∈q.dl,mB x/\mC nb x=true:=by
 obtain⟨al,f,b⟩:=yV _ λd hd=>Tb QoP;obtain⟨dl,c,hd⟩:=yV _ λd hd=>IH QoQ;refine#[#[ _,_,al,dl,w.tg,w.md],?_,#[FN a,#[by have:=(fC h.s).2.1;show w.sg.length<=1000;lia,h.s],?_,?_,b],rfl,hd]
 .show D.tup _=D.tup _;rw[f,c]
 .obtain⟨_,e⟩|⟨_,e⟩:=h.t
  .rw[e];simp
  .exact e
 .show(w.tg=-1/\w.md="new")\/(w.tg ≠ -1/\zX _ nm=true);obtain e|⟨e,_⟩:=h.t
  .exact .inl e
  .exact .inr #[We,FN e]
theorem Vl(l:D2)(h:∀x∈l,∀d∈x,m5 nb d):∃qs:List QeY,l.map D.tup=qs.map (λl=>D.tup QeM)/\qs.length=l.length/\∀x∈qs,∀q∈x,mB q/\mC nb q=true:=by
 obtain⟨qs,e,b⟩:=yV l λx a=>yV x λd hd=>IH (h x a d hd);refine#[qs,?_,?_,b]
 .rw[e,ej];rfl
 simp_all
def ZD{c:CH}(h:Dg c):D.bV c.zY=true:=iF λd hd=>by
 obtain⟨i,r,_,a,_,rfl⟩:=w9 (F:=λi r=>r.nf ((i:Nat)+1:Int)) hd;exact Zf QoR
def CH.lg(c:CH):BC:=c.zY.filter λd=>decide ((aX d 2).toS∈cH)
def xB{c:CH}(h:Dg c){g:Qcy}{g':RW->T}(b:∀i r,g (r.nf i)=g' r):T.lst ((c.lg.filter λ_=>true).map g)=.lst ((List.range c.es.length).map λm=>g' (c.md m)):=by
 rw[cP];have:=Dh (p:=λd=>decide ((aX d 2).toS∈cH)) _ (λi r=>r.nf Qai) (λi r a=>Di QoR) (λi r _ _=>b _ r);rw[UQ,ej]at this;exact congrArg _ this
theorem xC{c:CH}(h:Dg c)(hd:d∈c.lg):∃(i:Int) (n:Nat) (k x:Str) (z:Int),d=.tup [.int i,.int (n:Nat),.str k,.tup [.str x,.int z]]:=by
 obtain⟨h1,b⟩:=hY.1 hd;obtain⟨i,r,_,a,_,rfl⟩:=w9 h1;have z:=(Di QoR)▸b;cases r with
 | bx n k=>cases z
 | io n w d=>cases z
 | wy n w=>cases z
 | md n k x st y=>exact#[_,n,k,x,y,rfl]
theorem I0{f:Int->α}(l:BA):(List.range l.length).map (λm=>f (l.getD m 0))=l.map f:=by
 refine kb λi=>?_;simp;by_cases h:i<l.length
 .simp_all
 simp_all
def CH.tk(c:CH):Bool:=rG c.ks c.es&&qz c.ks c.es c.ss
def CH.lk(c:CH):Bool:=c.tk&&QvM
def PT.ex(p:PT):Ex:=if p.kn=false then("NoName",some [("row",.int Qo1)]) else(if p.rn.tk=false then "BadTree" else if k9 p.rn.ns=false then "BadName" else "BadBox",none)
def CH.t(c:CH):T:=.ins "Chart" Qpw
def Mi{c:CH}(h:Y0 c):c.t.clean=true:=by
 have i1:=qf h.ow.ii;have i2:=qf h.ow.oo;have i3:=C3 h.ow.ww;exact C5 (eN Qbv _) (gP _) (vv _ _ _) i1 i2 i3
def Fy{m:Nat}:um es m=[]↔(m:Int)∉es:=by
 unfold um;rw[q7,o9];constructor
 .intro h z;obtain⟨i,hi⟩:=List.getElem?_of_mem z;have a:=(hH.1 hi).1;exact h i (gh.2 a) (eC (by rw[eD,hi];rfl))
 .intro h i hi z;have hi:=gh.1 hi;have z:=er z;rw[eD,ft hi]at z;exact h (z▸j1 hi)
def PT.bd(p:PT)(m:Nat):Bool:=(!decide (decide QkQ=decide (um p.c.es m=[]))) || (decide QsE && !decide Qtq)
theorem Mj(h:g7 p)(a:QjS){m:Nat}(hm:QiU)(h1:QsE):0<=p.c.ss.getD m 0/\p.c.ss.getD m 0<p.c.ns.length:=by
 obtain⟨_,b,f⟩|⟨b,_⟩:=h.one m hm
 .refine#[b,?_];have d:∀r∈p.rows,p.sg r=false:=by
   unfold PT.row at a;rw[Dq]at a;cases e:p.rows.findIdx? p.sg with
   | none=>exact List.findIdx?_eq_none_iff.1 e
   | some i=>rw[e]at a;cases a
  have:=d _ (FG h hm _ eu);have:decide ((p.c.es.length:Int)<=p.c.ss.getD m 0)=false:=this;have:=eR this;rw[h.nl];lia
 .exact absurd h1 b
theorem IF(h:g7 p)(z0:0<=z)(b:z<p.c.ns.length):p.rz z=(p.c.ns.idxOf (p.ns.getD z.toNat Str.empty):Nat)/\p.ns.getD z.toNat Str.empty=p.c.ns.getD z.toNat Str.empty/\p.ns.getD z.toNat Str.empty∈p.c.ns:=by
 have a:=by
  show z<((p.c.ns++[p.xn]).length);simp;lia
 obtain⟨e,n⟩:=uD h.n z0 a;have e2:p.ns.getD z.toNat Str.empty=p.c.ns.getD z.toNat Str.empty:=by
  show(p.c.ns++[p.xn]).getD _ _=_;rw[eD,eD,km We]
 refine#[?_,e2,e2▸mX We];unfold PT.rz;rw[e]at n ⊢;exact cq n
theorem ID(h:g7 p)(d:QjS){m:Nat}(hm:QiU):p.bd m=!(WO p.c.ks p.c.es m&&Ip p.c.ks p.c.es p.rn.ss m):=by
 have g:decide (p.c.ks.getD m Str.empty∈yC)=true:=eC Qny;unfold PT.bd WO Ip;rw[g,kf,KO (h.sl▸hm)];have e1:decide (um p.c.es m=[])=!decide ((m:Int)∈p.c.es):=by
  by_cases z:(m:Int)∈p.c.es
  .rw[eC z,eP λy=>Fy.1 y z];rfl
  .rw[eP z,eC (Fy.2 z)];rfl
 rw[e1];by_cases h1:p.c.ks.getD m Str.empty="one"
 .obtain⟨s0,s1⟩:=Mj h d hm h1;obtain⟨e,_,b⟩:=IF h s0 s1;have i:=x4 b;have f:zX (p.rz Qb8) p.c.es.length=true:=FN #[We,by have:=h.nl;lia];rw[ee h1,f,kf,eC h1,kf];have e2:decide Qtq=decide Qq1:=by
   refine oC.2 #[λz=>(Le z).2.2,λz=>?_];unfold um;refine ef.2 #[(p.rz Qb8).toNat,hY.2 #[gh.2 (by have:=h.nl;lia),eC z],We]
  rw[e2];cases decide QkQ<;>cases decide ((m:Int)∈p.c.es)<;>cases decide Qq1<;>decide
 .have a:p.c.ss.getD m 0=-1:=by
   obtain⟨a,_⟩|⟨_,a⟩:=h.one m hm
   .exact absurd a h1
   .exact a
  rw[cq h1,a,yB,eC rfl,Bool.and_true,eP h1,mT,Bool.or_false];cases decide QkQ<;>cases decide ((m:Int)∈p.c.es)<;>decide
theorem Ze(h:g7 p)(b:QjS):p.rn.tk=!(List.range p.c.es.length).any p.bd:=by
 have e1:p.rn.ks.length=p.c.es.length:=h.kl;have e2:p.rn.ss.length=p.c.es.length:=(ed ..).trans h.sl;unfold CH.tk rG qz;rw[e1,e2];cases e:(List.range _).any _ with
 | false=>
  have hb:=u6.1 e;have:∀m∈List.range _,WO p.c.ks p.c.es m=true/\Ip p.c.ks p.c.es p.rn.ss m=true:=λm hm=>by
   have:=hb m hm;rw[ID h b QoA]at this;simp_all
  rw[show(List.range _).all (WO p.rn.ks p.rn.es)=true from hM.2 λm hm=>(this m hm).1,show(List.range _).all (Ip p.rn.ks p.rn.es _)=true from hM.2 λm hm=>(this m hm).2];rfl
 | true=>
  obtain⟨m,hm,hb⟩:=rf.1 e;rw[ID h b QoA]at hb;cases a:WO p.c.ks p.c.es m with
  | false=>rw[pv.2 #[m,hm,by rw[show WO p.rn.ks p.rn.es m=false from a];decide]];rfl
  | true=>
   have hb:Ip p.c.ks p.c.es p.rn.ss m=false:=by simp_all
   rw[show(List.range _).all (Ip _ _ _)=false from pv.2 #[m,hm,by rw[show Ip p.rn.ks p.rn.es _ m=false from hb];decide],h7];rfl
seal L3.cJ L3.QG L3.bG L3.bT L3.kX L3.B7 L3.DZ
def ql:Sq (BA×Int):=#["_law_cell_at",1,2,top 86,["script","k"],λ(ns,j)=>([.lst (ns.map .int),.int j],(0<=j),(.sh (.int (bU ns j)):T))]
def xD:Sq (BA×Int):=#["_law_chain",1,2,top 87,["elders","mood","found","at"],λ(es,m)=>([.lst QbW,.int m],Qkw,(.lst (((cW es m).map .int).map T.sh):T))]
def jg:Sq (CU):=#["_law_elders_by",2,1,top 91,["items","elders","item","last","roads"],λl=>([.lst Qnz],(l.length<=100),(.lst (((TN l).map .int).map T.sh):T))]
def jP:Sq (Int×AT):=#["_law_name_by",1,2,top 88,["number","used","letters","words","more","name","rest"],λ(m,us)=>([.int m,.lst (us.map .str)],(0<=m/\m<100000000000000000000/\us.length<=100),(.sh (.str Qpg):T))]
def kg:Sq (BA×Nat):=#["_law_names_by",2,2,top 89,["script","many","base","step","found","k"],λ(s,n)=>([.lst QnZ,.int n],(n<=100),(.lst (((Iq s n).map .str).map T.sh):T))]
def kh:Sq (BA×BA):=#["_law_kinds_by",1,2,top 96,["elders","cells","kinds","starts","mood","near","start"],λ(es,cs)=>([.lst QbW,.lst (cs.map .int)],(es.length<=100/\cs.length=es.length),(.lst [.lst (((gj es cs es.length).map .str).map T.sh),.lst (((gk es cs es.length).map .int).map T.sh)]:T))]
def jh:Sq (Int):=#["_law_number_by",1,1,top 90,["cell","size"],λc=>([.int c],(True),(.sh QnL:T))]
def iV:Sq (Int×Int×Nat×AT):=#["_law_deed_by",2,3,top 92,["item","boxes","names","pick","name","term"],λ(a,c,n,ns)=>([.tup [.int a,.int c],.int n,.lst Qdt],QrT,(.sh (nO a c n ns):T))]
def oZ:Sq (Int×Int×Int×Nat×AT):=#["_law_way_by",1,4,top 93,["item","source","many","names","target","mode"],λ(a,c,src,n,ns)=>([.tup [.int a,.int c],.int src,.int n,.lst Qdt],QrT,(.sh (y2 a c src n ns):T))]
def pe:Sq (Int×Int×Nat×Nat):=#["_law_ask_by",2,3,top 94,["item","boxes","many","pick","one","other"],λ(a,c,n,m)=>([.tup [.int a,.int c],.int n,.int m],(n<=1000/\0<m/\m<=1000),(.sh (OS a c n m):T))]
def lW:Sq (CU×Nat×Nat×AT):=#["_law_owns_by",3,4,top 95,["items","boxes","many","names","ins","outs","ways","item","kind","mood","way"],λ(l,nb,nm,ns)=>([.lst Qnz,.int nb,.int nm,.lst Qdt],(l.length<=100/\nb<=1000/\(0<nm/\nm<=1000)/\(0<ns.length/\ns.length<=1000)/\OU ns),(.lst [D5 (YY nb nm ns l).is,D5 (YY nb nm ns l).os,T6 (YY nb nm ns l).ws]:T))]
noncomputable def mu(s:BA):Int:=if 82<(s.length:Int) then 82 else s.length
theorem Vm(s:BA):0<=mu s/\mu s<=82/\mu s<=s.length:=by
 unfold mu;split<;>lia
def yA(s:BA)(k:Int):Int×Int:=(s.getD k.toNat 0,bU s Qaf)
def jy(s:BA):CU:=(List.range (nQ 2 (mu s))).map λ(i:Nat)=>yA s (2+(i:Int)*2)
theorem yW(s:BA):(jy s).length<=40:=by
 have:=Vm s;unfold jy nQ;rw[ed,gi];lia
def WV(s:BA):Int:=bU s 1 / 5
def b7(s:BA):BA:=TN (jy s)
def m7(s:BA):AT:=Iq s ((b7 s).length+4)
def xt(s:BA)(ns:AT)(k:Int):Str×Int:=(ns.getD k.toNat Str.empty,CY (bU s (3+2*k)))
def eZ(s:BA):Cf:=(List.range (WV s % 4).toNat).map λ(k:Nat)=>xt s (m7 s) (0+(k:Int))
def FQ(s:BA):BA:=[WV s / 4]++ux (jy s)
def xE(s:BA)(w:Nat):OW:=YY ((eZ s).length+w) ((b7 s).length+w) (m7 s) (jy s)
def og(s:BA):AT:=(m7 s).take ((b7 s).length+1)
theorem lX(s:BA):0<(b7 s).length/\(b7 s).length<=41/\(FQ s).length=(b7 s).length:=by
 have a:=(Lk (jy s)).2;have c:=qb (jy s);have d:=yW s;have e:=rH (jy s);unfold b7 FQ;simp;lia
def pA(s:BA):(m7 s).length=(b7 s).length+4:=lU _ _ _
def Ml(s:BA):∀x∈m7 s,x.length<=21/\PyData.strOk x=true:=Lj _ _ _
theorem ZE(s:BA):(og s).length=(b7 s).length+1:=by
 have:=pA s;unfold og;rw[hO];lia
theorem pB(s:BA):(eZ s).length<=3:=by
 unfold eZ;simp;lia
noncomputable def Vo(s:BA):OU (m7 s):=#[λx a=>(Ml s x a).1,λx a=>(Ml s x a).2]
theorem Vp(s:BA)(w:Nat):CZ ((eZ s).length+w) ((b7 s).length+w) 40 (xE s w):=by
 have a:=Ir (nb:=(eZ s).length+w) (Vo s) (hW (lX s).1 (Nat.le_add_right _ w)) (jy s) 0 TR (T3 _ _);have c:=yW s;simp at a;have up:∀(n k:Nat) (o:OW),CZ ((eZ s).length+w) ((b7 s).length+w) k o->CZ ((eZ s).length+w) ((b7 s).length+w) (k+n) o:=by
  intro n
  induction n with
  | zero=>
   intro k o h;exact h
  | succ n d=>
   intro k o h;obtain⟨n0,n1,n2,ii,oo,wl,ww⟩:=d k o h;exact#[n0,hU n1,n2,λl b=>(ii l b).up,λl b=>(oo l b).up,hU wl,λw hw=>(ww w hw).up WA ]
 have:=up QuB _ _ a
 rwa [show(jy s).length+QuB=40 by lia]at this
def Ds(bs:Cf)(ns ks:AT)(es ss:BA)(is os ws:BC):T:=.lst [.lst ((bs.map j0).map T.sh),.lst ((ns.map .str).map T.sh),.lst ((ks.map .str).map T.sh),.sh QnK,.lst ((ss.map .int).map T.sh),.sh (.lst is),.sh (.lst os),.sh (.lst ws)]
def Vq(l:QR)(n:Nat):cutD l none QxA=l.take n:=by
 show(l.drop 0).take (min n _-0)=_;rw[List.drop_zero,Nat.sub_zero,<- List.take_eq_take_min]
def ki:Sq (BA×Nat):=#["_law_parts_by",4,2,top 97,["script","wide","head","items","elders","names","boxes","shapes","owns"],λ(s,w)=>([.lst QnZ,.int w],(s.length<=1000/\w<=1),(Ds (eZ s) (og s) (gj (b7 s) (FQ s) (b7 s).length) (b7 s) (gk (b7 s) (FQ s) (b7 s).length) ((xE s w).is.map .tup) ((xE s w).os.map .tup) ((xE s w).ws.map WY.d):T))]
structure FP where
 bs:Cf
 ns:AT
 ks:AT
 es:BA
 ss:BA
 is:BC
 os:BC
 ws:BC
def FP.t(p:FP):T:=Ds p.bs p.ns p.ks p.es p.ss p.is p.os p.ws
def toF(p:FP)(c:Int):Int:=1+c % ((p.ks.length:Int)-1)
def FP.f1(p:FP)(z c:Int):FP:={p with ns:=if z % 2=1/\1<p.ks.length then p.ns.set (toF p c).toNat (p.ns.getD (c / (p.ks.length:Int) % toF p c).toNat Str.empty) else p.ns}
def FP.f2(p:FP)(z:Int):FP:={p with bs:=if z / 2 % 2=1/\1<p.bs.length then p.bs.set QfJ ((p.bs.getD 0 (Str.empty,0)).1,(p.bs.getD QfJ (Str.empty,0)).2) else p.bs}
def FP.f3(p:FP)(z c:Int):FP:={p with ss:=if z / 4 % 2=1 then p.ss.set (c % (p.ks.length:Int)).toNat (-1) else p.ss,ks:=if z / 4 % 2=1 then p.ks.set (c % (p.ks.length:Int)).toNat (if p.ks.getD (c % (p.ks.length:Int)).toNat Str.empty="leaf" then "all" else "leaf") else p.ks}
def FP.uj(p:FP)(m:Nat):Bool:=decide (p.ks.getD m Str.empty="one") && !decide (p.ss.getD m 0=-1)
def FP.one(p:FP)(z:Int):Option Nat:=if z / 8 % 2=1 then(List.range p.ks.length).find? p.uj else none
def FP.f4(p:FP)(z c:Int):FP:={p with ss:=match p.one z with|some m=>p.ss.set m (c / 3 % ((p.ks.length:Int)+z / 16 % 2))|none=>p.ss}
def FP.fx(p:FP)(z c:Int):FP:=(((p.f1 z c).f2 z).f3 z c).f4 z c
theorem dS{l:QR}{i:Nat}{v d:α}(h:Qj7):(l.set i v).getD i d=v:=by
 rw[eD,pf h];rfl
def yX{l:QR}{i m:Nat}{v d:α}(h:i≠m):(l.set i v).getD m d=l.getD m d:=by
 rw[eD,eD,so h]
structure FT(x:Str)(n:Nat)(p:FP):Prop where
 kl:p.ks.length=n
 sl:p.ss.length=n
 nl:p.ns.length=n+1
 nm:iz p.ns
 new:p.ns.getD n Str.empty∉p.ns.take n
 b3:p.bs.length<=3
 bn:∀q∈p.bs,c9 q.1=true/\q.1≠x
 bk:∀q∈p.bs,q.2.natAbs<10 ^ 30
 kd:∀m:Nat,m<n->p.ks.getD m Str.empty∈(["leaf","one","all"]:AT)
 one:∀m:Nat,m<n->(p.ks.getD m Str.empty="one" /\ 0<=p.ss.getD m 0/\p.ss.getD m 0<(n:Int)+1)\/(p.ks.getD m Str.empty≠"one" /\ p.ss.getD m 0=-1)
def Iy{l:QR}{i:Nat}{d:α}(h:Qj7):l.getD i d∈l:=by
 rw[eD,ft h];exact j1 _
variable{p:FP}{c:Int}
theorem g1(h:Qhf):FT x n (p.f1 z c):=by
 unfold FP.f1;split
 .rename_i d;obtain⟨_,d⟩:=d;rw[h.kl]at d;have i:=gL c (b:=n-1) We;have b1:=hz c (b:=n-1) We;have t0:1<=toF p c/\toF p c<n:=by unfold toF;rw[h.kl];lia
  rw[h.kl];have c1:=hz (c / n) (b:=toF p c) We;obtain⟨t,g⟩:∃t,t=(toF p c).toNat:=#[_,rfl];obtain⟨u,e⟩:∃u,u=(c / n % toF p c).toNat:=#[_,rfl];rw[<- e];have f:=h.nl;have hv:p.ns.getD u Str.empty∈p.ns.take n:=by
   rw[eD,ft We];exact x5.2 #[u,We,rfl]
  refine#[h.kl,h.sl,(ij ..).trans f,λy a=>?_,?_,h.b3,h.bn,h.bk,h.kd,h.one]
  .obtain a|rfl:=kj a
   .exact h.nm y a
   .exact h.nm _ (lL hv)
  .rw[yX We,List.take_set];intro y;obtain y|y:=kj y
   .exact h.new y
   .exact h.new (y▸hv)
 .exact h
theorem g2(h:Qhf):FT x n (p.f2 z):=by
 unfold FP.f2;split
 .rename_i c;obtain⟨_,c⟩:=c;have m0:p.bs.getD 0 (Str.empty,0)∈p.bs:=Iy We;have m1:p.bs.getD QfJ (Str.empty,0)∈p.bs:=Iy We;refine#[h.kl,h.sl,h.nl,h.nm,h.new,by rw[ij];exact h.b3,λq b=>?_,λq b=>?_,h.kd,h.one]
  .have a:=h.bn _ m0;obtain b|rfl:=kj b
   .exact h.bn q b
   .exact a
  .have a:=h.bk _ m1;obtain b|rfl:=kj b
   .exact h.bk q b
   .exact a
 .exact h
theorem g3(h:Qhf)(n0:0<n):FT x n (p.f3 z c):=by
 unfold FP.f3;split
 .rw[h.kl];have a1:=hz c (b:=n) We;obtain⟨i,hi⟩:∃i,i=(c % n).toNat:=#[_,rfl];have a:i<n:=by lia
  rw[<- hi];obtain⟨v,hv⟩:∃v:Str,v=(if p.ks.getD i Str.empty=("leaf") then("all":Str) else("leaf")):=#[_,rfl];have d:v∈(["leaf","one","all"]:AT)/\v≠"one":=by
   rw[hv];split<;>decide +kernel
  rw[<- hv];refine#[(ij ..).trans h.kl,(ij ..).trans h.sl,h.nl,h.nm,h.new,h.b3,h.bn,h.bk,λm hm=>?_,λm hm=>?_]
  .by_cases e:i=m
   .rw[<- e,dS (h.kl▸a)];exact d.1
   .rw[yX e];exact h.kd m hm
  .by_cases e:i=m
   .rw[<- e,dS (h.kl▸a),dS (h.sl▸a)];exact .inr #[d.2,rfl]
   .rw[yX e,yX e];exact h.one m hm
 .exact h
theorem g4(h:Qhf)(n0:0<n)(z0:0<=z):FT x n (p.f4 z c):=by
 unfold FP.f4;split
 .rename_i m hm;have hm:=by
   unfold FP.one at hm;split at hm
   .exact hm
   .cases hm
  obtain⟨h1,a,_⟩:=rF.1 hm;have a:=gh.1 a;rw[h.kl]at a ⊢;have d:=by
   unfold FP.uj at h1;rw[gm]at h1;exact er h1.1
  have g:0<n+z / 16 % 2:=by lia
  have v0:=gL Qgx (b:=n+z / 16 % 2) We;have v1:=hz Qgx g;refine#[h.kl,(ij ..).trans h.sl,h.nl,h.nm,h.new,h.b3,h.bn,h.bk,h.kd,λj f=>?_];by_cases e:m=j
  .rw[<- e,dS (h.sl▸a)];exact .inl #[d,v0,We]
  .rw[yX e];exact h.one j f
 .exact h
def gx(h:Qhf)(n0:0<n)(z0:0<=z):FT x n (p.fx z c):=g4 (g3 (g2 (g1 h)) n0) n0 z0
theorem xF{i:Nat}(h:i<n):DX n (i:Int)=some i:=by
 unfold DX;rw[ee We,ee We,hI]
def lY{f:QbD}{l:QR}{i:Nat}{v:α}:((l.map f).map T.sh).set i (T.sh (f v))=((l.set i v).map f).map T.sh:=by rw[ke,ke]
def lZ{f:QbD}{l:QR}:((l.map f).map T.sh).length=l.length:=by rw[ed,ed]
abbrev pC:=top 107
abbrev sV:=Addr×FP×Int×Int×Str
noncomputable abbrev yZ:AT:=["parts","bits","cell","many","at","to","mood"]
def m8:sV->B2:=λ(y,p,z,c,x)=>[.pin y p.t,.sh Qcn,.sh (.int c)]
def m9:sV->B2:=λ(y,p,z,c,x)=>[.pin y (p.fx z c).t,.sh Qcn,.sh (.int c)]
def ng:sV->Prop:=λ(y,p,z,c,x)=>FT x p.ks.length p/\0<p.ks.length/\p.ks.length<=41/\0<=z/\z<64
def nh:sV->T:=λ(y,p,z,c,x)=>(.sh (.bl ((((p.f1 z c).f2 z).f3 z c).one z).isSome):T)
def gu:Sq (AT×D):=#["_law_term_text",1,2,top 98,["boxes","term","name"],λ(bn,d)=>([.lst QfS,d],((∀x∈bn,x.length<=21)/\dz bn.length d),(.sh (.str (eY bn d)):T))]
def fE:Sq (AT×D):=#["_law_deed_text",2,2,top 99,["boxes","deed","name"],λ(bn,d)=>([.lst QfS,d],((∀x∈bn,x.length<=21)/\j3 bn.length d),(.sh (.str (fU bn d)):T))]
def iW:Sq (AT×AT×D):=#["_law_ask_text",2,3,top 100,["boxes","names","ask"],λ(bn,ns,d)=>([.lst QfS,.lst Qdt,d],((∀x∈bn,x.length<=21)/\(∀x∈ns,x.length<=21)/\ig bn.length ns.length d),(.sh (.str (kG bn ns d)):T))]
def iX:Sq (AT×AT×WY):=#["_law_way_text",3,3,top 101,["boxes","names","way","row","joint","ask","deed"],λ(bn,ns,w)=>([.lst QfS,.lst Qdt,w.d],((∀x∈bn,x.length<=21)/\(∀x∈ns,x.length<=21)/\QT bn.length ns.length w),(.sh (.str (C6 bn ns w)):T))]
def y9:Sq (PT):=#["_law_rows",4,2,top 102,["parts","boxes","names","rows","mood","blanks","row","deed","way"],λp=>([p.p,.lst (p.bn.map .str)],(g7 p),(p.ls p.rows:T))]
def gw:Sq (D×Nat×Nat):=#["_law_strange_deed",1,2,top 103,["deed","boxes"],λ(d,n,m)=>([d,.int n],(m5 m d),(.sh (.bl (uE n d)):T))]
variable{X:Cx}{CL:BM}
noncomputable def Y2{b:Bx}{δ δ1 δ2:Ap}{e1 e2:Expr}{pos:Pos}{j:Int}(h1:QaY)(a:Qa5):bG X CL b Qk6 δ (.sh (.bl Qns)) δ2:=(lO h1 a).2
def gR:Sq (WY×Nat×Nat×Nat×Nat):=#["_law_strange_way",2,3,top 104,["way","boxes","many","ask"],λ(w,n,k,nb,nm)=>([w.d,.int n,.int k],(QT nb nm w),(.sh QwW:T))]
def PT.mb(p:PT)(m:Nat):List Bool:=decide ((p.c.es.length:Int)<=p.c.ss.getD m 0)::((p.c.is.getD m []).map Qmq++(p.c.os.getD m []).map Qmq++(p.c.ws.filter λw=>decide QbH).map (IZ p.c.bs.length p.c.es.length))
def Y1(p:PT):Vi p.c.bs.length ((List.range p.c.es.length).flatMap p.mb)=p.row:=by
 have e:(λm=>(p.mr m).map p.sg)=p.mb:=funext λm=>by
  unfold PT.mr PT.mb;simp only[eM,fb,ej];rfl
 unfold PT.row PT.rows;rw[fb,List.map_flatMap,e,show p.c.br.map _=p.c.bs.map λ_=>false from ej,FJ,Nat.zero_add]
def gS:Sq (PT):=#["_law_strange_row",3,1,top 105,["parts","boxes","many","row","mood","deed","way"],λp=>([p.p],(g7 p),(.sh (.int (p.row:Nat)):T))]
def ko:Sq (PT):=#["_law_bad_tree",1,1,top 106,["parts","mood","near"],λp=>([p.p],(g7 p/\p.row=0),(.sh (.bl (!p.rn.tk)):T))]
def PT.q2(p:PT):BA:=if 0<p.row then [1,p.row] else if p.rn.tk=false then [2,0] else if ¬ p.c.ns.Nodup then [3,0] else if ¬ p.c.bn.Nodup then [4,0] else [9,0]
def Ja(l:QR)(n:Nat):cutD l none QxA=l.take n:=by
 show(l.drop 0).take (min n _-0)=_;rw[List.drop_zero,Nat.sub_zero,<- List.take_eq_take_min]
theorem Mm(l:AT):decide ((cD l l.length:Int)<(l.length:Int))=!decide l.Nodup:=by
 have h:=EW l l.length;by_cases z:l.Nodup
 .have:=Ie.2 z;simp_all
 .have:¬ cD l _=l.length:=λq=>z (Ie.1 q);lia
def FU:Sq (PT):=#["_law_due",4,1,top 109,["parts","row","many"],λp=>([p.p],(g7 p),(.lst ((p.q2.map .int).map T.sh):T))]
def sW:Sq AT:=#["places",1,1,top 70,["names","found","place","name"],λl=>([.lst Qci],(l.length<=1000),(.iY (Dj l):T))]
def g8:QN (AT×Str×Int):=#["place_of",3,3,top 76,["name","given","row"],λ(l,x,r)=>([.str x,.iY (Dj l),.int r],(True),(pk l x),(.sh (.int (pz l x)):T),("NoName",some [("row",.int r)]))]
def dB:QN (AT×Str×Int×Int):=#["numbered_term",4,3,top 75,["term","boxes","row"],λ(l,n,k,r)=>([WT n k,.iY (Dj l),.int r],(True),(pk l n),(.sh (oa l n k):T),("NoName",some [("row",.int r)]))]
def dD:QN (AT×vS×Int):=#["numbered_deed",5,3,top 74,["deed","boxes","row"],λ(l,q,r)=>([q.d,.iY (Dj l),.int r],(True),(q.ok l),(.sh (q.n l):T),("NoName",some [("row",.int r)]))]
def dY:QN (AT×AT×vU×Int):=#["numbered_ask",5,4,top 73,["ask","boxes","moods","row"],λ(bs,ms,q,r)=>([q.d,.iY (Dj bs),.iY (Dj ms),.int r],(q.Ok),(q.ok bs ms),(.sh (q.n bs ms):T),("NoName",some [("row",.int r)]))]
def dZ:QN (AT×AT×Hj×Int):=#["numbered_way",6,4,top 72,["content","boxes","moods","row","asks","deeds"],λ(bs,ms,w,r)=>([w.d,.iY (Dj bs),.iY (Dj ms),.int r],(w.Ok),(w.ok bs ms),(.sh (w.n bs ms):T),("NoName",some [("row",.int r)]))]
def eF:QN (AT×AT×kH):=#["numbered_form",7,3,top 71,["form","boxes","moods","row","word","content"],λ(bs,ms,q)=>([q.d,.iY (Dj bs),.iY (Dj ms)],(q.c.Ok),(q.c.ok bs ms),(.sh (q.n bs ms):T),("NoName",some [("row",.int q.r)]))]
def g9:QN Qrf:=#["numbered",8,1,top 69,["forms","boxes","moods"],λfs=>([.lst (fs.map kH.d)],(Ll fs),(fs.all (L0 fs)),(.lst ((fs.map (kH.n (Zm fs) (Zn fs))).map T.sh):T),("NoName",some [("row",.int (oW fs))]))]
def mh:Sq (Str):=#["is_name",1,1,top 12,["text","sign"],λx=>([.str x],Qne,(.sh (.bl (c9 x)):T))]
def mj:Sq Qga:=#["name_of",3,2,top 58,["text","row"],λ(x,r)=>([.str x,.int r],Qqp,(.sh QaL:T))]
def gT:Sq (Str):=#["are_figures",1,1,top 61,["text","sign"],λx=>([.str x],Qne,(.sh (.bl (sL x)):T))]
theorem sX(x:Str):Txt.startswith x "-" = decide (x.cps.toList.head? = some 45):=by
 unfold Txt.startswith;obtain⟨⟨l⟩⟩:=x;have e1:("-":Str)=#[(List.toArray [45])]:=rfl;rw[e1];unfold Builtin.Str.subAt;cases l with
 | nil=>rfl
 | cons c l=>
  by_cases h:c=45
  .subst h;simp[Str.length]
  .simp[Str.length,h]
theorem Sf(n:Nat):Builtin.Str.strSliceIndices QdP none 1 Qaw=(List.range n).map (· + 1):=by
 unfold Builtin.Str.strSliceIndices sliceRange;have e:max 0 (min 1 ((n+1:Nat):Int))=1:=by lia
 simp only[show ¬ (1:Int)<0 by decide,if_false,show(1:Int) > 0 by decide,if_true,e];have e2:(if 1<((n+1:Nat):Int) then(((n+1:Nat):Int)-1+1-1) / 1 else 0).toNat=n:=by
  split<;>lia
 rw[e2];refine hZ λk _=>?_;lia
theorem ZF(l:CO):∀r:CO,((List.range l.length).map (· + r.length)).filterMap (λi=>(r++l).toArray[i]?)=l:=by
 induction l with
 | nil=>intro r;rfl
 | cons c l a=>
  intro r;rw[hq,List.range_succ_eq_map,eM,kR];have e:(r++c::l).toArray[0+r.length]? = some c:=by simp
  rw[e];have:=a (r++[c]);rw[fg,eJ]at this;show c::_=_;congr 1;rw[ej];refine Eq.trans ?_ this;congr 1;refine hZ λk _=>?_;show k+1+r.length=k+Qob;lia
def O6{c:Nat}{l:CO}(a:x.cps.toList=c::l):Txt.slice x QdP none=#[(x.cps.toList.drop 1).toArray]:=by
 obtain⟨⟨m⟩⟩:=x;subst a;unfold Txt.slice;have b:(#[#[c::l]]:Str).length=l.length+1:=rfl;rw[b,Sf,cq WA];have:=ZF l [c];exact congrArg (λz=>(#[ _ ]:Str)) this
def gy:Sq (Str):=#["is_number",2,1,top 60,["text","figures"],λx=>([.str x],Qne,(.sh (.bl (Bj x)):T))]
def ji:Sq Qqf:=#["number_of",3,2,top 59,["text","row"],λ(k,r)=>([.str (sI k),.int r],(k.natAbs<10 ^ 30),(.sh QdD:T))]
def mq:Sq (LT×Int):=#["term_of",4,2,top 62,["text","row","mark","parts","name","more"],λ(p,r)=>([.str p.tt,.int r],(C8 p),(.sh (.tup [.str p.tn,.int p.c]):T))]
def jQ:Sq (AT×D×Int):=#["deed_of",5,2,top 63,["words","row"],λ(bn,d,r)=>([.lst ((dW bn d).map .str),.int r],(iz bn/\m5 bn.length d),(.sh (dC bn d):T))]
def lT(p:AT):T:=.lst ((p.map D.str).map T.sh)
def lD(p:AT):D:=.lst (p.map .str)
def ZG(l:EM):T.ez QvN=.lst (l.map lD):=by
 rw[T.ez];congr 1
 induction l with
 | nil=>rfl
 | cons p l a=>
  rw[eM,T.fK];congr 1;exact bF _
def O7(l:EM):T.clean QvN=true:=by
 rw[iS]
 induction l with
 | nil=>rfl
 | cons p l a=>
  rw[eM,T.cG,a];have:(lT p).clean=true:=jY _;rw[this];rfl
def kr:Sq EM:=#["parts_of",1,1,top 66,["words","parts","word"],λps=>([.lst (ps.flatten.map .str)],((∀p∈ps,zv p)/\ps.flatten.length<=1000),(.lst (ps.map lT):T))]
def jR:Sq (AT×WY×AT×Int):=#["goal_of",4,2,top 67,["part","row"],λ(ns,w,p,r)=>([.lst (p.map .str),.int r],(iz ns/\((w.tg=-1/\w.md="new" /\ ∃x l,p=x::l/\x≠"to")\/(Qlv/\w.md∈(["new","near","far"]:AT)/\p=("to":Str)::ns.getD w.tg.toNat Str.empty::D6 w))),(.sh (.tup [.str (tx ns w),.str w.md]):T))]
def pD:Sq (AT×AT×D×Int):=#["ask_of",5,2,top 64,["words","row"],λ(bn,ns,d,r)=>([.lst ((aW bn ns d).map .str),.int r],(iz bn/\iz ns/\ig bn.length ns.length d),(.sh (aC bn ns d):T))]
def yn(x:D)(l:BC):cutD Qgz QdP none=l:=by simp[cutD,HT.iO]
def ZH:D->AT
 | .lst ds=>ds.map D.toS
 | _=>[]
def Jb(p:AT):ZH (lD p)=p:=by
 show(p.map D.str).map D.toS=p;rw[ej];exact List.map_id' p
open Classical in
def Aj(W:D->AT)(C:D->D)(qs:BC)(d:D):D:=if h:∃q,q∈qs/\(ZH d).tail=W q then C (Classical.choose h) else .non
def Jc{W:D->AT}{C:D->D}{qs:BC}{q:D}(a:q∈qs):∃q',q'∈qs/\W q'=W q/\Aj W C qs (lD (f::W q))=C q':=by
 have h:∃q',q'∈qs/\(ZH (lD (f::W q))).tail=W q':=#[q,a,by rw[Jb];rfl];refine#[ _,(Classical.choose_spec h).1,?_,dif_pos h];exact(Classical.choose_spec h).2.symm.trans (congrArg _ (Jb _))
def Mp{W:D->AT}{C:D->D}{qs:BC}(hi:∀q∈qs,∀q'∈qs,W q'=W q->C q'=C q)(f g:Str):((lk f g (qs.map W)).map lD).map (Aj W C qs)=qs.map C:=by
 have one:∀(f:Str) (q:D),q∈qs->Aj W C qs _=C q:=λf q a=>by
  obtain⟨q',h1,d,c⟩:=Jc (f:=f) a;rw[c,hi q a q' h1 d]
 cases qs with
 | nil=>rfl
 | cons q r=>
  show Aj W C _ _::(((r.map W).map _).map lD).map _=C q::r.map C;rw[one f q eu,ej,ej,ej];congr 1;exact hZ λp b=>one g p Qbw
def HU{W:D->AT}{qs:BC}{p:AT}(h:p∈lk f g (qs.map W)):∃x q,q∈qs/\p=x::W q:=by
 obtain⟨x,b,e⟩:=oS h;obtain⟨q,a,rfl⟩:=ef.1 b;obtain e|e:=e
 .exact#[_,q,a,e]
 .exact#[_,q,a,e]
theorem ZI{w:WY}(hb:iz bn)(hn:iz ns)(h:Qh4):(w.tg=-1/\w.md="new" /\ ∃x l,(wP bn ns w).getD ((wP bn ns w).length-1) []=x::l/\x≠"to")\/(Qlv/\w.md∈(["new","near","far"]:AT)/\(wP bn ns w).getD ((wP bn ns w).length-1) []=("to":Str)::ns.getD w.tg.toNat Str.empty::D6 w):=by
 obtain⟨h1,b⟩|⟨h1,b⟩:=h.t
 .refine .inl #[h1,b,?_];have a:=jH (l:=wP bn ns w) [] QiG;obtain⟨f,l,e,hf,_⟩:=UA hb hn h _ a;refine#[f,l,e,λz=>?_];subst z;rw[e]at a;have c:Hi ns w=[]:=ee h1;unfold wP at a;rw[c,f6]at a;obtain z|a:=eg.1 a
  .exact absurd (hE z).1 Wl
  obtain a|a:=eB.1 a
  .obtain⟨x,_,z|z⟩:=oS a
   .exact absurd (hE z).1 Wl
   .exact absurd (hE z).1 Wl
  .obtain⟨x,_,z|z⟩:=oS a
   .exact absurd (hE z).1 Wl
   .exact absurd (hE z).1 Wl
 .refine .inr #[h1,b,?_];have c:Hi ns w=[("to":Str)::ns.getD _ _::D6 w]:=cq We;have e:wP bn ns w=([("on":Str),w.sg]::(lk "if" "and" Qfy++lk "do" "then" Qex))++[("to":Str)::ns.getD w.tg.toNat Str.empty::D6 w]:=by
   unfold wP;rw[c,hS]
  rw[e,fg,hJ,nr,eD,r4 (eA _),Nat.sub_self];rfl
def sY:Sq (AT×AT×WY×Int):=#["way_of",6,2,top 65,["words","row","parts","last","part","asks","deeds","goal"],λ(bn,ns,w,r)=>([.lst ((wP bn ns w).flatten.map .str),.int r],(iz bn/\iz ns/\QT bn.length ns.length w),((RW.wy 0 w).ct bn ns:T))]
def gF:Sq QtX:=#["content_of",7,2,top 57,["words","row","word"],λ(bn,ns,q,r)=>([.lst ((q.ws bn ns).map .str),.int r],Que,(q.ct bn ns:T))]
def mw:Sq QtX:=#["form_of",8,2,top 56,["line","row","rest","words"],λ(bn,ns,q,r)=>([.str (q.line bn ns),.int r],Que,(q.fm bn ns r:T))]
def jj:Sq (AT×AT×RW×Int×Str×Int):=#["may_stand",1,3,top 81,["form","last_word","mood_blanks","word","blanks"],λ(bn,ns,q,r,a,mb)=>([(q.fm bn ns r).ez,.str a,.int mb],(tJ a mb q),(.sh QaV:T))]
def sZ:Sq (AT×AT×Ch):=#["formed",9,1,top 80,["text","forms","last_word","mood_blanks","place","line","form"],λ(bn,ns,rs)=>([.str (WU bn ns rs)],Qjr,(.lst Qi7:T))]
def mn(es:BA)(j:Nat):BA:=if j=0 then [] else(((j-1:Nat):Int)::cW es ((j-1:Nat):Int)).reverse
theorem YU(h:jZ es)(b:j<es.length):(mn es j).take (cW es (j:Int)).length=(cW es (j:Int)).reverse/\((cW es (j:Int)).reverse.getLast? = if es.getD j 0=-1 then none else some (es.getD j 0)):=by
 have e:=yp h.1 (m:=j) We We;rw[hI]at e;cases j with
 | zero=>
  obtain⟨e0,e1⟩:=FA h.1 b;rw[e1,ee e0];simp
 | succ k=>
  have a:=h.2 k b;generalize es.getD _ 0=x at a e ⊢;have c:0<=x:=by
   obtain z|z:=a
   .lia
   .exact(wO h.1 We We z).1
  rw[e,cq We,cq We];constructor
  .unfold mn;rw[cq WA,nr];obtain z|z:=a
   .subst z;rw[<- vk,hR]
   .obtain⟨pre,ep,_⟩:=qa h.1 Qaf We We We z;have e2:(k:Int)::cW es k=((k:Int)::pre)++(x::cW es x):=by rw[ep];rfl
    rw[e2,vl,<- vk,List.take_left]
  simp
def Vr(xs:QR)(k:Nat):cutD xs none Qxf=xs.take k:=by simp[cutD,HT.Xb,HT.Rr]
def ZJ:(cW es (j:Int)).reverse++[(j:Int)]=mn es QaF:=by
 unfold mn;rw[cq (rh j),nr,ka]
def jk:Sq BA:=#["elders_of",1,1,top 82,["depths","elders","line","mood","deep"],λes=>([.lst ((Ai es).map .int)],(jZ es/\es.length<=41),(.lst ((es.map .int).map T.sh):T))]
def ku:Sq (CH×Bool):=#["deeds_of",1,2,top 83,["forms","word","found","form"],λ(c,b)=>([.lst c.zY,.str QpC],(Dg c),(.lst (((c.dl b).map D.tup).map T.sh):T))]
def qp:Sq (CH):=#["ways_of",1,1,top 84,["forms","ways","mood","form"],λc=>([.lst c.zY],(Dg c),(.lst ((c.ws.map WY.d).map T.sh):T))]
def xG:Sq QtY:=#["above",1,2,top 26,["tree","mood","found","elder"],λ(ks,es,ss,m)=>([lS ks es ss,.int m],Qkw,(.lst (((cW es m).map .int).map T.sh):T))]
def xH:Sq QtY:=#["depth",2,2,top 27,["tree","mood"],λ(ks,es,ss,m)=>([lS ks es ss,.int m],Qkw,(.sh (.int ((cW es m).length:Nat)):T))]
def cU:Sq QmV:=#["are_elders_right",3,1,top 35,["tree","mood","line"],λ(ks,es,ss)=>([lS ks es ss],(jZ es/\1<=es.length/\es.length<=900/\∀m:Int,0<=m->m<es.length->(cW es m).length<=12),(.sh QaV:T))]
def dg:Sq QmV:=#["are_kinds_right",1,1,top 36,["tree","with_inner","elder","mood","kind"],λ(ks,es,ss)=>([lS ks es ss],(ks.length<=900/\es.length<=900),(.sh QwX:T))]
def kB:Sq (Int×BC):=#["is_place",1,2,top 46,["number","row"],λ(i,ds)=>([.int i,.lst ds],(True),(.sh (.bl (zX i ds.length)):T))]
def cV:Sq QmV:=#["are_starts_right",2,1,top 37,["tree","mood","start"],λ(ks,es,ss)=>([lS ks es ss],(ks.length=es.length/\ss.length=es.length/\es.length<=900),(.sh Qmk:T))]
structure FV(ks:AT)(es ss:BA):Prop where
 pre:jZ es
 n1:1<=es.length
 n2:es.length<=900
 deep:∀m:Int,0<=m->m<es.length->(cW es m).length<=12
 kl:ks.length=es.length
 sl:ss.length=es.length
structure LP(bs:Cf)(nm ks:AT)(es ss:BA)(is os:List QeY)(ws:List YL):Prop where
 t:FV ks es ss
 nl:nm.length=es.length
 l4:es.length<=400
 n1:∀x∈nm,x.length<=1000
 b1:∀q∈bs,q.1.length<=1000
 b2:bs.length<=1000
 il:is.length=nm.length
 ol:os.length=nm.length
 wl:ws.length<=100
 dd:∀l∈is++os++ws.map (·.dl),∀q∈l,mB q/\mC bs.length q=true
 ww:∀w∈ws,w.Ok nm.length bs.length
 wp:ws.Pairwise λa c=>a.src<=c.src
def fM:Sq (AT×BA×BA×BC):=#["is_tree_right",4,2,top 34,["tree","names","many"],λ(ks,es,ss,nm)=>([lS ks es ss,.lst nm],(FV ks es ss/\nm.length=es.length),(.sh (.bl Qkk):T))]
def dh:Sq AT:=#["are_names_right",2,1,top 38,["names","name"],λl=>([.lst Qci],((∀x∈l,x.length<=1000)/\l.length<=1000),(.sh (.bl (k9 l)):T))]
def iJ:Sq (Int):=#["is_bounded",1,1,top 47,["number"],λi=>([.int i],(True),(.sh (.bl (WN i)):T))]
def eU:Sq (Cf):=#["are_boxes_right",3,1,top 39,["boxes","box"],λl=>([.lst (l.map lp)],((∀q∈l,q.1.length<=1000)/\l.length<=1000),(.sh (.bl (Ag l)):T))]
def fN:Sq (BC×BC×D×BC×BC×BC×Int×Int):=#["is_term_right",2,2,top 45,["chart","term"],λ(bs,nm,tr,is,os,ws,i,c)=>([jw bs nm tr is os ws,.tup [.int i,.int c]],(True),(.sh (.bl (OJ bs.length i c)):T))]
def gZ:Sq (BC×BC×D×BC×BC×BC×Hg):=#["is_deed_right",3,2,top 44,["chart","deed","word"],λ(bs,nm,tr,is,os,ws,q)=>([jw bs nm tr is os ws,QO q],(mB q),(.sh (.bl (mC bs.length q)):T))]
def di:Sq (BC×BC×D×List QeY×List QeY×List YL):=#["are_deeds_right",4,1,top 40,["chart","many","deeds","deed"],λ(bs,nm,tr,is,os,ws)=>([jw bs nm tr QrU QrV Qol],(is.length=nm.length/\os.length=nm.length/\nm.length<=400/\ws.length<=100/\(∀l∈is++os++ws.map (·.dl),∀q∈l,mB q/\mC bs.length q=true)),(.sh QaV:T))]
def gA:Sq (BC×BC×D×BC×BC×BC×l9):=#["is_ask_right",3,2,top 43,["chart","ask","mark"],λ(bs,nm,tr,is,os,ws,q)=>([jw bs nm tr is os ws,ot q],(YK q),(.sh (.bl (ue nm.length bs.length q)):T))]
def gB:Sq (BC×BC×D×BC×BC×BC×Int×Str×List l9×BC×Int×Str):=#["is_way_right",4,2,top 42,["chart","way","target","mode","ask"],λ(bs,nm,tr,is,os,ws,src,sg,al,dd,tg,md)=>([jw bs nm tr is os ws,.tup [.int src,.str sg,.tup Qoj,.tup dd,.int tg,.str md]],(zX src nm.length=true/\(sg.length<=1000/\c9 sg=true)/\md∈(["new","near","far"]:AT)/\((tg=-1/\md="new")\/(tg ≠ -1/\zX tg nm.length=true))/\∀q∈al,YK q/\ue nm.length bs.length q=true),(.sh QaV:T))]
def dN:Sq (BC×BC×D×BC×BC×List YL):=#["are_ways_right",5,1,top 41,["chart","last","way"],λ(bs,nm,tr,is,os,ws)=>([jw bs nm tr is os Qol],((∀w∈ws,w.Ok nm.length bs.length)/\ws.Pairwise Qtr),(.sh QaV:T))]
def kC:QN (Cf×AT×AT×BA×BA×List QeY×List QeY×List YL):=#["looked",6,1,top 33,["chart"],λ(bs,nm,ks,es,ss,is,os,ws)=>([jw (bs.map lp) (nm.map .str) (lS ks es ss) QrU QrV Qol],(LP bs nm ks es ss is os ws),QsF,(.sh .non:T),(Qpx,none))]
abbrev iK:=inClass (top 11) 0
abbrev ni:=BC×BC×V×BC×BC×BC
noncomputable abbrev nj:AT:=["self","boxes","names","tree","ins","outs","ways"]
def pF:ni->BC:=λ(bs,nm,tv,is,os,ws)=>[.lst bs,.lst nm,.val tv,.lst is,.lst os,.lst ws]
def pG:ni->Prop:=λ(bs,nm,tv,is,os,ws)=>D.bV bs=true/\D.bV nm=true/\D.bV is=true/\D.bV os=true/\D.bV ws=true
def pH:ni->B1:=λ(bs,nm,tv,is,os,ws)=>(oK bs nm QwY is os ws:B1)
abbrev jl:=inClass (top 25) 0
abbrev pI:=AT×BA×BA
noncomputable abbrev pJ:AT:=["self","kinds","elders","starts"]
noncomputable def qF:pI->BC:=λ(ks,es,ss)=>[.lst QcP,.lst QbW,.lst QcQ]
def qG:pI->Prop:=λ(ks,es,ss)=>True
def qH:pI->B1:=λ(ks,es,ss)=>(sG ks es ss:B1)
def rK:QN (PT):=#["read",10,1,top 79,["text","forms","moods","kinds","elders","starts","chart"],λp=>([.str QkT],(g7 p),Qcc,(p.rn.t:T),(p.ex))]
noncomputable def Mq:AT:=["BadRow","NoName","BadTree","BadName","BadBox","BadDeed","BadWay","TooWide","NoStep"]
def FW(c:Str):BC:=Mq.map λn=>.bl (decide (n=c))
def PT.mm(p:PT):D:=if Qcc=true then .non else .tup [.lst (FW p.ex.1),.int Qhi]
def gG:Sq (PT):=#["_law_refusal",11,1,top 108,["text","error","e","marks","row"],λp=>([.str QkT],(g7 p),((if Qcc=true then .sh .non else .tup [.lst ((FW p.ex.1).map T.sh),.sh Qf6]):T))]
theorem Dt(nb nm:Nat)(ns:AT):∀(l:CU) (o:OW),(l.foldl Qdw o).is.length=o.is.length+ly l
 | [],o=>rfl
 | p::r,o=>by
  have e:(j4 nb nm ns o p).is.length=o.is.length+Qq8:=by
   unfold j4;split
   .simp
   split
   .rw[je,ij];rfl
   split
   .rfl
   split
   .rfl
   split<;>rfl
  rw[jL,Dt nb nm ns r,e,ly];lia
def za(es cs:BA){m:Nat}(h:m<n):(gj es cs n).getD m Str.empty=kindB es cs m/\(gk es cs n).getD m 0=oO es cs m:=by
 unfold gj gk;rw[eD,eD,fR,fR,h5 h];exact#[rfl,rfl]
theorem O8{m:Int}(h0:0<=m)(h1:Qsh):jD m us∉us:=by
 have hn:=Fg h0 h1;unfold jD at hn ⊢;split
 .rename_i j e;have a:=(rF.1 e).1;unfold WR at a;simp_all
 .rename_i e;rw[e]at hn;exact absurd (show c9 "" = true from hn) Wl
theorem FY{c sp:Int}(h0:0<=c)(h1:c<26*3656158440062976)(s0:0<=sp)(s1:sp<=1213056):∀n:Nat,n<=100->LI (mW c sp n)
 | 0,_=>#[λx b=>(by cases b),.nil]
 | n+1,hn=>by
  obtain⟨a,d⟩:=FY h0 h1 s0 s1 n We;have h:0<=n*sp/\n*sp<=100*1213056:=#[Int.mul_nonneg We s0,Int.mul_le_mul We s1 s0 Wp];have g:=lU c sp n;have b1:0<=c+n*sp:=by lia
  have b2:c+n*sp+(mW c sp n).length+20<26*131621703842267136:=by lia
  rw[mW];refine#[λx b=>?_,?_]
  .obtain b|b:=eB.1 b
   .exact a x b
   .cases eL.1 b;exact Fg b1 b2
  .rw[hV];refine#[d,WA,λx b y f e=>?_];cases eL.1 f;exact O8 b1 b2 (e▸b)
theorem FZ(s:BA):LI (m7 s):=by
 have a:=gL (bU s 0) (show(26*36 ^ (10:Int).toNat)≠0 by decide +kernel);have st:=E8 s;have b:=(lX s).2.1;exact FY a We st.1 st.2 _ We
theorem YP(s:BA):(eZ s).map (·.1)=(m7 s).take (eZ s).length:=by
 have c:=pA s;have a:=gL (WV s) (show(4:Int)≠0 by decide);have d:=hz (WV s) (show(0:Int)<4 by decide);have b:(eZ s).length=(WV s % 4).toNat:=by unfold eZ;rw[ed,gi]
 rw[b];unfold eZ;rw[ej];refine kb λi=>?_;rw[fR];by_cases hi:i<(WV s % 4).toNat
 .rw[h5 hi,vi hi,ft We];show some ((m7 s).getD (0+(i:Int)).toNat Str.empty)=_;rw[show(0+(i:Int)).toNat=i by lia,eD,ft We];rfl
 .rw[List.getElem?_eq_none (by rw[gi];lia),List.getElem?_eq_none (by rw[hO];lia)];rfl
theorem Vs(p:Qec)(h:jZ es)(h0:QoM)(hd:∀m:Int,0<=m->m<es.length->(cW es m).length<=12):jZ Qph/\0<(lV es p).length/\∀m:Int,0<=m->m<(lV es p).length->(cW Qph m).length<=12:=by
 unfold lV;split
 .obtain⟨k,j⟩:∃k,k+1=es.length:=#[es.length-1,We];rw[show es.length-1=k by lia];obtain⟨r,_,_⟩:=oN (k:=k) h.1 j;have b1:=gL Qgh (b:=((cj es k).length:Nat)) We;have b2:=hz Qgh (b:=((cj es k).length:Nat)) We;have a:=getD_mem (l:=cj es k) (n:=(p.1 / 8 % ((cj es k).length:Nat)).toNat) We;generalize (cj es k).getD (p.1 / 8 % ((cj es k).length:Nat)).toNat 0=x at a;have o:=hd (k:Int) We We;have g:(x=k\/x∈cW es k)/\(cW es x).length<=11:=by
   have d:x∈cW es k->(cW es x).length+1<=(cW es k).length:=λz=>by
    obtain⟨pre,ep,_⟩:=qa h.1 Qaf (m:=(k:Int)) We We We z;rw[ep,fg,hq];lia
   unfold cj at a;split at a
   .have e:cutD ([(k:Int)]++cW es k) QdP none=cW es k:=by
     generalize cW es k=l;unfold cutD;have h1:HT.iO ([(k:Int)]++l).length 0 QdP=1:=by
      unfold HT.iO;simp
     have q:HT.iO ([(k:Int)]++l).length ([(k:Int)]++l).length none=([(k:Int)]++l).length:=rfl;rw[h1,q];simp
    rw[e]at a;have:=d a;exact#[.inr a,We]
   .rename_i f;rw[fg,hJ]at f;obtain a|a:=eB.1 a
    .have:x=k:=eL.1 a;subst this;exact#[.inl rfl,We]
    .have:=d a;exact#[.inr a,We]
  have i:=h.snoc j g.1;have c:0<=x/\x<es.length:=by
   obtain e|e:=g.1
   .lia
   .have:=wO h.1 (m:=(k:Int)) We We e;lia
  refine#[i,by rw[fg];lia,λm m0 m1=>?_];rw[fg,hJ]at m1;by_cases hm:m<es.length
  .rw[CM h.1 m0 hm];exact hd m m0 hm
  .have em:m=(es.length:Int):=by lia
   subst em;have e:=yp i.1 (m:=(es.length:Int)) We (by rw[fg,hJ];lia);have e2:(es++[x]).getD ((es.length:Int)).toNat 0=x:=by
    rw[hI,eD,r4 (eA _),Nat.sub_self];rfl
   rw[e2,cq We,CM h.1 c.1 c.2]at e;rw[e,hq];have:=g.2;lia
 .exact#[h,h0,hd]
theorem F0:∀(l:CU) (es:BA),jZ es->0<es.length->(∀m:Int,0<=m->m<es.length->(cW es m).length<=12)->jZ Qni/\∀m:Int,0<=m->m<(l.foldl lV es).length->(cW Qni m).length<=12
 | [],es,h,_,hd=>#[h,hd]
 | p::r,es,h,h0,hd=>by
  obtain⟨a,c,d⟩:=Vs p h h0 hd;exact F0 r _ a c d
structure qi(nb:Nat)(o:OW):Prop where
 ii:∀l∈o.is,∀d∈l,m5 nb d
 oo:∀l∈o.os,∀d∈l,m5 nb d
 wd:∀w∈o.ws,c9 w.sg=true/\∀d∈w.ds,m5 nb d
 ss:o.ws.Pairwise λa c=>a.src<=c.src
 sl:∀w∈o.ws,w.src<=(o.is.length:Int)-1
theorem ZK(a c:Int)(nb:Nat)(h:iz ns)(d:QoS):m5 nb (nO a c nb ns):=by
 have b1:=gL c (b:=ns.length) We;have b2:=hz c (b:=ns.length) We;unfold nO;split
 .exact .inl #[_,rfl,fO h b1 b2]
 split
 .exact .inr QqM
 .exact .inr (.inr #[_,_,rfl,fO h b1 b2,qd _ _ _])
theorem Mr{l:D2}(h:∀x∈l,∀d∈x,m5 nb d)(hd:Qed):∀x∈je l d,∀d∈x,m5 nb d:=λx b y a=>by
 obtain b|rfl:=kj b
 .exact h x b y a
 .obtain a|a:=eB.1 a
  .simp at a;cases e:l[l.length-1]? with
   | none=>rw[e]at a;cases a
   | some z=>rw[e]at a;exact h z (ff e) y a
  simp_all
theorem YO{o:OW}(p:Qec)(hn:iz ns)(f:QoS)(h0:0<o.is.length)(h:qi nb o):qi nb Qwk:=by
 obtain⟨ii,oo,wd,ss,sl⟩:=h;have dd:=ZK p.1 p.2 nb hn f;have r:o.ws≠[]->gI o.ws∈o.ws:=λg=>jH mc (kA.2 g);have j:∀(w:WY),o.ws≠[]->w.src=(gI o.ws).src->(o.ws.set Qez w).Pairwise Qtr:=λw g hw=>by
  have e:(o.ws.set Qez w).map (·.src)=o.ws.map (·.src):=by
   rw[ke];refine kb λi=>?_;by_cases hi:i=o.ws.length-1
   .subst hi;have u:=kA.2 g;rw[pf (by rw[ed];lia),fR,ft We,hw];unfold gI;rw[eD,ft We];rfl
   .rw[so (λz=>hi z.symm)]
  exact rk.1 (e▸rk.2 ss)
 have m:∀{w:WY} {P:WY->Prop},(∀x∈o.ws,P x)->P w->∀x∈o.ws.set Qez w,P x:=λq hb x n=>by
  obtain n|rfl:=kj n
  .exact q x n
  .exact hb
 unfold j4;split
 .refine#[λl f=>?_,λl f=>?_,wd,ss,λw hw=>?_]
  .obtain f|f:=eB.1 f
   .exact ii l f
   .cases eL.1 f;exactλd hd=>by cases hd
  .obtain f|f:=eB.1 f
   .exact oo l f
   .cases eL.1 f;exactλd hd=>by cases hd
  .have:=sl w hw;show w.src<=((o.is++[[]]).length:Int)-1;rw[fg];lia
 split
 .refine#[Mr ii dd,oo,wd,ss,λw hw=>?_];show w.src<=((je o.is _).length:Int)-1;rw[je,ij];exact sl w hw
 split
 .exact#[ii,Mr oo dd,wd,ss,sl]
 split
 .have b1:=gL (p.1 / 24) (b:=(ns.length:Int)) We;have b2:=hz (p.1 / 24) (b:=(ns.length:Int)) We;refine#[ii,oo,λw hw=>?_,?_,λw hw=>?_]
  .obtain hw|hw:=eB.1 hw
   .exact wd w hw
   .cases eL.1 hw;exact#[fO hn b1 b2,λd hd=>by cases hd]
  .rw[List.pairwise_append];refine#[ss,List.pairwise_singleton _ _,λa q c t=>?_];cases eL.1 t;exact sl a q
  .obtain hw|hw:=eB.1 hw
   .exact sl w hw
   .cases eL.1 hw;exact Int.le_refl _
 rename_i g;have s:o.ws≠[]:=λz=>g Qnb;have k:=r s;split
 .exact#[ii,oo,m wd (show c9 (gI o.ws).sg=true/\∀d∈(gI o.ws).ds,m5 nb d from wd Qjw k),j _ s rfl,m sl (show(gI o.ws).src<=_ from sl Qjw k)]
 .refine#[ii,oo,m wd #[(wd _ k).1,λd hd=>?_],j _ s rfl,m sl (show(gI o.ws).src<=_ from sl Qjw k)];obtain hd|hd:=eB.1 hd
  .exact(wd _ k).2 d hd
  .cases eL.1 hd;exact dd
theorem HR{nb nm:Nat}{ns:AT}(hn:iz ns)(a:QoS):∀(l:CU) (o:OW),0<o.is.length->qi nb o->qi nb QvK
 | [],o,_,h=>h
 | p::r,o,h0,h=>by
  refine HR hn a r _ ?_ (YO p hn a h0 h);have:=Dt nb nm ns [p] o;grind
def Sa(nb:Nat):qi nb TR:=by
 refine#[λl a d hd=>?_,λl a d hd=>?_,λw hw=>?_,.nil,λw hw=>?_]
 .cases eL.1 a;cases hd
 .cases eL.1 a;cases hd
 .cases hw
 .cases hw
theorem ZL:jZ [-1]:=#[yF,λk a=>by
 have:k+1<1:=a;lia]
theorem Vt:∀m:Int,0<=m->m<([-1]:BA).length->(cW [-1] m).length<=12:=λm h0 h1=>by
 have h1:m<1:=h1;have:m=0:=by lia
 subst this;decide +kernel
theorem F2:∀(l:AT),(Str.join "\n" l).length<=(l.map (·.length)).sum+l.length
 | []=>fT _
 | [a]=>by
  show a.length<=a.length+0+1;lia
 | a::c::l=>by
  have h:=F2 (c::l);have e:("\n":Str).length=1:=rfl;rw[gE,str_len,str_len,e,eM,List.sum_cons,hq];lia
variable{p:PT}
def HI(h:n7 p):(∀x∈p.bn,x.length<=21)/\∀x∈p.ns,x.length<=21:=#[λx a=>oY (h.b x a),λx a=>oY (h.n x a)]
theorem YI(h:n7 p){m:Nat}(hm:QiU):Hh ((p.mr m).map Qel)<=400000/\(p.mr m).length<=121:=by
 obtain⟨hb,hn⟩:=HI h;have hd:=h.deep m We We;have es:(" ":Str).length=1:=rfl;have A:(" in ":Str).length=4:=rfl;have v:(" out ":Str).length=5:=rfl;have G:(Txt.mul " " ((cW p.c.es m).length:Int)).length<=50:=by
  have:=Lv (cW p.c.es m).length;lia
 have g:∀{l:D2},(∀x∈l,x.length<=40/\∀d∈x,m5 p.bn.length d)->(l.getD m []).length<=40/\∀d∈l.getD m [],m5 p.bn.length d:=λ{l} u=>by
  rw[eD];cases e:l[m]? with
  | none=>exact#[fT _,λd hd=>by cases hd]
  | some y=>exact u y (ff e)
 obtain⟨i1,i2⟩:=g h.is;obtain⟨s,q⟩:=g h.os;have k:(p.c.ws.filter λw:WY=>decide QbH).length<=40:=gr QsG h.wl;have t0:Hh [RW.line p.bn p.ns (.md (cW p.c.es m).length Qto Qtp Qnk Qb8)]<=151:=by
  have F:(p.c.ks.getD m Str.empty).length<=4:=by
   have:=h.kinds m hm;simp only[eg,fw,hG]at this;obtain e|e|e:=this<;>rw[e]<;>decide
  have E:(p.c.ns.getD m Str.empty).length<=21:=hn _ (e6 _ (mX (h.nl▸hm)));show(RW.line p.bn p.ns _).length+0+1<=151;obtain⟨_,a,c⟩|⟨_,a⟩:=h.one m hm
  .obtain⟨j,i⟩:=uD h.n a c;have s4:=j8 hn (p.c.ss.getD m 0).toNat;rw[<- FI i,j,str_len,str_len,str_len,str_len,str_len,es];lia
  .rw[<- FH (show rP p.ns Qb8="" from ee a),str_len,str_len,str_len,es];lia
 have D:Hh (((p.c.is.getD m []).map (RW.io (cW p.c.es m).length "in")).map Qel)<=40*252:=by
  refine gr (yL (B:=251) _ λx b=>?_) (si _ (by rw[ed,ed];exact i1));obtain⟨r,f,rfl⟩:=ef.1 b;obtain⟨d,hd,rfl⟩:=ef.1 f;have:=jf hb (vA (i2 d hd));rw[<- xu (lit:=" in ") Wl,str_len,str_len,A];lia
 have o:Hh (((p.c.os.getD m []).map (RW.io (cW p.c.es m).length "out")).map Qel)<=40*252:=by
  refine gr (yL (B:=251) _ λx b=>?_) (si _ (by rw[ed,ed];exact s));obtain⟨r,f,rfl⟩:=ef.1 b;obtain⟨d,hd,rfl⟩:=ef.1 f;have:=jf hb (vA (q d hd));rw[<- xu (lit:=" out ") Wl,str_len,str_len,v];lia
 have C:Hh (((p.c.ws.filter λw:WY=>decide QbH).map (RW.wy (cW p.c.es m).length)).map Qel)<=40*9378:=by
  refine gr (yL (B:=9377) _ λx b=>?_) (si _ (by rw[ed,ed];exact k));obtain⟨r,f,rfl⟩:=ef.1 b;obtain⟨w,hw,rfl⟩:=ef.1 f;have hw:=(h.wn w (hY.1 hw).1).1;have:=Mb hb hn hw;rw[<- Mg (λz=>by obtain⟨_,e⟩|⟨e,_⟩:=hw.t<;>first|exact e|lia),str_len,str_len,es];lia
 constructor
 .unfold PT.mr;rw[eM,<- List.singleton_append,fb,fb,wZ,wZ,wZ];lia
 .unfold PT.mr;rw[hq,fg,fg,ed,ed,ed];lia
theorem Jd(h:n7 p):∀j,j<=p.c.es.length->Hh ((p.IY j).map Qel)<=400+j*400000/\(p.IY j).length<=3+j*121
 | 0,_=>by
  have e:p.IY 0=p.c.br:=by
   unfold PT.IY;simp
  have b3:=h.b3;have i:p.c.br.length=p.c.bs.length:=ed ..;rw[e,i];refine#[gr (yL (B:=100) _ λx f=>?_) WF,We];obtain⟨r,g,rfl⟩:=ef.1 f;obtain⟨q,b,rfl⟩:=ef.1 g;rw[<- Mf];have a:=(HI h).1 _ (e6 _ QsZ);have d:=j7 (h.bk q b);have e3:(" ":Str).length=1:=rfl;unfold IA;rw[str_len,str_len,str_len];show 4+_+_+_<=100;lia
 | j+1,k=>by
  have a:=Jd h j We;have d:=YI h (m:=j) We;rw[O2,fb,wZ,fg];lia
theorem n7.ok(h:n7 p):g7 p:=by
 have a:=Jd h _ (eA _);have e1:=h.e1;have b:=F2 Qmf;have a1:Hh (p.rows.map _)<=400+p.c.es.length*400000:=a.1;have a2:p.rows.length<=3+p.c.es.length*121:=a.2;unfold Hh at a1;exact#[h,by rw[gc];unfold WU;lia,We]
def ZM(p:FP)(z c:Int):(p.fx z c).bs.length=p.bs.length:=by
 dsimp only [FP.fx,FP.f4,FP.f3,FP.f2,FP.f1];split
 .exact ij ..
 .rfl
theorem Du{a c:Nat}(h:a<=c)(hd:m5 a d):m5 c d:=by
 have f:∀{t:D},dz a t->dz c t:=λ⟨x,y,e,i,g⟩=>#[x,y,e,We,g];obtain⟨n,e,hn⟩|⟨k,t,e,j,b⟩|⟨n,t,e,hn,b⟩:=hd
 .exact .inl #[n,e,hn]
 .exact .inr (.inl #[k,t,e,We,f b])
 .exact .inr (.inr #[n,t,e,hn,f b])
theorem ZN{a c a2 c2:Nat}(h:a<=c)(l:a2<=c2)(hd:ig a a2 d):ig c c2 d:=by
 have b:∀{t:D},dz a t->dz c t:=λ⟨x,y,e,j,f⟩=>#[x,y,e,We,f];obtain⟨w,k,e,hw,k0,k1⟩|⟨w,s,t,e,hw,i,g⟩:=hd
 .exact .inl #[w,k,e,hw,k0,We]
 .exact .inr #[w,s,t,e,hw,b i,b g]
def Je(s:BA):Str:=(m7 s).getD (eZ s).length Str.empty
def F3(s:BA)(w:Nat):FP:=#[eZ s,og s,gj (b7 s) (FQ s) (b7 s).length,b7 s,gk (b7 s) (FQ s) (b7 s).length,(xE s w).is.map .tup,(xE s w).os.map .tup,(xE s w).ws.map WY.d]
theorem Bv(h:l.Nodup){i:Nat}(hi:Qj7):l.getD i Str.empty∉l.take i:=λz=>by
 rw[eD,ft hi]at z;obtain⟨j,a,e⟩:=x5.1 z;exact List.pairwise_iff_getElem.1 h j i We hi We e
theorem g0(s:BA)(w:Nat):FT (Je s) (b7 s).length (F3 s w):=by
 obtain⟨e0,e1,e2⟩:=lX s;have hn:=FZ s;have f:=pA s;have b3:=pB s;refine#[yG _ _ _,yH _ _ _,ZE s,λx e=>hn.n x (lL e),?_,b3,λq a=>?_,λq a=>?_,λm hm=>?_,λm hm=>?_]
 .show((m7 s).take ((b7 s).length+1)).getD _ _∉((m7 s).take ((b7 s).length+1)).take _;rw[List.take_take,show min (b7 s).length ((b7 s).length+1)=(b7 s).length by lia,eD,vi We,<- eD];exact Bv hn.d We
 .have hm:q.1∈(m7 s).take (eZ s).length:=YP s▸ef.2 #[q,a,rfl];exact#[hn.n _ (lL hm),λz=>Bv hn.d (i:=(eZ s).length) We (show Je s∈_ by rw[<- z];exact hm)]
 .obtain⟨k,_,rfl⟩:=ef.1 a;exact TV _
 .show(gj (b7 s) (FQ s) (b7 s).length).getD m Str.empty∈_;rw[(za _ _ hm).1];unfold kindB;split
  .decide +kernel
  split<;>decide +kernel
 .show((gj (b7 s) (FQ s) (b7 s).length).getD m Str.empty="one" /\ 0<=(gk (b7 s) (FQ s) (b7 s).length).getD m 0/\(gk (b7 s) (FQ s) (b7 s).length).getD m 0<((b7 s).length:Int)+1)\/((gj (b7 s) (FQ s) (b7 s).length).getD m Str.empty≠"one" /\ (gk (b7 s) (FQ s) (b7 s).length).getD m 0=-1);rw[(za _ _ hm).1,(za _ _ hm).2];generalize b7 s=es at hm ⊢;generalize FQ s=cs;unfold kindB oO;split
  .exact .inr #[Wl,rfl]
  split
  .exact .inr #[Wl,rfl]
  .rename_i c _;have g:0<(um es m).length:=kA.2 c;have b1:=gL QwZ (b:=((um es m).length:Nat)) We;have b2:=hz QwZ (b:=((um es m).length:Nat)) We;have:=Le (getD_mem (l:=um es m) (n:=(cs.getD m 0 / 2 % ((um es m).length:Nat)).toNat) We);exact .inl #[rfl,this.1,We]
def ZO(s:BA)(w:Nat)(p:FP):PT:=#[#[p.bs,p.ns.take (b7 s).length,p.ks,b7 s,p.ss,(xE s w).is,(xE s w).os,(xE s w).ws],Je s,p.ns.getD (b7 s).length Str.empty]
theorem Jf{s:BA}{w:Nat}{p:FP}(h:Quf):(ZO s w p).ns=p.ns:=by
 have a:=h.nl;show p.ns.take _++[p.ns.getD _ _]=p.ns;rw[eD,ft We];simp;grind
theorem YE{s:BA}{w:Nat}{p:FP}(h:Quf)(hw:w<=1)(hb:p.bs.length=(eZ s).length):g7 (ZO s w p)/\wu (ZO s w p):=by
 obtain⟨e0,e1,e2⟩:=lX s;have hn:=FZ s;have r:=pA s;have b3:=pB s;have o:=h.nl;obtain⟨pre,deep⟩:=F0 (jy s) [-1] ZL QiG Vt;have ow:=Vp s w;have on:qi ((eZ s).length+w) (xE s w):=HR (nm:=(b7 s).length+w) hn.n We (jy s) TR QiG (Sa _);have il:(xE s w).is.length=(b7 s).length:=by
  show _=(TN (jy s)).length;rw[(Lk (jy s)).2];exact Dt _ _ _ (jy s) TR
 have bl:(ZO s w p).bn.length=(eZ s).length+1:=by
  show(p.bs.map (·.1)++[Je s]).length=_;rw[fg,ed,hJ,hb]
 have f:(ZO s w p).ns.length=(b7 s).length+1:=by rw[Jf h,o]
 have k:c9 (Je s)=true:=hn.n _ (mX We);refine#[n7.ok #[by rw[Jf h];exact h.nm,λx g=>?_,by show(p.ns.take _).length=(b7 s).length;rw[hO];lia,h.kl,h.sl,il,ow.n2.trans il,e0,e1,pre,deep,h.kd,λm hm=>?_,h.b3,h.bk,λl i=>#[(ow.ii l i).l1,λd hd=>?_],λl i=>#[(ow.oo l i).l1,λd hd=>?_],ow.wl,λv hv=>?_,on.ss],?_,h.new]
 .obtain g|g:=eB.1 g
  .obtain⟨q,j,rfl⟩:=ef.1 g;exact(h.bn q j).1
  .rw[eL.1 g];exact k
 .rw[f];obtain⟨a,c,d⟩|a:=h.one m hm
  .exact .inl #[a,c,by show p.ss.getD m 0<_;lia]
  .exact .inr a
 .rw[bl];exact Du We (on.ii l i d hd)
 .rw[bl];exact Du We (on.oo l i d hd)
 .have b:=ow.ww v hv;obtain⟨s1,s2⟩:=on.wd v hv;rw[bl,f];refine#[#[b.l3,λd hd=>ZN We We (b.g1 d hd).pr,λd hd=>Du We (s2 d hd),s1,?_],b.sr.1,?_]
  .obtain a|⟨a,c⟩:=b.fin.tg
   .exact .inl a
   .exact .inr #[We,c]
  .have:=b.sr.2;show v.src<((b7 s).length:Int);rw[<- il];exact this
 .intro z;obtain⟨q,j,e⟩:=ef.1 z;exact(h.bn q j).2 e
noncomputable def sQ(a:BA):BA:=a.take 2++(a.drop 5).take 76
def wQ(a:BA):Nat:=(bU a 2 % 2).toNat
def Ak(a:BA):FP:=(F3 (sQ a) (wQ a)).fx QdC Qgw
theorem YA(a:BA):(sQ a).length<=78:=by
 unfold sQ;rw[fg,hO,hO];lia
theorem R5(a:BA):wQ a<=1/\((wQ a:Nat):Int)=bU a 2 % 2:=by
 unfold wQ;lia
theorem Ms(l:QR):cutD l (some 5) (some 81)=(l.drop 5).take 76:=by
 show(l.drop (min 5 _)).take (min 81 _-min 5 _)=_;by_cases h:5<=l.length
 .rw[Nat.min_eq_left h];by_cases a:81<=l.length
  .rw[Nat.min_eq_left a]
  .rw[Nat.min_eq_right We,rx WA,rx WF]
 .rw[rv We,rv We,List.take_nil,List.take_nil]
def Mt(l:QR):cutD l none (some 2)=l.take 2:=Ja l 2
theorem Vu(p:FP)(z c:Int):(p.fx z c).bs.map (·.1)=if 1<p.bs.length then(p.bs.map (·.1)).set QfJ ((p.fx z c).bs.getD QfJ (Str.empty,0)).1 else p.bs.map (·.1):=by
 dsimp [FP.fx,FP.f4,FP.f3,FP.f2,FP.f1];have same:∀{l:Cf},1<l.length->(l.map (·.1)).set _ (l.getD _ (Str.empty,0)).1=l.map _:=λ{l} h=>by
  simp;refine kb λi=>?_;by_cases hi:l.length-1=i
  .rw[<- hi,pf WI,fR,ft We];rfl
  simp_all
 split
 .rename_i h;rw[ee h.2,dS We,ke]
 simp_all
theorem ZP(h:g7 p):JoinOk "\n" Qmf=true:=by
 have a:=Jd h.1 p.c.es.length (eA _);have e1:=h.e1;have a1:Hh Qmf<=400+p.c.es.length*400000:=a.1;unfold JoinOk;rw[StrLaws.joinTotal,kx];have e:("\n":Str).length=1:=rfl;rw[e,Nat.mul_one];refine eP ?_;rw[gc];unfold Hh at a1;lia
def Yj{s:BA}{w:Nat}(h:FT (Je s) (b7 s).length ((F3 s w).fx z c)):(((F3 s w).fx z c).t).ez=(ZO s w ((F3 s w).fx z c)).p:=by
 unfold PT.p FP.t Ds;rw[Jf h,T.ez,T.fK,T.fK,T.fK,T.fK,T.fK,bF,bF,bF,bF];rfl
theorem Mu(c sp:Int):∀(k n i:Nat),i<n->(mW c sp (n+k)).getD i Str.empty=(mW c sp n).getD i Str.empty
 | 0,n,i,_=>rfl
 | k+1,n,i,h=>by
  have a:=lU c sp (n+k);rw[<- Mu c sp k n i h,<- Nat.add_assoc,mW,eD,eD,km We]
theorem Mv(l:BA)(k:Nat):bU l k=l.getD k 0:=by
 unfold bU;simp_all
theorem Mw(a:BA)(k:Nat)(b:k<2):bU (sQ a) k=bU a k:=by
 rw[Mv,Mv];unfold sQ;by_cases h:k<a.length
 .rw[eD,km WI,vi b,<- eD]
 .rw[rv We,List.take_nil,f6,rx We]
theorem R3(a:BA):(Iq a 4).getD (eZ (sQ a)).length Str.empty=Je (sQ a):=by
 have c0:=Mw a 0 Wp;have c1:=Mw a 1 Wp;have c0:bU _ 0=bU a 0:=c0;have c1:bU _ 1=bU a 1:=c1;have b3:=pB (sQ a);unfold Je m7 Iq yE;rw[c0,c1,Nat.add_comm,Mu _ _ _ _ _ We]
def Dw(x:Int):BC:=(List.range 9).map λk:Nat=>.bl (decide ((k:Int)=x))
def Mx{c:Str}{x:Int}(h:(Mq.map λn=>decide (n=c))=(List.range 9).map λk:Nat=>decide ((k:Int)=x)):FW c=Dw x:=by
 have:=congrArg (List.map D.bl) h;assumption
def My(bW:Qcc=false){c:Str}{x r:Int}(b:p.ex.1=c)(hm:FW c=Dw x)(a:Qhi=r):p.mm=.tup [.lst (Dw x),.int r]:=by
 unfold PT.mm;rw[cq (by simp[bW]),b,hm,a]
theorem ZQ(h:g7 p)(e:wu p):∃x r:Int,p.q2=[x,r]/\((x<9/\p.mm=.tup [.lst (Dw x),.int r])\/(x=9/\p.mm=.non/\Qcc=true)):=by
 obtain⟨k1,k2⟩:=Zl h e;by_cases j:0<p.row
 .have a:p.kn=false:=k1.trans (eP We);have ex:p.ex.1="NoName":=by unfold PT.ex;rw[ee a]
  exact#[1,p.row,ee j,.inl #[Wp,My (by rw[a];rfl) ex (Mx Wl) (by rw[cq (by rw[a];decide),k2 a])]]
 have a:p.kn=true:=k1.trans (eC We);have ex:p.ex.1=(if p.rn.tk=false then("BadTree":Str) else if k9 p.rn.ns=false then("BadName":Str) else("BadBox":Str)):=by unfold PT.ex;rw[cq (by rw[a];decide)]
 have i:Qhi=0:=ee a;have dd:p.q2=if p.rn.tk=false then [2,0] else if ¬ p.c.ns.Nodup then [3,0] else if ¬ p.c.bn.Nodup then [4,0] else [9,0]:=cq j
 have en:k9 p.rn.ns=decide p.c.ns.Nodup:=by
  unfold k9;rw[show p.rn.ns.all c9=true from hM.2 λx e=>h.n x (e6 _ e),kf];rfl
 have l:Ag p.rn.bs=decide p.c.bn.Nodup:=by
  unfold Ag k9;rw[show p.rn.bs.all Qvh=true from hM.2 λq k=>IM (h.bk q k),show(p.rn.bs.map (·.1)).all c9=true from hM.2 λx e=>h.b x (e6 _ e),kf,kf];rfl
 have lk:Qcc=(p.rn.tk&&(decide p.c.ns.Nodup&&decide p.c.bn.Nodup)):=by
  rw[a,kf];unfold CH.lk;rw[en,l]
 cases f:p.rn.tk with
 | false=>
  rw[f,mT]at lk;exact#[2,0,dd.trans (ee f),.inl #[Wp,My lk (ex.trans (ee f)) (Mx Wl) i]]
 | true=>
 rw[f,kf]at lk;have d:¬ p.rn.tk=false:=by rw[f];decide
 by_cases h1:p.c.ns.Nodup
 .rw[eC h1]at lk en;by_cases g:p.c.bn.Nodup
  .rw[eC g]at lk;exact#[9,0,dd.trans ((cq d).trans ((cq λz=>z h1).trans (cq λz=>z g))),.inr #[rfl,ee lk,lk]]
  .rw[eP g]at lk;exact#[4,0,dd.trans ((cq d).trans ((cq λz=>z h1).trans (ee g))),.inl #[Wp,My lk (ex.trans ((cq d).trans (cq (by rw[en];decide)))) (Mx Wl) i]]
 .rw[eP h1]at lk en;exact#[3,0,dd.trans ((cq d).trans (ee h1)),.inl #[Wp,My (lk.trans (mT _)) (ex.trans ((cq d).trans (ee en))) (Mx Wl) i]]
def ZR(x r:Int):mK 60 (.tup [.lst (Dw x),.int r]):=.tup λd hd=>by
 obtain rfl|hd:=eg.1 hd
 .refine .lst λd hd=>?_;obtain⟨k,_,rfl⟩:=ef.1 hd;exact .bl _ _
 .cases eL.1 hd;exact .int _ _
def F4(p:PT):(if Qcc=true then T.sh .non else .tup [.lst ((FW p.ex.1).map T.sh),.sh Qf6]).clean=true/\(if Qcc=true then T.sh .non else .tup [.lst ((FW p.ex.1).map T.sh),.sh Qf6]).ez=p.mm:=by
 unfold PT.mm;split
 .exact#[rfl,rfl]
 .constructor
  .rfl
  rfl
def Vv{b:Bx}{δ δ1 δ2:Ap}{e1 e2:Expr}{pos:Pos}(a:Qd7)(h1:bT X CL b e1 δ d δ1)(c:Qia)(k:mK 60 d):bG X CL b QbQ δ (.sh QaV) δ2:=by
 have:=(Cj (pos:=pos) a h1 c k k).2
 rwa [Es k]at this
noncomputable def ZS{b:Bx}{δ δ1 δ2:Ap}{e1 e2:Expr}{pos:Pos}{j:Int}(h1:QaY)(a:Qa5):bG X CL b QbQ δ (.sh Ql2) δ2:=(bw h1 a).2
abbrev F5:=top 110
abbrev Vw:=BA
abbrev Vx:AT:=["script","parts","boxes","rows","due","text","found"]
noncomputable def qq:Vw->BC:=λa=>[.lst (a.map .int)]
def qu:Vw->Prop:=λa=>a.length<=63
def qv:Vw->T:=λa=>(.sh QaV:T)
structure yl(w:World)(K:Frag)(mg:BS)(CL:BM):Prop where
 bB:mg "len" = none
 gH:mg "range" = none
 RY:mg "min" = none
 zb:mg "int" = none
 Vy:mg "str" = none
 RV:mg "abs" = none
 RU:mg "max" = none
 Vz:mg "set" = none
 jm:mg "enumerate" = none
 O9:mg "NoName" = some (.ref QnA)
 tu:mg "tuple" = none
 RS:∃u,mg "ROW" = some (.int 0 u)
 jz:∃u,mg "WORD" = some (.int 2 u)
 iA:∃u,mg "CONTENT" = some (.int 3 u)
 fh:ti mg K "KINDS" ["leaf","one","all"]
 kD:∃u,mg "BLANKS" = some (.int 1 u)
 zc:∃u,mg "LONGEST_NAME" = some (.int 12 u)
 Dy:ti mg K "WORDS" ["all","and","box","call","do","far","if","in","leaf","near","on","one","open","out","put","say","shut","then","to"]
 Pa:∃u,mg "LETTERS" = some (.str "abcdefghijklmnopqrstuvwxyz" u)
 nR:∃u,mg "LETTERS_AND_FIGURES" = some (.str "abcdefghijklmnopqrstuvwxyz0123456789" u)
 zf:∃u,mg "MOST_FIGURES" = some (.int 30 u)
 Pb:∃u,mg "FIGURES" = some (.str "0123456789" u)
 kO:GEk w mg K "FOLLOWERS" [("on",["if","do","to"]),("if",["and","do","to"]),("and",["and","do","to"]),("do",["then","to"]),("then",["then","to"]),("to",[])]
 xJ:ti mg K "MARKS" ["<","<=","=","!="]
 qx:GDk w mg K "RANKS" (λk=>([("leaf",0),("one",0),("all",0),("in",1),("out",2),("on",3)]:Cf).lookup k)
 fD:Hw K Qjh
 ck:cu K Qjh "elders"
 Pg:∃u,mg "DEEPEST" = some (.int 12 u)
 jI:cu K Qjh "kinds"
 lB:cu K Qjh "starts"
 bY:Hw K QdE
 gU:cu K QdE "boxes"
 ZT:∃u,mg "DEEDS" = some (.int 3 u)
 cK:cu K QdE "names"
 pK:cu K QdE "ins"
 nq:cu K QdE "outs"
 ny:cu K QdE "ways"
 VA:∃u,mg "TARGET" = some (.int 4 u)
 Yg:∃u,mg "MODE" = some (.int 5 u)
 zg:∃u,mg "SOURCE" = some (.int 0 u)
 aeA:∃u,mg "SIGN" = some (.int 1 u)
 Dz:ti mg K "MODES" ["new","near","far"]
 aeB:∃u,mg "ASKS" = some (.int 2 u)
 zj:mg "BadTree" = some (.ref Qnl)
 Jg:mR K Qnl
 zk:mg "BadName" = some (.ref Qnm)
 Jh:mR K Qnm
 Bw:mg "BadBox" = some (.ref QnB)
 Ph:mR K QnB
 Ji:mg "BadDeed" = some (.ref Qw0)
 Pj:mg "BadWay" = some (.ref QxB)
 nA:cu K QdE "tree"
 pL:mg "list" = none
 DB:mg "MoodError" = some (.ref QmO)
 bS:mg "isinstance" = none
 Pk:mg "BadRow" = some (.ref QxC)
 Jj:mg "TooWide" = some (.ref Qw1)
 Pn:mg "NoStep" = some (.ref QxD)
 tD:mg "ValueError" = none
 VB:mg "bool" = none
noncomputable def lv(i:Nat):Nat:=([1,1,2,1,2,1,1,2,1,2,3,4,1,2,2,3,4,1,2,3,1,4,1,2,3,4,5,5,6,7,8,1,3,1,2,3,4,5,1,4,5,6,7,8,1,9,1,1,1,1,2,3,1,1,2,4,2,1,3,2,3,4,3,4,5,6,2,2,10,1,11]:CO).getD i 0
def TT(X:Cx)(CL:BM)(i:Nat):Prop:=([iN X CL ql,iN X CL xD,iN X CL jg,iN X CL jP,iN X CL kg,iN X CL kh,iN X CL jh,iN X CL iV,iN X CL oZ,iN X CL pe,iN X CL lW,iN X CL ki,iN X CL gu,iN X CL fE,iN X CL iW,iN X CL iX,iN X CL y9,iN X CL gw,iN X CL gR,iN X CL gS,iN X CL ko,iN X CL FU,iN X CL sW,z3 X CL "NoName" "row" 1,CJ X CL g8,CJ X CL dB,CJ X CL dD,CJ X CL dY,CJ X CL dZ,CJ X CL eF,CJ X CL g9,iN X CL mh,iN X CL mj,iN X CL gT,iN X CL gy,iN X CL ji,iN X CL mq,iN X CL jQ,iN X CL kr,iN X CL jR,iN X CL pD,iN X CL sY,iN X CL gF,iN X CL mw,iN X CL jj,iN X CL sZ,iN X CL jk,iN X CL ku,iN X CL qp,iN X CL xG,iN X CL xH,iN X CL cU,iN X CL dg,iN X CL kB,iN X CL cV,iN X CL fM,iN X CL dh,iN X CL iJ,iN X CL eU,iN X CL fN,iN X CL gZ,iN X CL di,iN X CL gA,iN X CL gB,iN X CL dN,CJ X CL kC,Fm X CL "Chart" 1 7 pF pG pH,Fm X CL "Tree" 1 4 qF qG qH,CJ X CL rK,z4 X CL "_law_faults" 1 3 m8 ng nh m9,iN X CL gG]:List Prop).getD i True
structure EX(N G Cs:AT)(n k:Nat)(X:Cx)(CL:BM):Prop extends EL X N G,yl X.w X.K X.mg CL where
 cc:∀(i:Nat) {x:Str} (_:Cs[i]? = some x:=by rfl),IsC X x
 c:∀(i:Nat) (_:Nat.blt i n=true:=by rfl) (_:Nat.ble (lv i) k=true:=by rfl),TT X CL i
 st:X.stack=X.env::X.outer
 fm:X.env.frame=some X.env.locals
abbrev iL{A:Type}(S:Sq A)(n k:Nat)(X:Cx)(CL:BM):Prop:=EX S.N (gN S.st) (cN S.st) n k X CL
structure RR(P:Q2)(w:World)(K:Frag)(mg:BS)(base:Heap)(CL:BM)(h:Heap)(n:Nat):Prop where
 xx:K.In h
 gg:h.Ns mainGlobals mg
 ec:yl w K mg CL
 t:∀i,Nat.blt i n=true->∀Y:Cx,dJ (lv i) Y.A->TT QuR CL i
variable{P:Q2}{w:World}{mg:BS}{base h:Heap}{K:Frag}{k:Nat}{N ps:AT}{st:Stmt}{f:Addr}{A:Type}
theorem rs(r:QlH)(t:∀Y:Cx,dJ (lv n) Y.A->TT QuR CL n):RR P w K mg base CL h Qaw:=#[r.xx,r.gg,r.ec,λi h=>by
 by_cases e:i=n
 .rw[e];exact t
 .exact r.t i (Nat.ble_eq_true_of_le (by have:=ew h;lia))]
def mv(u:A7 X)(r:RR X.prog X.w X.K X.mg X.base CL h n)(g:Qcx)(O:w7 st N ps:=by exact Ik (P:=[]) Wl)(e:X.env.scope=aE st:=by rfl)(j:X.N=N:=by rfl)(hf:∀x,X.fn x=true:=by exactλ_=>rfl)(f:QbR:=by rfl)(hm:QbP:=by rfl):EX N (gN st) (cN st) n k X CL:=#[cE u (e▸O.c) j hf O.d O.l adz,r.ec,λi _ h=>wM (e▸O.c) (adA _ (ff h)),λi a b=>r.t i a X (g.mono (ew b)),f,hm]
def qC(r:QlH)(S:Sq A)(F:gC K S.x S.st)(d:∀{X:Cx} {b:Bx},iL S n k X CL->iH X CL b S)
  (O:Qya:=by exact Ik Wl) (q:QxZ:=by(repeat intro _);rfl) (e:∀X,Md X CL S.x Qaf (S.N.take S.m).length S.f->TT X CL n:=by exactλ_ z=>z) (e2:lv n=k+1:=by rfl):RR P w K mg base CL h Qaw:=
 F.elim λ_ F=>F.elim λ_ F=>rs r λY a=>e _ #[JU P w mg base CL r.xx r.gg k (FO S.f) (Fh S.f) (Ep S.f) F O.s (λa u p=>d (mv u r a O rfl rfl Qbv) p) q,e2▸a]
def qX(r:QlH)(S:QN A)(F:gC K S.x S.st)(d:∀{X:Cx} {b:Bx} {W:XK},EX S.N (gN S.st) (cN S.st) n k Qac CL->Af X W CL b S)
  (O:Qya:=by exact Ik Wl) (q:QxZ:=by(repeat intro _);rfl) (e:∀X,GX X CL S.x Qaf (S.N.take S.m).length S.f->TT X CL n:=by exactλ_ z=>z) (e2:lv n=k+1:=by rfl):RR P w K mg base CL h Qaw:=
 F.elim λ_ F=>F.elim λ_ F=>have T:=SU P w mg base CL r.xx r.gg k QtJ Qtl QsX Qsz QsA F O.s (λCX=>λc u p g=>d (mv u r c O rfl rfl Qbv) p g) q
 rs r λY c=>e _ #[#[T.1,e2▸c],#[T.2,e2▸c]]
def Pp{b:Bx}(E:iL ql 0 0 X CL) :
  iH X CL b ql:=by
 rintro⟨ns,j⟩ h;refine aM (sf QD (ak (KP E.bB Qv Qr))).1 (λa=>?_) (λa=>?_)
 .have e:=by simpa using of_decide_eq_true a
  apply aF (aH (ay Qv QD (eV h e)) rfl);show T.sh _=T.sh _;rw[bU,ee e]
 .have e:¬ j<ns.length:=by simpa using of_decide_eq_false a
  refine aj (aF fW ?_);show T.sh _=T.sh _;rw[bU,cq e]
theorem ZU{b:Bx}(E:iL xD 1 0 X CL) :
  iH X CL b xD:=by
 rintro⟨es,m⟩ h;obtain⟨d,h0,h1,hlen⟩:=h;apply aD E.g Q3 Qbe;apply aD E.g Qaa (aH (ay Qv QD (eV h0 h1)) rfl);have hm:=d.at h0 h1;apply Cm E.g (λn δ=>∃(k:Int) (l:BA),δ=[some _,some _,some Qr8,some QeP] /\ -1<=k/\k<n/\k<es.length/\l++uh n es k=cW es m/\l.length+n<=es.length+1) QeL
  #[ _,[],rfl,hm.1,We,We,rfl,WA]
 rintro n δ ⟨k,l,rfl,k0,k1,k2,k3,i⟩;refine#[_,_,(g5 QZ Qap).1,λa=>?_,λa=>?_]
 .have c:=by simpa using a
  have f:=d.at We k2;cases n with
  | zero=>lia
  | succ n=>
   apply ia (E.ll 2).1 rfl QcL rfl WI;apply aD E.g Qaa (aH (ay Qv QZ (eV We k2)) rfl);refine aj #[n,l6 _,_,l++[k],?_,f.1,We,We,?_,WI]
   .simp
   .rw[<- k3,uh,cq c,eJ];rfl
 .have c:=by simpa using a
  subst c;have e:l=cW es m:=by
   rw[<- k3];cases n with
   | zero=>rw[uh,f6]
   | succ n=>rw[uh,ee rfl,f6]
  subst e;exact aF QiQ rfl
theorem F6{b:Bx}(E:iL jg 2 1 X CL) :
  iH X CL b jg:=by
 intro l h;dsimp [jg]at h ⊢;apply aD E.g Qav (cT (aN QdW bP) aG);refine dU E.g Q3 (λj δ=>∃m i f,δ=[some _,some (.lst ((((l.take j).foldl lV [-1]).map .int).map T.sh)),m,i,f])
  (cg QaJ) #[_,_,_,rfl] (by rintro j δ ⟨_,_,_,rfl⟩;exact ew rfl) ?turn ?fin
 case turn=>
  rintro j d δ v ⟨m,i,f,rfl⟩;obtain⟨p,n,rfl⟩:=Lh v;obtain⟨q,s⟩:=CW _ [-1] yF (l6 0);have hm:=qb QoB;have y:(l.take j).length<=l.length:=by rw[hO];lia
  rw[hJ]at s;show cJ X CL b _ _ _;rw[jN n,h9];generalize (l.take j).foldl lV [-1]=es at q s ⊢;show cJ X CL b _ _ {nx:=λδ=>∃m i f,δ=[_,some (.lst (((lV es p).map .int).map T.sh)),m,i,f],rt:=_,bk:=_,ct:=_};refine aM (sf (ak (bN QbT ah Wp)) ah).1 (λa=>?_) (λa=>?_)
  .have a:=er a;obtain⟨k,r⟩:∃k:Nat,es.length=k+1:=#[es.length-1,We];obtain⟨u,t,z⟩:=oN q r.symm;apply aD E.g Qaa (aJ (jr (ak (aQ (ed ..) E.bB QxE Qr)) ah) (t2:=.sh QdD) (by rw[r];lia));have w:(cW es k).length<=es.length+1:=wR _ _ _;apply aD E.g Qam (jF (bH (ds:=[.int _]) (cT (aN QcL bP) aG))
    (bH (c_ (es,(k:Int)) (E.c 1) QP (ai QxE Qhj) (#[q,We,We,We]) (gf _))) rfl (fB _) (gz (bz (by rw[ed,hJ];lia))))
   have x:([D.int k]++(cW es k).map _)=([(k:Int)]++cW es k).map _:=rfl;rw[x];refine vh (λδ=>δ=[some QxX,some (.lst ((es.map .int).map T.sh)),some (.sh (WQ p)),some QeP,some (.lst (((cj es k).map .int).map T.sh))])
    (lO (ak (aQ (ed ..) E.bB QcI Qr)) ah).1 (λn=>?_) (λn=>?_) ?_
   .have e:=er n;refine aD E.g Qam (gM QcI (fB _) QbC fQ) (aj ?_);rw[gO];unfold cj;rw[ee e];rfl
   .have e:=eR n;apply aj;unfold cj;rw[cq e];rfl
   rintro δ rfl;have o:((es.map D.int).map T.sh)++[T.sh (.int ((cj es k).getD (p.1 / 8 % ((cj es k).length)).toNat 0))]=((lV es p).map D.int).map T.sh:=by
    unfold lV;rw[ee a,r,fb,fb];rfl
   generalize cj es k=rs at u t o ⊢;have b1:=gL Qgh (b:=rs.length) We;have b2:=hz Qgh (b:=rs.length) We;refine ia (E.ll 1).1 rfl (aH (ay QcI (ak (bN (ak (cC QbT ah #[Wp,Wp])) (ak (aQ (ed ..) E.bB QcI Qr)) We)) (eV b1 b2)) rfl) rfl (by rw[ed,ed];lia) (aj (aj ?_));rw[o];exact#[_,_,_,rfl]
  .have a:=eR a;rw[lV,cq a];exact aj QlI
 case fin=>
  rintro δ ⟨m,i,f,rfl⟩;apply aF QeF;rw[ed,hR];rfl
theorem Pq{b:Bx}(E:iL jP 3 0 X CL) :
  iH X CL b jP:=by
 rintro⟨m,us⟩ h;dsimp only [jP]at h ⊢;obtain⟨h0,h1,z⟩:=h;have f:vR.length=36:=by decide +kernel
 refine aD E.g Q3 bE ?_;refine aD E.g Qaa (ED (l:=qo) az az Wl (by rw[gc];decide +kernel) Wl aG) ?_;refine dU E.g Qam (λj δ=>(∃p o k,δ=[some _,some _,some _,some _,p,o,k])/\∀i,i<j->WR m us i=false)
  (fZ E.gH (ak (dR (ak (aQ (ed ..) E.bB QD QP)) ah)) We Qr) #[#[_,_,_,rfl],λi hi=>absurd hi (Nat.not_lt_zero _)] (λj δ ⟨⟨_,_,_,e⟩,_⟩=>by subst e;exact ew rfl) ?turn ?fin
 case turn=>
  rintro j d δ w ⟨⟨p,o,k,rfl⟩,c⟩;obtain⟨rfl,v⟩:=jb w;rw[i0];have b1:=gL Qcv (show(26:Int)≠0 by decide);refine aD E.g Qar (aJ (Cb QA (ak (bN QuS ah Wp)) (by rw[gc];decide +kernel) (by rw[Tr];exact Ck 0 b1 (by rw[f];lia))) rfl) ?_;refine aD E.g QaZ (cC QuS ah #[Wp,Wp]) ?_;refine Cm E.g (λn δ=>∃(r:Int) (x:Str),δ=[some _,some _,some _,some _,some _,some (.sh QaL),some QiV]/\0<=r/\r<36 ^ n/\x.length+n<=21/\OO n r x=qA Qcv) 20
   #[_,_,rfl,We,We,eA _,rfl] ?_
  rintro n δ ⟨r,x,rfl,u,t,y,q⟩;refine#[_,_,(lO Qbg ah).1,λa=>?_,λa=>?_]
  .have a:0<r:=er a;cases n with
   | zero=>
    lia
   | succ n=>
    have c1:=gL r (show(36:Int)≠0 by decide);refine aD E.g Qar (bO QaO (ak (aJ (Cb QA (ak (bN Qbg ah Wp)) (by rw[gc];decide +kernel) (by rw[Tr];exact Ck 0 c1 (by rw[f];lia))) rfl)) (by rw[gc];show x.length+1<=_;lia)) ?_;refine aD E.g QaZ (cC Qbg ah #[Wp,Wp]) ?_;refine aj #[n,l6 _,r / 36,x++yx (r % 36),rfl,Int.ediv_nonneg u Wp,Int.ediv_lt_of_lt_mul Wp (by exact t),?_,?_]
    .rw[str_len];show x.length+1+n<=21;lia
    .rw[<- q,OO,ee a]
  .have a:¬ 0<r:=eR a;rw[YS n x a]at q;subst q;refine aM (dM (cz (su QaO QD rfl rfl).1 (λhb=>(eK (su QaO Qcb rfl rfl).1)))) (λs=>?_) (λs=>aj (aj #[#[_,_,_,rfl],λi hi=>?_]))
   .refine aF Qnn ?_;rw[TJ v c s]
   .obtain h|rfl:=Nat.lt_succ_iff_lt_or_eq.1 hi
    .exact c i h
    .exact s
 case fin=>
  rintro δ ⟨⟨p,o,k,rfl⟩,c⟩;refine aF bE ?_;have e:(cI 0 ((us.length:Int)+20).toNat).length=us.length+20:=by
   rw[cI,ed,gi];lia
  rw[e]at c;rw[TL c]
theorem Jk{b:Bx}(E:iL kg 4 1 X CL) :
  iH X CL b kg:=by
 rintro⟨s,n⟩ h;dsimp only [kg]at h ⊢;have e0:=gL (bU s 1) (show(5:Int)≠0 by decide);have e1:=hz (bU s 1) (show(0:Int)<5 by decide);have f:=gL (bU s 0) (show(26*36 ^ (10:Int).toNat:Int)≠0 by decide +kernel);have b1:=hz (bU s 0) (show(0:Int)<26*36 ^ (10:Int).toNat by decide +kernel);have b2:(26*36 ^ (10:Int).toNat:Int)<=100000000000000000:=by decide +kernel
 have st:=E8 s;refine aD E.g Q3 (bN (ak (c_ ((s,0)) Qc2 Qr Qdn (show(0:Int)<=0 by lia) rfl)) (ak (B9 ah (ak (Ca ah ah #[Wp,Wp,Wp])) (.inl #[Wp,Wp]))) Wl) ?_;refine aD E.g Qaa (aJ (aH (ay (ds:=([1,26,936,33696,1213056]:BA).map .int) (bH (eO (X5) aG)) (ak (bN (ak (c_ ((s,1)) Qc2 Qr Qdn (show(0:Int)<=1 by lia) rfl)) ah Wp)) (eV (bs:=[1,26,936,33696,1213056]) e0 e1)) rfl) (t2:=.sh (.int (yE s))) rfl) ?_;unfold Iq;generalize bU s 0 % (26*36 ^ (10:Int).toNat)=c at f b1 ⊢;generalize yE s=sp at st ⊢;refine aD E.g Qam Qbe ?_;refine dU E.g Qar (λj δ=>∃o,δ=[some (.sh (.lst QnZ)),some QeQ,some QeH,some (.sh (.int sp)),some (.lst (((mW c sp j).map .str).map T.sh)),o])
  (fZ E.gH QD We QP) #[_,rfl] (by rintro j δ ⟨_,rfl⟩;exact ew rfl) ?turn ?fin
 case turn=>
  rintro j d δ a ⟨o,rfl⟩;obtain⟨rfl,i⟩:=jb a;rw[i0];have l:=lU c sp j;have k:0<=(j:Int)*sp/\(j:Int)*sp<=1000*1213056:=#[Int.mul_nonneg We st.1,Int.mul_le_mul We st.2 st.1 Wp];have en:((mW c sp j).map D.str).map T.sh++[T.sh QrW]=((mW c sp QaF).map D.str).map T.sh:=by
   rw[mW,fb,fb];rfl
  refine ia (E.ll 4).1 rfl (aJ (c_ ((c+j*sp,mW c sp j)) (E.c 3) Q4 (ai (ak (dR QA (ak (B9 QaO QZ (.inl #[We,We]))))) (ai QcI av)) (by dsimp only [jP];exact(#[We,We,We])) rfl) (t2:=.sh QrW) rfl) rfl (by rw[List.length_map,List.length_map];lia) (aj ?_);rw[en];exact#[_,rfl]
 case fin=>
  rintro δ ⟨o,rfl⟩;have e:(cI 0 (n:Int).toNat).length=n:=by
   rw[cI,ed,gi];lia
  rw[e];exact aF QxF rfl
theorem Jl{b:Bx}(E:iL kh 5 0 X CL) :
  iH X CL b kh:=by
 rintro⟨es,cs⟩ h;obtain⟨q,r⟩:=h;refine aD E.g Q3 Qbe ?_;refine aD E.g Qaa Qbe ?_;refine dU E.g Qam (λj δ=>∃m l k,δ=[some _,some _,some (.lst (((gj es cs j).map .str).map T.sh)),some QqX,m,l,k])
  (fZ E.gH (ak (aQ (ed ..) E.bB Qv QP)) We Qr) #[_,_,_,rfl] (by rintro j δ ⟨_,_,_,rfl⟩;exact ew rfl) ?turn ?fin
 case turn=>
  rintro j d δ o ⟨m,l,k,rfl⟩;obtain⟨rfl,n⟩:=jb o;have n:j<es.length:=by lia
  rw[i0];have kl:=yG es cs j;have sl:=yH es cs j;refine kY (p:=λd=>decide QlG) (gg:=T.sh) E.g Qar (bu (.cons (E.ll 0).1 Qdi (.cons (E.ll 4).1 QfT .nil)) Wl)
   (fZ E.gH (ak (aQ (ed ..) E.bB Qv QP)) We Qr) Qas (λC s0 v f0 s d hd=>?Ls) (gz (bz (by simp[cI];lia))) ?rest Qbj Qbp
  case Ls=>
   obtain⟨i,hi,rfl⟩:=ef.1 hd;have t:=by simpa using hi
   exact#[(bw (ay (nM 1) (dH 0) (eV (show(0:Int)<=0+i by lia) (show 0+(i:Int)<es.length by lia))) (nM 2)).1,λ_=>v_ (E2 0)]
  case rest=>
  have eq:((cI 0 (es.length:Int).toNat).filter λd=>decide QlG).map (T.sh)=((um es j).map .int).map T.sh:=by
   unfold cI um;rw[la,ej,ej,ej];have e1:((λd=>decide QlG)∘λi:Nat=>D.int (0+i))=λi:Nat=>decide (es.getD i 0=j):=by
    funext i;show decide (es.getD (0+(i:Int)).toNat 0=j)=_;rw[i0,hI]
   rw[e1];congr 1;funext i;show T.sh Qbx=T.sh _;rw[i0]
  rw[eq];refine aD E.g QaZ QdW ?_;refine vh (λδ=>δ=[some (.sh QnK),some (.sh (.lst (cs.map .int))),some (.lst (((gj es cs QaF).map .str).map T.sh)),some QqX,some QfX,some (.lst (((um es j).map .int).map T.sh)),some (.sh (.int (oO es cs j)))])
   (Cj E.u QfG QoC (oM _) (oM [])).1 (λf=>?_) (λf=>?_) ?_
  .have c:=er ((EA _ []).symm.trans f);refine ia (E.ll 2).1 rfl bE rfl (by rw[ed,ed];lia) (aj ?_);rw[oQ es cs j (by rw[kindB,ee c])];rw[show oO es cs j=-1 by rw[oO,ee c]];rfl
  .have c:¬ um es j=[]:=λz=>by
    rw[z]at f;exact absurd f Wp
   have w:=kA.2 c;refine vh (λδ=>δ=[some _,some _,some _,some _,some _,some _,some _])
    (bw (ak (bN Qwl ah Wp)) ah).1 (λa=>?_) (λa=>?_) (λδ e=>aj e)
   .have a:=er a;rw[hI]at a;refine ia (E.ll 2).1 rfl bE rfl (by rw[ed,ed];lia) (aj ?_);rw[oQ es cs j (by rw[kindB,cq c,ee a])];rw[show oO es cs j=-1 by rw[oO,cq c,ee a]];rfl
   .have a:=eR a;rw[hI]at a;have b1:=gL QsH (b:=((um es j).length:Nat)) We;have b2:=hz QsH (b:=((um es j).length:Nat)) We;refine ia (E.ll 2).1 rfl bE rfl (by rw[ed,ed];lia) ?_;refine aD E.g QaZ (aH (ay QfG (ak (bN (ak (cC Qwl ah #[Wp,Wp])) (ak (aQ (ed ..) E.bB QfG QP)) We)) (eV b1 b2)) rfl) (aj ?_);rw[oQ es cs j (by rw[kindB,cq c,cq a])];rw[show oO es cs j=(um es j).getD (cs.getD (j:Int).toNat 0 / 2 % ((um es j).length:Nat)).toNat 0 by rw[oO,cq c,cq a,hI]];rfl
  rintro δ rfl;refine ia (E.ll 3).1 rfl (v_ (E.ll 6).1) rfl (by rw[ed,ed];lia) (aj ?_);rw[E9 es cs j rfl];exact#[_,_,_,rfl]
 case fin=>
  rintro δ ⟨m,l,k,rfl⟩;have e:(cI 0 (es.length:Int).toNat).length=es.length:=by
   rw[cI,ed,gi];lia
  rw[e];exact aF (cT (aN QiQ (aN QqY bP)) aG) rfl
def F7{b:Bx}(E:iL jh 6 0 X CL) :
  iH X CL b jh:=by
 intro c h;dsimp only [jh]at h ⊢;refine aD E.g Qav (bN (ak (cC Qv ah #[Wp,Wp])) (ak (Ca ah ah #[Wp,Wp,Wp])) Wp) ?_;refine aM (bw (ak (bN Qv ah Wp)) ah).1 (λa=>?_) (λa=>aj ?_)
 .refine aF (jr ah QD) ?_;show T.sh _=T.sh QnL;unfold CY;rw[ee (er a)]
 .refine aF QcM ?_;show T.sh _=T.sh QnL;unfold CY;rw[cq (eR a)]
theorem Pr{b:Bx}(E:iL iV 7 1 X CL) :
  iH X CL b iV:=by
 rintro⟨a,c,n,ns⟩ h;obtain⟨h1,k,j⟩:=h;have e1:=gL c (show(ns.length:Int)≠0 by lia);have e2:=hz c (show 0<(ns.length:Int) by lia);apply aD E.g Qaa (cC Qbq ah #[Wp,Wp]);apply aD E.g Qam (aH (ay QA (ak (bN Qbq (ak (aQ (ed _) E.bB QA Qr)) We)) Qoc) rfl);apply aD E.g Qar (aP (au (jr (ak (bN QZ QmP We)) ah) (au (c_ Qgx QjN QP (ai (ak (cC Qbq ah #[Wp,Wp])) av) QoD rfl) aT)) aG);refine aM (bw (ak (bN (ak (cC Qbq ah #[Wp,Wp])) ah Wp)) ah).1 (λf=>?_) (λf=>aj ?_)
 .have d:=er f;apply aF (aP (au bE (au QfH aT)) aG);show T.sh _=T.sh _;rw[nO,ee d]
 have d:=eR f;refine aM (dM (cz (bw (ak (bN (ak (cC Qbq ah #[Wp,Wp])) ah Wp)) ah).1 (λ_=>eK (lO QD ah).1))) (λe=>?_) (λe=>aj ?_)
 .have i:a / 8 % 3=1/\0<n:=by
   simp at e;lia
  refine aF (aP (au bE (au (bN (ak (cC QZ ah #[Wp,Wp])) QD We) (au Qnn aT))) aG) ?_;show T.sh _=T.sh _;rw[nO,cq d,ee i];rfl
 .have i:¬ (a / 8 % 3=1/\0<n):=by
   simp at e;lia
  apply aF (aP (au bE Qj9) aG);show T.sh _=T.sh _;rw[nO,cq d,cq i];rfl
theorem VC{b:Bx}(E:iL oZ 8 0 X CL) :
  iH X CL b oZ:=by
 rintro⟨a,c,src,n,ns⟩ h;obtain⟨h1,i,e⟩:=h;have e1:=gL QjA (show(ns.length:Int)≠0 by lia);have e2:=hz QjA (show 0<(ns.length:Int) by lia);apply aD E.g Qam (jr (ak (bN Qbq QiB We)) ah);apply aD E.g Qar bE;refine aM (g5 Q1 Qap).1 (λd=>?_) (λd=>aj ?_)
 .refine aD E.g Qar (aH (ay Qle (ak (bN (ak (cC Qbq ah #[Wp,Wp])) ah Wp)) (dF (f:=D.str) (l:=["new","near","far"]) Str.empty (gL _ Wp) (hz _ Wp))) rfl) (aj ?_);have hm:TQ a c n=(["new","near","far"]:AT).getD (a / 8 % 3).toNat Str.empty:=by
   unfold TQ;rw[if_neg (by simpa [YV] using d)]
  apply aF (aP (au QcM (au (aH (ay QZ (ak (bN (ak (cC Qbq ah #[Wp,Wp])) QrX We)) Qoc) rfl) Qsn)) aG);show T.sh _=T.sh _;rw[y2,hm];rfl
 .have hm:TQ a c n="new":=by
   unfold TQ;rw[if_pos (by simpa [YV] using d)]
  apply aF (aP (au QcM (au (aH (ay QZ (ak (bN (ak (cC Qbq ah #[Wp,Wp])) QrX We)) Qoc) rfl) Qsn)) aG);show T.sh _=T.sh _;rw[y2,hm];rfl
theorem VD{b:Bx}(E:iL pe 9 1 X CL) :
  iH X CL b pe:=by
 rintro⟨a,c,n,m⟩ h;obtain⟨h1,k,j⟩:=h;have i:=gL (a / 8) (show 6≠0 by decide);apply aD E.g Qaa (cC Qbq ah #[Wp,Wp]);refine aM (lO Qmx ah).1 (λe=>?_) (λe=>aj ?_)
 .have d:=er e;apply aF (aP (au (aH (ay Qvm (ak (jr Qmx ah)) (dF (f:=D.str) (l:=["open","shut"]) _ We (by show a / 8 % 6-4<2;lia))) rfl) (au (bN Qbq QA We) aT)) aG);show T.sh _=T.sh _;rw[OS,ee d]
 .have d:=eR e;refine aD E.g Qam (aP (au (jr (ak (bN (ak (cC QZ ah #[Wp,Wp])) QmP We)) ah) (au (c_ (c) QjN Qr (ai Qbq av) QoD rfl) aT)) aG) ?_;refine aD E.g Qar (aP (au (jr (ak (bN (ak (cC QZ ah #[Wp,Wp])) QmP We)) ah) (au (c_ Qtm QjN Qr (ai (ak (bN (ak (B9 Qbq ah (.inr #[Wp,Wp]))) ah Wp)) av) QoD rfl) aT)) aG) ?_;apply aF (aP (au (aH (ay (bH (eO (au bE (au bE Qhx)) aG)) Qmx (dF (f:=D.str) (l:=["<","<=","=","!="]) _ i (by show a / 8 % 6<4;lia))) rfl) Qj9) aG);show T.sh _=T.sh _;rw[OS,cq d];rfl
theorem Pu{b:Bx}(E:iL lW 10 2 X CL) :
  iH X CL b lW:=by
 rintro⟨l,nb,nm,ns⟩ h;obtain⟨M,hb,⟨v,hm⟩,⟨q,C⟩,hn⟩:=h;refine aD E.g Qam QuC ?_;refine aD E.g Qar QuC ?_;refine aD E.g QaZ Qbe ?_;refine dU E.g Qgp (λj δ=>∃t s f a,δ=[some QxX,some (.sh (.int nb)),some (.sh (.int nm)),some Qmg,some (D5 ((l.take j).foldl Qdw TR).is),some (D5 ((l.take j).foldl Qdw TR).os),some (T6 ((l.take j).foldl Qdw TR).ws),t,s,f,a])
  (cg QaJ) #[_,_,_,_,rfl] (by rintro j δ ⟨_,_,_,_,rfl⟩;exact ew rfl) ?turn ?fin
 case turn=>
  rintro j d δ K ⟨t,s,f,a,rfl⟩;obtain⟨p,J,rfl⟩:=Lh K;have ok:=Ir (nb:=nb) (nm:=nm) hn v QoB 0 TR (T3 _ _);rw[Nat.zero_add]at ok;have I:(l.take j).length<=100:=by rw[hO];lia
  show cJ X CL b _ _ {nx:=λδ=>∃t s f a,δ=[_,_,_,_,some _,some _,some _,t,s,f,a],rt:=_,bk:=_,ct:=_};rw[jN J,h9];generalize (l.take j).foldl Qdw TR=o at ok ⊢;show cJ X CL b _ _ {nx:=λδ=>∃t s f a,δ=[_,_,_,_,some (D5 (j4 nb nm ns o p).is),some (D5 (j4 nb nm ns o p).os),some (T6 (j4 nb nm ns o p).ws),t,s,f,a],rt:=_,bk:=_,ct:=_};obtain⟨is,os,ws⟩:=o;obtain⟨n0,n1,n2,ii,oo,wl,ww⟩:=ok;dsimp only at n0 n1 n2 ii oo wl ww;refine aD E.g (E.ll 8) (bN (aq Qdp ah rfl) ah Wp) ?_;refine aD E.g (E.ll 9) (jr (ak (aQ (ed ..) E.bB QcI Qr)) ah) ?_;have A:((is.map D.tup).map T.sh).length=is.length:=by rw[ed,ed]
  have y:((os.map D.tup).map T.sh).length=os.length:=by rw[ed,ed]
  have G:((ws.map WY.d).map T.sh).length=ws.length:=by rw[ed,ed]
  refine aM (sf QdB ah).1 (λk=>?_) (λk=>?_)
  .have k:p.1 % 8<3:=er k;refine ia (E.ll 4).1 rfl QfU rfl (by rw[A];lia) ?_;refine ia (E.ll 5).1 rfl QfU rfl (by rw[y];lia) (aj (aj ?_));rw[j4,ee k,<- Fe,<- Fe];exact#[_,_,_,_,rfl]
  have k:¬ p.1 % 8<3:=eR k;refine aM (bw QdB ah).1 (λn=>?_) (λn=>?_)
  .have n:p.1 % 8=3:=er n;have m:=(ii _ (jH [] n0));have F:=m.l1;refine k6 (jc (aH (ay QcI QeK (T4 [] n0)) (yJ m)) (aP (au (c_ ((p.1,p.2,nb,ns)) (E.c 7) QP Qmy (by dsimp only [iV];exact(#[hb,q,C])) (by exact(jO p.1 p.2 nb hn).im)) aT) aG) (by intro z;cases z) (Nat.le_of_lt (bz (by rw[List.length_singleton];lia)))) (b8 (E.ll 4).1 rfl) QeK rfl rfl (by rw[A];exact T5 n0) (aj (aj (aj ?_)));rw[j4,cq k,ee n,<- Lp];exact#[_,_,_,_,rfl]
  have n:¬ p.1 % 8=3:=eR n;refine aM (bw QdB ah).1 (λr=>?_) (λr=>?_)
  .have r:p.1 % 8=4:=er r;have m0:0<os.length:=by lia
   have m:=(oo _ (jH [] m0));have F:=m.l1;rw[<- n2];refine k6 (jc (aH (ay QfG QeK (T4 [] m0)) (yJ m)) (aP (au (c_ ((p.1,p.2,nb,ns)) (E.c 7) QP Qmy (by dsimp only [iV];exact(#[hb,q,C])) (by exact(jO p.1 p.2 nb hn).im)) aT) aG) (by intro z;cases z) (Nat.le_of_lt (bz (by rw[List.length_singleton];lia)))) (b8 (E.ll 5).1 rfl) QeK rfl rfl (by rw[y];exact T5 m0) (aj (aj (aj (aj ?_))));rw[j4,cq k,cq n,ee r,<- Lp];exact#[_,_,_,_,rfl]
  have r:¬ p.1 % 8=4:=eR r;have L:∀{z:Bool},Nz QuD Qf5=z->z=false->0<ws.length:=λe z=>by
   subst z;rw[C4]at e;have:=eR e;exact kA.2 λw=>this (by rw[w];rfl)
  refine aM (p:=decide (p.1 % 8=5) || (Nz QuD Qf5 || !decide _)) (dM (fL (bw QdB ah).1 (λ_=>fL (Cj E.u Qim QoC (adS ww) (oM [])).1 (λH=>gJ (g5 (aq (ay Qim Qap (j6 mc (L rfl H))) ah rfl) QeK).1)))) (λi=>?_) (λi=>?_)
  .have i:p.1 % 8=5\/ws=[]\/(gI ws).src≠(is.length:Int)-1:=by
    rw[C4,nC,nC,kx]at i;obtain h|h|h:=i
    .exact .inl (er h)
    .exact .inr (.inl (q7.1 (er h)))
    .exact .inr (.inr (eR h))
   refine ia (E.ll 6).1 rfl (aJ (c_ ((p.1,p.2,(is.length:Int)-1,nm,ns)) (E.c 8) Q4 (ai Qdp (ai QeK Qeu)) (by dsimp only [oZ];exact(#[hm,q,C])) rfl) rfl) rfl (by rw[G];lia) (aj (aj (aj (aj (aj ?_)))));rw[j4,cq k,cq n,cq r,ee i,<- T7];exact#[_,_,_,_,rfl]
  have i:¬ (p.1 % 8=5\/ws=[]\/(gI ws).src≠(is.length:Int)-1):=by
   rw[C4,Bool.or_eq_false_iff,Bool.or_eq_false_iff,rr]at i;obtain⟨a1,a2,a3⟩:=i;rintro(h|h|h)
   .exact eR a1 h
   .exact eR a2 (by rw[h];rfl)
   .exact h (er a3)
  have B:0<ws.length:=kA.2 λz=>i Qnb;have m:=ww _ (jH mc B);have e1:=m.l1;have e2:=m.l2;refine aM (bw QdB ah).1 (λx=>?_) (λx=>?_)
  .have x:p.1 % 8=6:=er x;refine aD E.g (E.ll 10) Qrc ?_;refine k6 (aJ (jc (jc (mP QfE (by exact Oy) fQ QbC) (aP (au (jc QvO (aP (au (c_ ((p.1,p.2,nb,nm)) (E.c 9) Qao (ai Qdp Qdc) (by dsimp only [pe];exact(#[hb,v,hm])) (by exact(Fd p.1 p.2 nb v).im)) aT) aG) (by intro z;cases z) (Nat.le_of_lt (bz (by rw[List.length_singleton];lia)))) aT) aG) (by intro z;cases z) aG) (mP QfE (by exact G1) QbC fQ) (by intro z;cases z) aG) rfl) QvP Qap rfl rfl (by rw[G];exact mY B) (aj (aj (aj (aj (aj (aj ?_))))));rw[j4,cq k,cq n,cq r,cq i,ee x,<- Lq];exact#[_,_,_,_,rfl]
  .have x:¬ p.1 % 8=6:=eR x;refine aD E.g (E.ll 10) Qrc ?_;refine k6 (aJ (jc (jc (mP QfE (by exact Of) fQ QbC) (aP (au (jc QvO (aP (au (c_ ((p.1,p.2,nb,ns)) (E.c 7) QP Qmy (by dsimp only [iV];exact(#[hb,q,C])) (by exact(jO p.1 p.2 nb hn).im)) aT) aG) (by intro z;cases z) (Nat.le_of_lt (bz (by rw[List.length_singleton];lia)))) aT) aG) (by intro z;cases z) aG) (mP QfE (by exact NH) QbC fQ) (by intro z;cases z) aG) rfl) QvP Qap rfl rfl (by rw[G];exact mY B) (aj (aj (aj (aj (aj (aj ?_))))));rw[j4,cq k,cq n,cq r,cq i,cq x,<- Lq];exact#[_,_,_,_,rfl]
 case fin=>
  rintro δ ⟨t,s,f,a,rfl⟩;rw[ed,hR];exact aF (cT (aN QxF (aN QxG (aN QeG bP))) aG) rfl
theorem Jm{b:Bx}(E:iL ki 11 3 X CL) :
  iH X CL b ki:=by
 rintro⟨s,w⟩ h;dsimp only [ki]at h ⊢;obtain⟨f,hw⟩:=h;have hm:=Vm s;have hi:=yW s;obtain⟨e0,e1,e2⟩:=lX s;have n1:=pA s;refine aD E.g Q3 (aJ (cC (ak (c_ ((s,1)) Qc2 Qr Qdn (show(0:Int)<=1 by lia) rfl)) ah #[Wp,Wp]) (t2:=.sh (.int (WV s))) rfl) ?_;refine kY (p:=λ_=>true) (gg:=λd=>.sh Qw2) E.g Qaa (bu QkW Wl)
  (N7 E.gH (ai ah (ai (kJ (ak (XM E.g E.RY Q4 (ai (ak (aQ (ed ..) E.bB Qv Qao)) (ai ah av)))) (d2:=.int (mu s)) rfl) (ai ah av))) We QP) Qas (λC s0 e f0 a d hd=>?uF) (gz (bz (by rw[qE,ed,gi];unfold nQ;lia))) ?mz (by exact ew rfl) Qbp
 case uF=>
  obtain⟨i,hi,rfl⟩:=ef.1 hd;have hi:=gh.1 hi;unfold nQ at hi;exact#[rfl,λ_=>aP (au (aH (ay (nM 1) (dH 0) (eV (show(0:Int)<=2+(i:Int)*2 by lia) (show 2+(i:Int)*2<s.length by lia))) rfl)
   (au (c_ (s,2+(i:Int)*2+1) (pW Qc2) ju (ai (nM 1) (ai (ak (dR (dH 0) ah)) av)) (show(0:Int)<=2+(i:Int)*2+1 by lia) rfl) aT)) aG]
 case mz=>
 have eq1:((qE 2 (nQ 2 (mu s))).filter λ_=>true).map (λd=>T.sh Qw2)=((jy s).map WQ).map T.sh:=by
  rw[cP,qE,ej,jy,ej,ej];rfl
 rw[eq1];refine aD E.g Qam (wJ (ds:=(b7 s).map .int) (c_ (jy s) (E.c 2) QbB (ai Qcb av) (show(jy s).length<=100 by lia) (gf _))) ?_;refine aD E.g Qar (wJ (ds:=(m7 s).map .str) (c_ (s,(b7 s).length+4) (E.c 4) QbK (ai Qv (ai (kJ (ak (dR (ak (aQ (ed ..) E.bB Q1 Qao)) ah)) (d2:=.int (((b7 s).length+4:Nat):Int)) rfl) av)) (show(b7 s).length+4<=100 by lia) (jY _))) ?_;refine kY (p:=λ_=>true) (gg:=λd=>.sh QtZ) E.g QaZ (bu (.cons (E.ll 5).1 QfT QkW) Wl)
  (fZ E.gH (ak (bN QA ah Wp)) We QP) Qas (λC s0 e f0 a d hd=>?DC) (gz (bz (by rw[cI,ed,gi];lia))) ?pM (by exact ew rfl) Qbp
 case DC=>
  obtain⟨i,hi,rfl⟩:=ef.1 hd;have hi:=gh.1 hi;exact#[rfl,λ_=>aP (au (aH (ay (nM 1) (dH 0) (dF Str.empty (show(0:Int)<=0+(i:Int) by lia) (show 0+(i:Int)<(m7 s).length by lia))) rfl)
   (au (c_ (bU s (3+2*(0+(i:Int)))) (pW QjN) ju (ai (ak (c_ (s,3+2*(0+(i:Int))) (pW Qc2) ju (ai (nM 2) (ai (ak (dR ah (ak (B9 ah (dH 0) (.inl #[Wp,Wp]))))) av)) (show(0:Int)<=3+2*(0+(i:Int)) by lia) rfl)) av) trivial rfl) aT)) aG]
 case pM=>
 have eq2:((cI 0 (WV s % 4).toNat).filter λ_=>true).map (λd=>T.sh QtZ)=((eZ s).map j0).map T.sh:=by
  rw[cP,cI,ej,eZ,ej,ej];rfl
 rw[eq2];refine aD E.g Qgp (c_ (b7 s,FQ s) (E.c 5) Qct (ai Q1 (ai (kJ (bH (jF (ds:=[.int (WV s / 4)]) (oz:=(ux (jy s)).map .int) (bH (ds:=[.int (WV s / 4)]) (cT (aN (cC QA ah #[Wp,Wp]) bP) aG))
   (bH (aJ (gY (p:=λd=>decide (d.q3.iZ % 8<3)) (g:=λd=>.sh (.int d.at2.iZ)) Qa7 E.g.calm (cg (Me (E.ll 3).1 rfl)) Qas (λC s0 e f0 a d hd=>?VF) (gz (bz (by rw[ed];lia)))) (t2:=.lst (((ux (jy s)).map .int).map T.sh)) ?eq3)) rfl (fB _) (gz (bz (by rw[ed,hJ,rH];have:=qb (jy s);lia))))) (d2:=.lst ((FQ s).map .int)) rfl) av)) ?akl ?cl3) ?F8
 case VF=>
  obtain⟨p,_,rfl⟩:=ef.1 hd;exact#[(sf (ak (bN Qiu ah Wp)) ah).1,λ_=>(aH Qiu rfl)]
 case eq3=>
  rw[la,ej,ux,ej,ej];rfl
 case akl=>
  dsimp only [kh];exact#[We,e2]
 case cl3=>
  show T.clean (.lst [_,_])=true;rw[iS,T.cG,T.cG,T.cG,jY,gf];rfl
 case F8=>
 have ow:=Vp s w;refine aD E.g (E.ll 8) (fS (d:=.lst [.lst ((xE s w).is.map .tup),.lst ((xE s w).os.map .tup),.lst ((xE s w).ws.map WY.d)]) (c_ (jy s,(eZ s).length+w,(b7 s).length+w,m7 s) (E.c 10) QdQ (ai QZ (ai (kJ (ak (dR (ak (aQ (n:=(eZ s).length) (ed ..) E.bB Qim Qao)) QD)) (d2:=.int (((eZ s).length+w:Nat):Int)) rfl) (ai (kJ (ak (dR (ak (aQ (ed ..) E.bB Q1 Qao)) QD)) (d2:=.int (((b7 s).length+w:Nat):Int)) rfl) Qf2))) ?akm ?cl4) ?fr4) ?VG
 case akm=>
  dsimp only [lW];have:=pB s;exact#[We,We,#[We,We],#[We,We],Vo s]
 case cl4=>
  show T.clean QqN=true;rw[iS,T.cG,T.cG,T.cG,T.cG,D5,D5,T6,bJ (qf ow.ii),bJ (qf ow.oo),bJ (C3 ow.ww)];rfl
 case fr4=>
  show T.ez QqN=_;rw[T.ez,T.fK,T.fK,T.fK,T.fK,D5,D5,T6,bF,bF,bF]
 case VG=>
 refine aF (Tq (cT (aN QeG (aN (aJ (gM QaO (gP _) fQ (e7 (kJ (ak (dR (ak (aQ (ed ..) E.bB Q1 Qao)) ah)) (d2:=.int (((b7 s).length+1:Nat):Int)) rfl))) (t2:=.lst (((og s).map .str).map T.sh)) (by rw[gO,Vq];rfl)) (aN Qqr (aN QfH (aN Qqr bP))))) aG) (v_ (E.ll 8).1) aG) ?_;rfl
theorem VH{b:Bx}(E:EX yZ (gN pC) (cN pC) 12 0 X CL) :
  L3.Hg X CL b pC yZ m8 ng nh m9:=by
 rintro⟨y,p,z,c,x⟩ h;dsimp only [ng,m8,nh,m9]at h ⊢;obtain⟨H,n0,n1,z0,W⟩:=h;obtain⟨n,hn⟩:∃n,n=p.ks.length:=#[_,rfl];rw[<- hn]at H n0 n1;refine aD E.g Qaa (aQ (n:=n) ((ed ..).trans hn.symm) E.bB Qko Qr) ?_;have Z:=gL c (b:=(n:Int)) We;have a1:=hz c (b:=(n:Int)) We;refine aD E.g Qam (bN QA QZ We) ?_;obtain⟨i,hi⟩:∃i:Nat,(i:Int)=c % (n:Int):=#[(c % (n:Int)).toNat,We];have N4:i<n:=by lia
 have V:(c % (n:Int)).toNat=i:=by lia
 rw[<- hi];refine vh (λδ=>∃o,δ=[some (.pin y (p.f1 z c).t),some QeO,some QeH,some QeQ,some QeN,o,none]) (dM (cz (bw (ak (bN QD ah Wp)) ah).1 (λhb=>(eK (lO QZ ah).1)))) (λq=>?_) (λq=>aj ?_) ?_
 .rw[gm]at q;have l:=er q.1;have Y:=gL c (b:=(n:Int)-1) We;have b1:=hz c (b:=(n:Int)-1) We;refine aD E.g Qar (aJ (dR ah (ak (bN QA (ak (jr QZ ah)) We))) (t2:=.sh Qw3) (by unfold toF;rw[<- hn])) ?_;have t0:1<=toF p c/\toF p c<n:=by unfold toF;rw[<- hn];lia
  have c0:=gL QxH (b:=toF p c) We;have c1:=hz QxH (b:=toF p c) We;have QV:=H.nl;obtain⟨t,O⟩:∃t:Nat,(t:Int)=toF p c:=#[(toF p c).toNat,We];have U:(toF p c).toNat=t:=by lia
  refine k6 (aJ (aH (ay (i6 (p:=[.ix 1]) Qru rfl rfl (bF _)) (ak (bN (ak (cC QA QZ (#[We,We]))) QaO We)) (dF Str.empty c0 (show c / (n:Int) % toF p c<(p.ns.length:Int) by lia))) rfl) rfl) Qru QaO rfl rfl (by rw[lZ,<- O];exact xF We) (aj ?_);rw[lY];refine#[some (.sh Qw3),?_];unfold FP.f1;rw[ee #[l,We],U,<- hn];rfl
 .unfold FP.f1;rw[cq λK=>?_]
  .exact#[none,rfl]
  .rw[eC K.1,eC (show(1:Int)<n by lia)]at q;cases q
 rintro δ ⟨A,rfl⟩;have r:=g1 (z:=z) (c:=c) H;have I:n=(p.f1 z c).ks.length:=r.kl.symm;generalize G:p.f1 z c=p1 at r I ⊢;refine vh (λδ=>δ=[some (.pin y (p1.f2 z).t),some QeO,some QeH,some QeQ,some QeN,A,none]) (dM (cz (bw (ak (bN (ak (cC QD ah #[Wp,Wp])) ah Wp)) ah).1 (λ_=>eK (lO (ak (aQ (n:=p1.bs.length) (ed ..) E.bB Qkp Qr)) ah).1))) (λq=>?_) (λq=>aj ?_) ?_
 .rw[gm]at q;have l:=er q.1;have S:=r.b3;refine k6 (aP (ds:=[.str (p1.bs.getD 0 (Str.empty,0)).1,.int _]) (au (aH (aq (ds:=[.str (p1.bs.getD 0 (Str.empty,0)).1,.int (p1.bs.getD 0 (Str.empty,0)).2]) (ay Qkp ah (dF (f:=j0) (Str.empty,0) (k:=0) We We)) ah b5) rfl) (au (aH (aq (ds:=[.str _,.int _]) (ay Qkp Qap (j6 (f:=j0) (Str.empty,0) We)) ah cY) rfl) aT)) aG) (fH (j:=0) Qeh rfl rfl ah rfl) Qap rfl rfl (by rw[lZ];exact mY We) (aj ?_);rw[show(T.sh (.tup [.str (p1.bs.getD 0 (Str.empty,0)).1,.int _]))=T.sh (j0 ((p1.bs.getD 0 (Str.empty,0)).1,(p1.bs.getD (p1.bs.length-1) (Str.empty,0)).2)) from rfl,lY];unfold FP.f2;rw[ee #[l,We]];rfl
 .unfold FP.f2;rw[cq λK=>?_];rw[eC K.1,eC (show(1:Int)<p1.bs.length by lia)]at q;cases q
 rintro δ rfl;have B:=g2 (z:=z) r;have w:n=(p1.f2 z).ks.length:=B.kl.symm;generalize F:p1.f2 z=p2 at B w ⊢;refine vh (λδ=>δ=[some (.pin y (p2.f3 z c).t),some QeO,some QeH,some QeQ,some QeN,A,none]) (bw (ak (bN (ak (cC QD ah #[Wp,Wp])) ah Wp)) ah).1 (λq=>?_) (λq=>aj ?_) ?_
 .have l:=er q;have C:=B.sl;have J:mD (p2.ks.map D.str) (i:Int)=some (.str (p2.ks.getD i Str.empty)):=(dF Str.empty We We).trans (by rw[hI]);refine k6 QdW QkL Q1 rfl rfl (by rw[lZ];exact xF We) ?_;rw[lY];refine k6 (aJ (aH (ay (bH (eO QaR aG)) (ak (KS E.zb (ak (oi (ay (ds:=p2.ks.map D.str) Qko Q1 J) az).2) QP)) ?ix) rfl) (t2:=.sh (.str (if p2.ks.getD i Str.empty="leaf" then "all" else "leaf"))) rfl) (fH (j:=2) Qeh rfl rfl ah rfl) Q1 rfl rfl (by rw[lZ];exact xF We) (aj ?_)
  case ix=>
   by_cases h0:p2.ks.getD i Str.empty="leaf"
   .rw[eC h0,ee h0];rfl
   .rw[eP h0,cq h0];rfl
  rw[lY];unfold FP.f3;rw[ee l,ee l,<- w,V];rfl
 .have l:=eR q;unfold FP.f3;rw[cq l,cq l]
 rintro δ rfl;have s:=g3 (z:=z) (c:=c) B n0;have v:n=(p2.f3 z c).ks.length:=s.kl.symm;have L:p.fx z c=(p2.f3 z c).f4 z c:=by unfold FP.fx;rw[G,F]
 rw[L];generalize p2.f3 z c=a at s v ⊢;have C:=s.sl;have last:∀{δ:Ap},a.one z=none->(∃u,δ=[some (.pin y a.t),some QeO,some QeH,some QeQ,some QeN,A,u])->T.sh Qoe=T.sh (.bl (a.one z).isSome)/\Keeps δ [.pin y (a.f4 z c).t,.sh Qcn,.sh (.int c)]:=λe ⟨u,h⟩=>by
  subst h;have M:a.f4 z c=a:=by unfold FP.f4;rw[e]
  rw[e,M];exact#[rfl,S8 (ds:=[_,_])]
 refine aM (bw (ak (bN (ak (cC QD ah #[Wp,Wp])) ah Wp)) ah).1 (λq=>?_) (λq=>aj ?_)
 .have l:=er q;refine dU E.g QaZ (λj δ=>(∃u,δ=[some (.pin y a.t),some QeO,some QeH,some QeQ,some QeN,A,u])/\∀m,m<j->a.uj m=false) (fZ E.gH QZ We Q4) #[#[_,rfl],λm hm=>absurd hm QuT] (λj δ ⟨⟨_,e⟩,_⟩=>by subst e;exact ew rfl) ?turn ?fin
  case turn=>
   rintro j d δ R ⟨⟨u,rfl⟩,hb⟩;obtain⟨rfl,N⟩:=jb R;rw[i0];have N:j<n:=by lia
   have J:mD (a.ks.map D.str) (j:Int)=some (.str (a.ks.getD j Str.empty)):=(dF Str.empty We We).trans (by rw[hI]);have P:mD (a.ss.map D.int) (j:Int)=some (.int (a.ss.getD j 0)):=(eV We We).trans (by rw[hI]);refine aM (p:=a.uj j) (dM (cz (aZ (ay Qko Qbg J) az).1 (λ_=>eK (g5 (ay (i6 (p:=[.ix 4]) QkL rfl rfl (bF _)) Qbg P) Qap).1))) (λh1=>?_) (λh1=>aj (aj ?_))
   .refine k6 (aJ (bN (ak (cC QA ah #[Wp,Wp])) (ak (dR QZ (ak (bN (ak (cC QD ah #[Wp,Wp])) ah Wp)))) We) (t2:=.sh (.int Qq2)) (by rw[<- v])) QkL Qbg rfl rfl (by rw[lZ];exact xF We) ?_;rw[lY];have e1:a.one z=some j:=by
     unfold FP.one;rw[ee l];exact rF.2 #[h1,gh.2 We,λm hm=>by rw[hb m hm];rfl]
    have M:a.f4 z c={a with ss:=a.ss.set j Qq2}:=by unfold FP.f4;rw[e1]
    rw[e1,M];exact aF d9 #[rfl,S8 (ds:=[_,_])]
   .refine#[#[_,rfl],λm hm=>?_];by_cases e:m=j
    .rw[e];exact h1
    .exact hb m We
  case fin=>
   rintro δ ⟨⟨u,rfl⟩,hb⟩;have e:(cI 0 (n:Int).toNat).length=n:=by
    rw[cI,ed,gi];lia
   rw[e]at hb;have e1:a.one z=none:=by
    unfold FP.one;rw[ee l];exact List.find?_range_eq_none.2 λm hm=>by rw[hb m We];rfl
   exact aj (aF d9 (last e1 #[_,rfl]))
 .have l:=eR q;exact aF d9 (last (cq l) #[_,rfl])
noncomputable def Pw:cX yZ ["parts","bits","cell"] (aE pC):=p6
def F9{b:Bx}(E:iL gu 12 0 X CL) :
  iH X CL b gu:=by
 rintro⟨bn,d⟩ h;dsimp [gu]at h ⊢;obtain⟨o,a,k,rfl,i,j⟩:=h;have m:=Iv j;have l:(k.natAbs:Int).natAbs<10 ^ 30:=j;have n:=j7 l;have hn:=j8 o a.toNat;refine aM (bw QaN Qap).1 (λc=>?_) (λc=>aj ?_)
 .apply aF (Cp E.Vy Qr QaN m);rw[wW,ee (er c)]
  try rfl
 have c:=eR c;have i:0<=a/\a<bn.length:=by
  obtain e|e:=i
  .exact absurd e c
  .exact e
 apply aD E.g Q3 (aH (ay Qv QaN (dF _ i.1 i.2)) rfl);refine aM (bw QaN ah).1 (λf=>?_) (λf=>aj ?_)
 .apply aF QcE;rw[wW,cq (c),ee (er f)]
 have f:=eR f;have e1:=sH k;apply aF (bO (ak (bO QA (ay (d:=.str (yK k)) Qvm (ak (KS E.zb (ak (lO QaN ah).2) QP)) (by
  by_cases h0:0<k
  .rw[eC h0,yK,ee h0];rfl
  .rw[eP h0,yK,cq h0];rfl)) (by rw[gc,e1];omega))) (ak (Cp E.Vy Qr (kJ (ak (acR E.RV Q4 QaN)) (by congr 1;split<;>omega)) (Iv l))) (by rw[gc,str_len,e1];show _+(sI _).length<=_;omega))
 rw[wW,cq (c),cq (f)]
 try rfl
theorem Ga{b:Bx}(E:iL fE 13 1 X CL) :
  iH X CL b fE:=by
 rintro⟨bn,d⟩ h;dsimp [fE]at h ⊢;obtain⟨f,hd⟩:=h;have e1:(" ":Str).length=1:=rfl;obtain⟨n,rfl,hn⟩|⟨k,t,rfl,j,e⟩|⟨n,t,rfl,hn,e⟩:=hd
 .refine aM (aZ QaN az).1 (λa=>?_) QfB;apply aF (bO az QaN (by rw[gc];show 5+n.length<=_;lia));rw[Iw]
 .have i:=kN f e;have l:=j8 f k.toNat;have e3:("put":Str).length=3:=rfl;refine aM (aZ QaN az).1 QfB (λa=>aj ?_);apply aD E.g Q3 (aH QaN rfl);refine aM (aZ QaN az).1 (λa=>?_) QfB;refine aD E.g Q3 (aH (ay Qv QaN (dF Str.empty j.1 j.2)) rfl) (aj ?_);apply aF (bO (ak (bO (ak (bO Qwm QA (by rw[gc,str_len,e3,e1];lia))) az (by rw[gc,str_len,str_len,e3,e1];lia))) QpV (by rw[gc,str_len,str_len,str_len,e3,e1];lia))
  try rfl
 .have i:=kN f e;have e3:("say":Str).length=3:=rfl;refine aM (aZ QaN az).1 QfB (λa=>aj ?_);apply aD E.g Q3 (aH QaN rfl);refine aM (aZ QaN az).1 QfB (λa=>aj ?_);apply aF (bO (ak (bO (ak (bO Qwm QA (by rw[gc,str_len,e3,e1];lia))) az (by rw[gc,str_len,str_len,e3,e1];lia))) QpV (by rw[gc,str_len,str_len,str_len,e3,e1];lia))
  try rfl
theorem Jo{b:Bx}(E:iL iW 14 1 X CL) :
  iH X CL b iW:=by
 rintro⟨bn,ns,d⟩ h;dsimp only [iW]at h ⊢;obtain⟨e,hn,hd⟩:=h;have e1:(" ":Str).length=1:=rfl;obtain⟨w,k,rfl,hw,k0,k1⟩|⟨w,s,t,rfl,hw,i,g⟩:=hd
 .have l:=j8 hn k.toNat;have f:w.length<=4:=by obtain rfl|rfl:=hw<;>decide +kernel
  refine aM (p:=true) QqR (λa=>?_) (λa=>by cases a);refine aF (bO (ak (bO QbT az (by rw[gc,e1];lia))) (ay QD QbT (dF Str.empty k0 k1)) (by rw[gc,str_len,e1];lia)) ?_;show T.sh _=T.sh Qvn;rw[T8]
 .have h1:=kN e i;have j:=kN e g;have f:w.length<=2:=by
   have:∀x∈(["<","<=","=","!="]:AT),x.length<=2:=by decide +kernel
   exact this w hw
  refine aM (p:=false) QqR (λa=>by cases a) (λa=>aj ?_);refine aF (bO (ak (bO (ak (bO (ak (bO (ak (c_ (bn,s) (E.c 12) QP Qt0 (by dsimp only [gu];exact#[e,i]) rfl)) az (by rw[sizeLine_eq,e1];show(eY bn s).length+1<=_;lia))) QbT (by rw[sizeLine_eq,str_len,e1];show(eY bn s).length+1+_<=_;lia))) az (by rw[sizeLine_eq,str_len,str_len,e1];show(eY bn s).length+1+_+1<=_;lia))) (ak (c_ (bn,t) (E.c 12) QP Qt0 (by dsimp only [gu];exact#[e,g]) rfl)) (by rw[sizeLine_eq,str_len,str_len,str_len,e1];show(eY bn s).length+1+_+1+(eY bn t).length<=_;lia)) ?_;show T.sh _=T.sh Qvn;rw[Iz]
  try rfl
theorem Jp{b:Bx}(E:iL iX 15 2 X CL) :
  iH X CL b iX:=by
 rintro⟨bn,ns,w⟩ h;dsimp only [iX]at h ⊢;obtain⟨hb,hn,hw⟩:=h;have q1:w.qs.length<=40:=by have:=hw.l;lia
 have Z:w.ds.length<=40:=by have:=hw.l;lia
 have Y:=oY hw.s;have e5:(" and ":Str).length=5:=rfl;have o:∀{x y:Str},x.length<=100000->y.length<=100000->x.length+y.length<=sizeLine:=λh1 H=>by rw[gc];lia
 refine aD E.g Qaa (aJ (bO az QbT (o Wl We)) (t2:=.sh (.str QcK)) rfl) ?_;have h0:(jn "on" [w.sg]).length<=30:=by
  show("on" ++ " " ++ w.sg:Str).length<=30;rw[str_len];show 3+_<=30;lia
 refine aD E.g Qam bE ?_;have step:∀(f g lf I:Str),lf=" " ++ f++" "->I=" " ++ g++" "->∀(a:Str) (l:AT) (x:Str),jn a (wY f g l)++(if l=[] then lf else I)++x=jn a (wY f g QcV):=λf g lf I h1 H a l x=>by
  rw[Ua,sJ];by_cases e:l=[]
  .rw[ee e,ee e];exact y1 _ _ _ _ h1
  .rw[cq e,cq e];exact y1 _ _ _ _ H
 refine dU E.g Qar (λj δ=>∃m k,δ=[some QuU,some Qmg,some (.sh w.d),some (.sh (.str (jn QcK (wY "if" "and" ((w.qs.take j).map Qcm))))),some (.sh (.str (if (w.qs.take j).map Qcm=[] then " if " else " and "))),m,k])
  (mJ Qwn) #[_,_,rfl] (by rintro j δ ⟨_,_,rfl⟩;exact ew rfl) ?turn ?fin
 case turn=>
  rintro j d δ n ⟨m,k,rfl⟩;have hd:=hw.q d (ff n);have V:=wX hb hn hd;have v:(w.qs.take j).length<=40:=by rw[hO];lia
  have C:∀x∈(w.qs.take j).map Qcm,x.length<=110:=λx u=>by
   obtain⟨y,r,rfl⟩:=ef.1 u;exact wX hb hn (hw.q y (lL r))
  show cJ X CL b _ _ {nx:=λδ=>∃m k,δ=[_,_,_,some (.sh QcY),some (.sh _),m,k],rt:=_,bk:=_,ct:=_};rw[jN n,fb,List.map_singleton];have G:((w.qs.take j).map Qcm).length<=40:=by rw[ed];exact v
  generalize (w.qs.take j).map Qcm=l at C G ⊢;have A:=uy (B:=110) (wY "if" "and" l) QcK QkF;rw[qg]at A;have O:(if l=[] then " if " else " and ":Str).length<=5:=by split<;>decide +kernel
  refine aD E.g Qaa (aJ (bO QuE (ak (c_ (bn,ns,d) (E.c 14) Qr (ai Qv (ai QD Qf2)) (by dsimp only [iW];exact#[hb,hn,hd]) rfl)) (o (by rw[str_len];lia) (by show(kG bn ns d).length<=_;lia))) (t2:=.sh (.str (jn QcK (wY "if" "and" (l++[kG bn ns d]))))) (by rw[<- step "if" "and" " if " " and " rfl rfl])) ?_;refine aD E.g Qam bE (aj ?_);rw[cq (show ¬ l++[kG bn ns d]=[] fromλz=>by cases l<;>cases z)];exact#[_,_,rfl]
 case fin=>
 rintro δ ⟨m,k,rfl⟩;rw[hR];have C:∀x∈w.qs.map Qcm,x.length<=110:=λx u=>by
  obtain⟨y,r,rfl⟩:=ef.1 u;exact wX hb hn (hw.q y r)
 have U:(jn QcK Qlj).length<=10000:=by
  have:=uy (B:=110) Qlj QcK QkF;rw[qg,ed]at this;lia
 have W:C6 bn ns w=jn (jn (jn QcK Qlj) QkE) (Y3 ns w++D6 w):=by
  rw[<- sJ,<- sJ,<- sJ];unfold C6 ma;rw[eJ];rfl
 rw[W];generalize jn QcK _=R at U ⊢;refine aD E.g Qam bE ?_;refine dU E.g QaZ (λj δ=>∃m k,δ=[some QuU,some Qmg,some (.sh w.d),some (.sh (.str (jn R (wY "do" "then" ((w.ds.take j).map Qc1))))),some (.sh (.str (if (w.ds.take j).map Qc1=[] then " do " else " then "))),m,k])
  (mJ Qwn) #[_,_,rfl] (by rintro j δ ⟨_,_,rfl⟩;exact ew rfl) ?Gb ?fin2
 case Gb=>
  rintro j d δ n ⟨m,k,rfl⟩;have hd:=vA (hw.d d (ff n));have V:=jf hb hd;have v:(w.ds.take j).length<=40:=by rw[hO];lia
  have C:∀x∈(w.ds.take j).map Qc1,x.length<=110:=λx u=>by
   obtain⟨y,r,rfl⟩:=ef.1 u;exact jf hb (vA (hw.d y (lL r)))
  show cJ X CL b _ _ {nx:=λδ=>∃m k,δ=[_,_,_,some _,some _,m,k],rt:=_,bk:=_,ct:=_};rw[jN n,fb,List.map_singleton];have G:((w.ds.take j).map Qc1).length<=40:=by rw[ed];exact v
  generalize (w.ds.take j).map Qc1=l at C G ⊢;have A:=uy (B:=110) (wY "do" "then" l) R QkF;rw[qg]at A;have O:(if l=[] then " do " else " then ":Str).length<=6:=by split<;>decide +kernel
  refine aD E.g Qaa (aJ (bO QuE (ak (c_ (bn,d) (E.c 13) QP (ai Qv (ai Qbg av)) (by dsimp only [fE];exact#[hb,hd]) rfl)) (o (by rw[str_len];lia) (by show(fU bn d).length<=_;lia))) (t2:=.sh (.str (jn R (wY "do" "then" (l++[fU bn d]))))) (by rw[<- step "do" "then" " do " " then " rfl rfl])) ?_;refine aD E.g Qam bE (aj ?_);rw[cq (show ¬ l++[fU bn d]=[] fromλz=>by cases l<;>cases z)];exact#[_,_,rfl]
 case fin2=>
 rintro δ ⟨m,k,rfl⟩;rw[hR];have G:∀x∈w.ds.map Qc1,x.length<=110:=λx u=>by
  obtain⟨y,r,rfl⟩:=ef.1 u;exact jf hb (vA (hw.d y r))
 have L:(jn R QkE).length<=20000:=by
  have:=uy (B:=110) QkE R (qh (P:=λx=>x.length<=110) Wl Wl G);rw[qg,ed]at this;lia
 generalize jn R _=R2 at L ⊢;refine aM (bw QbT Qap).1 (λp=>?_) (λp=>aj ?_)
 .have p:w.tg=-1:=er p;have hm:w.md="new":=by
   obtain⟨_,e⟩|⟨e,_⟩:=hw.t
   .exact e
   .lia
  refine aF QcL ?_;rw[Y3,D6,ee p,ee hm];rfl
 have p:¬ w.tg=-1:=eR p;obtain⟨N,hm⟩:Qlv/\w.md∈(["new","near","far"]:AT):=by
  obtain⟨e,_⟩|e:=hw.t
  .exact absurd e p
  .exact e
 have QV:=j8 hn w.tg.toNat;have M:(" to ":Str).length=4:=rfl;obtain⟨j,n,J⟩:∃j:Nat,(["new","near","far"]:AT)[j]? = some w.md/\∀i,i<j->(["new","near","far"]:AT)[i]? ≠ some w.md:=by
  have:∀x∈(["new","near","far"]:AT),∃j∈[0,1,2],(["new","near","far"]:AT)[j]? = some x/\∀i∈List.range j,(["new","near","far"]:AT)[i]? ≠ some x:=by decide +kernel
  obtain⟨j,_,h1,H⟩:=this _ hm;exact#[j,h1,λi hi=>H i (gh.2 hi)]
 have K:j<3:=(hH.1 n).1;have S:=by
  have:∀j∈List.range 3,(([""," near"," far"]:AT).getD j Str.empty).length<=5:=by decide +kernel
  exact this j (gh.2 K)
 refine aF (bO (ak (bO (ak (bO QZ az (o We (by rw[M];lia)))) (ay QD QbT (dF Str.empty N.1 N.2)) (o (by rw[str_len,M];lia) We))) (ay (ds:=([""," near"," far"]:AT).map .str) Qle (ak (A8 (l:=["new","near","far"]) Qle QbT n J)) (dF (f:=D.str) Str.empty (Int.natCast_nonneg j) (show((j:Nat):Int)<3 by lia))) (o (by rw[str_len,str_len,M];lia) (by rw[hI];lia))) ?_;rw[Y3,D6,cq p];show T.sh (.str (R2++" to " ++ _++([""," near"," far"]:AT).getD ((j:Nat):Int).toNat Str.empty))=T.sh QcY;rw[hI,sJ,y1 R2 "to" _ " to " rfl];generalize jn R2 ["to",ns.getD w.tg.toNat Str.empty]=F;have:j=0\/j=1\/j=2:=by lia
 obtain rfl|rfl|rfl:=this
 .have e:w.md="new":=(gv n).symm;rw[ee e];show T.sh (.str (F++Str.empty))=T.sh (.str F);rw[Str.append_empty]
 .have e:w.md="near":=(gv n).symm;rw[e,cq Wl];show T.sh (.str (F++(" " ++ "near")))=T.sh (.str (F++" " ++ "near"));rw[i4]
 .have e:w.md="far":=(gv n).symm;rw[e,cq Wl];show T.sh (.str (F++(" " ++ "far")))=T.sh (.str (F++" " ++ "far"));rw[i4]
theorem aeF{b:Bx}(E:iL y9 16 3 X CL) :
  iH X CL b y9:=by
 intro p h;dsimp only [y9]at h ⊢;have k:g7 p:=h;have e1:=k.e1;obtain⟨hb,hn⟩:=Tf k;have s:∀{x y:Str},x.length<=100000->y.length<=100000->x.length+y.length<=sizeLine:=λh1 h2=>by rw[gc];lia
 have es:(" ":Str).length=1:=rfl;have M:p.ns.length=p.c.es.length+1:=by
  show(p.c.ns++[p.xn]).length=_;rw[fg,hJ,k.nl]
 have ll:∀l:Ch,((l.map λr=>D.str Qit).map T.sh).length=l.length:=λl=>by rw[ed,ed]
 refine aD E.g Q3 QfK ?_;refine kY (p:=λ_=>true) (gg:=λd=>.sh QrY) E.g Qaa Qa7 (cg QfK) Qas (λC s0 H0 f0 b' d hd=>?uF) (gz (bz (by rw[ed];have:=k.b3;lia))) ?mz (by exact ew rfl) Qbp
 case uF=>
  obtain⟨q,H,rfl⟩:=ef.1 hd;have b1:(j0 q).q3.toS.length<=21:=hb _ (e6 _ (ef.2 #[q,H,rfl]));have b2:=k.bk q H;have b3:=j7 b2;have B:("box ":Str).length=4:=rfl;exact#[rfl,λ_=>aJ (bO (ak (bO (ak (bO az Qiu (s (by rw[B];lia) We))) az (s (by rw[str_len,B];lia) (by rw[es];lia)))) (ak (Cp E.Vy ju Qiu (Iv b2))) (s (by rw[str_len,str_len,B,es];lia) (by show(sI q.2).length<=_;lia))) rfl]
 case mz=>
 have eq1:T.lst (((p.c.bs.map j0).filter λ_=>true).map (λd=>T.sh QrY))=p.ls p.c.br:=by
  rw[cP,ej];unfold PT.ls CH.br;rw[ej,ej];refine congrArg T.lst (hZ λq _=>?_);show T.sh (.str (IA q))=T.sh (.str (RW.line p.bn p.ns (.bx q.1 q.2)));rw[Mf]
 rw[eq1];have q0:∀{R t:Ch},R++t=p.rows->R.length<=4964:=λe=>by
  have:=k.rl;rw[<- e,fg]at this;lia
 refine dU E.g Qam (λj δ=>∃(R:Ch) (L K J o m:QcB),δ=[some Qgi,some Qfu,some Qfv,some Qgq,L,K,J,o,m]/\R++((List.range p.c.es.length).drop j).flatMap p.mr=p.rows)
  (fZ E.gH (ak (aQ (ed ..) E.bB Qig QP)) (by rw[k.kl];lia) Qr) #[_,_,_,_,_,_,rfl,rfl] (λj δ ⟨_,_,_,_,_,_,e,_⟩=>by subst e;exact ew rfl) ?turn ?fin
 case turn=>
  rintro j d δ hj ⟨R,L,K,J,o,m,rfl,f⟩;obtain⟨rfl,A⟩:=jb hj;rw[i0];have A:j<p.c.es.length:=by rw[k.kl]at A;lia
  have m0:(0:Int)<=j:=by lia
  have mk:(j:Int)<p.c.ks.length:=by rw[k.kl];lia
  have Y:(j:Int)<p.ns.length:=by rw[M];lia
  have ms:(j:Int)<p.c.ss.length:=by rw[k.sl];lia
  have em:(j:Int).toNat=j:=hI j;have ae:=k.deep j m0 We;have WX:(Txt.mul " " ((cW p.c.es j).length:Int)).length<=50:=by
   have:=Lv (cW p.c.es j).length;lia
  have aa:(p.c.ks.getD j Str.empty).length<=21:=by
   have:=k.kinds j A;simp only[eg,fw,hG]at this;obtain e|e|e:=this<;>rw[e]<;>decide
  have WM:=j8 hn j;have G:p.ns.getD j Str.empty=p.c.ns.getD j Str.empty:=by
   show(p.c.ns++[p.xn]).getD j Str.empty=_;rw[eD,eD,km (by rw[k.nl];exact A)]
  rw[iU (h5 A),ik,PT.mr,hS,List.append_cons]at f;refine aD E.g Qar (aJ (Ye az (ak (aQ (ed ..) E.bB (bH (c_ (p.c.es,(j:Int)) (E.c 1) Q4 (ai Qig (ai Q1 av)) (show jd p.c.es/\(0:Int)<=j/\(j:Int)<p.c.es.length/\p.c.es.length<=1000 from#[k.pre.1,We,We,We]) (gf _))) QP)) (adW We)) rfl) ?_;refine aD E.g QaZ (aJ (bO (ak (bO (ay Qig Q1 (dF Str.empty m0 mk)) az (s (by rw[em];lia) (by rw[es];lia)))) (ay QA Q1 (dF Str.empty m0 Y)) (s (by rw[em,str_len,es];lia) (by rw[em];lia))) (by rw[em,G])) ?_;rw[G]at WM;generalize F:RW.md (cW p.c.es j).length (p.c.ks.getD j Str.empty) (p.c.ns.getD j Str.empty) (rP p.ns QfL) QfL=I at f;refine vh (λδ=>∃t:Str,t.length<=100/\Txt.mul " " ((cW p.c.es j).length:Int)++t=I.line p.bn p.ns/\δ=[some Qgi,some Qfu,some Qfv,some Qgq,some QfX,some (.sh (.str (Txt.mul " " ((cW p.c.es j).length:Int)))),some QiW,o,m])
   (g5 (kJ QsI (d2:=.int QfL) (by rw[em])) Qap).1 (λv=>?_) (λv=>?_) ?_
  .have v:¬ p.c.ss.getD j 0=-1:=by
    rw[kx]at v;exact eR v
   obtain⟨s0,s1⟩:0<=p.c.ss.getD j 0/\p.c.ss.getD j 0<p.ns.length:=by
    obtain⟨_,a,c⟩|⟨_,a⟩:=k.one j A
    .exact#[a,c]
    .exact absurd a v
   have hs:=j8 hn (p.c.ss.getD j 0).toNat;obtain⟨W,V⟩:=uD k.n s0 s1;refine aD E.g QaZ (bO (ak (bO Qbg az (s (by rw[str_len,str_len,es];lia) (by rw[es];lia)))) (ay QA (kJ QsI (d2:=.int QfL) (by rw[em])) (dF Str.empty s0 s1)) (s (by rw[str_len,str_len,str_len,es];lia) We)) (aj ?_);refine#[_,?_,?_,rfl]
   .rw[str_len,str_len,str_len,str_len,es];lia
   .rw[<- F,<- FI V,W]
  .have v:p.c.ss.getD j 0=-1:=by
    rw[rr]at v;exact er v
   refine aj #[_,?_,?_,rfl]
   .rw[str_len,str_len,es];lia
   .rw[<- F,<- FH (show rP p.ns QfL="" from ee v)]
  rintro δ ⟨t,ht,et,rfl⟩;have hf:=q0 f;rw[fg,hJ]at hf;refine ia (E.ll 3).1 rfl (aJ (bO QaO Qbg (s We We)) (t2:=.sh (.str (I.line p.bn p.ns))) (by rw[et])) rfl (by rw[ll];lia) ?_;rw[xA];generalize R++[I]=R at f;have O:∃q,p.c.is[j]? = some q:=#[_,ft (by rw[k.il];exact A)];have N:∃q,p.c.os[j]? = some q:=#[_,ft (by rw[k.ol];exact A)];obtain⟨q,ex⟩:=O;obtain⟨u,P⟩:=N;obtain⟨lq,H⟩:=k.is q (ff ex);obtain⟨lu,hu⟩:=k.os u (ff P);have aI:mD Qvo (j:Int)=some (.tup q):=cL (by rw[fR,ex];rfl);have aO:mD Qvp (j:Int)=some (.tup u):=cL (by rw[fR,P];rfl);have B:(" in ":Str).length=4:=rfl;have U:(" out ":Str).length=5:=rfl;rw[eD (l:=p.c.is),eD (l:=p.c.os),ex,P,Option.getD_some,Option.getD_some,eJ,eJ]at f;refine dU E.g Qgp (λi δ=>∃(R:Ch) (o m:QcB),δ=[some Qgi,some Qfu,some Qfv,some Qgq,some QfX,some _,some QiW,o,m]/\R++((q.drop i).map (.io (cW p.c.es j).length "in")++(u.map QrZ++((p.c.ws.filter λw=>decide QiR).map Qli++((List.range p.c.es.length).drop QaF).flatMap p.mr)))=p.rows)
   (mJ (iR QfK Q1 aI)) #[_,_,_,rfl,f] (λj δ ⟨_,_,_,e,_⟩=>by subst e;exact ew rfl) ?t1 ?f1
  case t1=>
   rintro i d δ hi ⟨R,o,m,rfl,f⟩;have hd:=vA (H d Qgy);have SX:=jf hb hd;rw[iU hi,eM,hS,List.append_cons]at f;have hf:=q0 f;rw[fg,hJ]at hf;refine ia (E.ll 3).1 rfl (aJ (bO (ak (bO QaO az (s We (by rw[B];lia)))) (ak (c_ (p.bn,d) (E.c 13) Qao Qt1 (by dsimp only [fE];exact#[hb,hd]) rfl)) (s (by rw[str_len,B];lia) (by show(fU p.bn d).length<=_;lia))) (t2:=.sh (.str (RW.line p.bn p.ns (.io (cW p.c.es j).length "in" d)))) (by rw[<- xu (lit:=" in ") Wl])) rfl (by rw[ll];lia) (aj ?_);rw[xA];exact#[_,_,_,rfl,f]
  case f1=>
  rintro δ ⟨R,o,m,rfl,f⟩;rw[rb]at f;refine dU E.g Qgp (λi δ=>∃(R:Ch) (o m:QcB),δ=[some Qgi,some Qfu,some Qfv,some Qgq,some QfX,some _,some QiW,o,m]/\R++((u.drop i).map QrZ++((p.c.ws.filter λw=>decide QiR).map Qli++((List.range p.c.es.length).drop QaF).flatMap p.mr))=p.rows)
   (mJ (iR QfK Q1 aO)) #[_,_,_,rfl,f] (λj δ ⟨_,_,_,e,_⟩=>by subst e;exact ew rfl) ?t2 ?f2
  case t2=>
   rintro i d δ hi ⟨R,o,m,rfl,f⟩;have hd:=vA (hu d Qgy);have SX:=jf hb hd;rw[iU hi,eM,hS,List.append_cons]at f;have hf:=q0 f;rw[fg,hJ]at hf;refine ia (E.ll 3).1 rfl (aJ (bO (ak (bO QaO az (s We (by rw[U];lia)))) (ak (c_ (p.bn,d) (E.c 13) Qao Qt1 (by dsimp only [fE];exact#[hb,hd]) rfl)) (s (by rw[str_len,U];lia) (by show(fU p.bn d).length<=_;lia))) (t2:=.sh (.str (RW.line p.bn p.ns (.io (cW p.c.es j).length "out" d)))) (by rw[<- xu (lit:=" out ") Wl])) rfl (by rw[ll];lia) (aj ?_);rw[xA];exact#[_,_,_,rfl,f]
  case f2=>
  rintro δ ⟨R,o,m,rfl,f⟩;rw[rb]at f;refine dU E.g (E.ll 8) (λi δ=>∃(R:Ch) (o m:QcB),δ=[some Qgi,some Qfu,some Qfv,some Qgq,some QfX,some _,some QiW,o,m]/\R++(((p.c.ws.drop i).filter λw=>decide QiR).map Qli++((List.range p.c.es.length).drop QaF).flatMap p.mr)=p.rows)
   (cg QfK) #[_,_,_,rfl,f] (λj δ ⟨_,_,_,e,_⟩=>by subst e;exact ew rfl) ?t3 ?f3
  case t3=>
   rintro i d δ hi ⟨R,o,m,rfl,f⟩;rw[fR]at hi;obtain⟨w,S,rfl⟩:=jK.1 hi;rw[iU S]at f;have hw:=(k.wn w (ff S)).1;have Z:=Mb hb hn hw;refine aM (bw (aq QdB ah rfl) Q1).1 (λz=>?_) (λz=>?_)
   .rw[ph (p:=λw:WY=>decide QiR) z,eM,hS,List.append_cons]at f;have hf:=q0 f;rw[fg,hJ]at hf;refine ia (E.ll 3).1 rfl (aJ (bO (ak (bO QaO az (s We (by rw[es];lia)))) (ak (c_ (p.bn,p.ns,w) (E.c 15) QbB (ai QD (ai QA (ai QdB av))) (by dsimp only [iX];exact#[hb,hn,hw]) rfl)) (s (by rw[str_len,es];lia) (by show(C6 p.bn p.ns w).length<=_;lia))) (t2:=.sh (.str (RW.line p.bn p.ns (.wy (cW p.c.es j).length w)))) (by rw[<- Mg λz=>hw.t.elim (·.2) λe=>by have:=e.1;lia])) rfl (by rw[ll];lia) (aj (aj ?_));rw[xA];exact#[_,_,_,rfl,f]
   .rw[pj (by rw[z];decide)]at f;exact aj (aj #[_,_,_,rfl,f])
  case f3=>
  rintro δ ⟨R,o,m,rfl,f⟩;rw[ed,rb]at f;exact aj #[_,_,_,_,_,_,rfl,f]
 case fin=>
  rintro δ ⟨R,L,K,J,o,m,rfl,f⟩;rw[cI,ed,gi,hI,rv (by rw[gi,k.kl];exact eA _),List.flatMap_nil,f6]at f;exact aF QqY (by rw[f])
def zl{b:Bx}(E:iL gw 17 0 X CL) :
  iH X CL b gw:=by
 rintro⟨d,n,m⟩ h;dsimp only [gw]at h ⊢;have hd:m5 m d:=h;have cn:¬ ("put":Str)="call":=by decide +kernel
 have cs:¬ ("say":Str)="call":=by decide +kernel
 have ps:¬ ("say":Str)="put":=by decide +kernel
 obtain⟨x,rfl,_⟩|⟨k,t,rfl,i,a,c,rfl,f,e⟩|⟨x,t,rfl,g,a,c,rfl,f,e⟩:=hd
 .refine aM (aZ Qbo az).1 (λ_=>?_) (λz=>absurd (show("call":Str)="call" from rfl) (eR z));exact aF d9 (by rw[O5])
 .refine aM (aZ Qbo az).1 (λz=>absurd (er z) cn) (λ_=>aj ?_);refine aF (KN (q:=decide ((n:Int)<=a)) (g6 (q:=decide ((n:Int)<=k)) (aZ Qbo az).2 (λ_=>gK (xW Qdj QD).2)) Qp4) ?_;show T.sh (.bl (decide (("put":Str)="put")&&decide ((n:Int)<=k) || decide ((n:Int)<=a)))=_;rw[FL,eC rfl,kf]
 .refine aM (aZ Qbo az).1 (λz=>absurd (er z) cs) (λ_=>aj ?_);refine aF (KN (q:=decide ((n:Int)<=a)) (g6 (q:=false) (aZ Qbo az).2 (λz=>absurd (er z) ps)) Qp4) ?_;show T.sh (.bl (decide (("say":Str)="put")&&false || decide ((n:Int)<=a)))=_;rw[Vj,h7,Bool.false_or]
theorem Al{b:Bx}(E:iL gR 18 1 X CL) :
  iH X CL b gR:=by
 rintro⟨w,n,k,nb,nm⟩ h;dsimp [gR]at h ⊢;have hw:=h;have r:=hw.l;refine aM (xW Qx0 QA).1 (λz=>?_) (λz=>aj ?_)
 .exact aF d9 (by unfold IZ;rw[z];rfl)
 refine dU E.g Qaa (λj δ=>(∃o,δ=[some _,some _,some _,o])/\(w.qs.take j).any (O4 n k)=false)
  (mJ Qw4) #[#[_,rfl],rfl] (λj δ ⟨⟨_,e⟩,_⟩=>by subst e;exact ew rfl) ?turn ?fin
 case turn=>
  rintro j d δ f ⟨⟨o,rfl⟩,hb⟩;have hd:=hw.q d (ff f);have m:=ff f;have next:O4 n k d=false->(w.qs.take _).any _=false:=λe=>by
   rw[jN f,List.any_append,hb,jq,e];rfl
  have hit:O4 n k d=true->T.sh _=T.sh QwW:=λe=>by
   unfold IZ;rw[rf.2 #[d,m,e],Bool.true_or,Bool.or_true]
  obtain⟨u,x,rfl,_⟩|⟨u,s,t,rfl,_,⟨a,c,rfl,_⟩,⟨a2,c2,rfl,_⟩⟩:=hd
  .refine aM (dM (fL (dM (cz Qho (λ_=>eK (xW QiS QA).1))) (λ_=>gJ (dM (cz (q:=false) Qho (λz=>by cases z)))))) (λy=>?_) (λy=>aj (aj ?_))
   .exact aF d9 (hit ((Bool.or_false _).symm.trans y))
   .exact#[#[_,rfl],next ((Bool.or_false _).symm.trans y)]
  .have em:decide (n<=if a2 > a then a2 else a)=O4 n k (.tup [.str u,.tup [.int a],.tup [.int a2]]):=by
    show _=decide (n<=max a a2);split
    .rw[Int.max_eq_right We]
    .rw[Int.max_eq_left We]
   refine aM (dM (fL (dM (cz (q:=false) Qho (λz=>by cases z))) (λ_=>gJ (dM (cz Qho (λ_=>eK (xW (ak (XO E.g E.RU QP (ai (aq QiS ah b5) (ai (aq Qno ah b5) av)))) QD).1)))))) (λy=>?_) (λy=>aj (aj ?_))
   .exact aF d9 (hit (em▸y))
   .exact#[#[_,rfl],next (em▸y)]
 case fin=>
 rintro δ ⟨⟨o,rfl⟩,hb⟩;rw[hR]at hb;refine aF (Y2 (ak (aQ rfl E.bB (bH (aJ (gY (p:=uE n) QkG E.g.calm (mJ (mH QaJ ah ug)) Qas (λC s0 A f0 v d hd=>?Ls) (gz (bz We))) rfl)) Qr)) ah) ?_
 case Ls=>
  exact#[cO (aJ (c_ (d,n,nb) (pW (E.c 17)) ju (ai (dH 0) QnC) Qjq rfl) rfl),λ_=>v_ (E2 0)]
 unfold IZ;rw[z,hb];congr 2;cases e:w.ds.any _ with
 | false=>
  have:=u6.1 e;rw[o9.2 this];rfl
 | true=>
  obtain⟨d,hd,i⟩:=rf.1 e;have:0<(w.ds.filter _).length:=kA.2 λy=>by
   have:=hY.2 #[hd,i];rw[y]at this;cases this
  exact eC We
theorem Am{b:Bx}(E:iL gS 19 2 X CL) :
  iH X CL b gS:=by
 intro p h;dsimp [gS]at h ⊢;have n:=h;have e1:=n.e1;refine aD E.g Qav (aQ (ed ..) E.bB QbV Qr) ?_;refine aD E.g Q3 (aQ ((ed ..).trans n.kl) E.bB Qdg Qr) ?_;apply aD E.g Qaa QcM;refine dU E.g Qam (λj δ=>∃(k:Nat) (r m f:QcB),δ=[some _,some _,some _,some QeP,r,m,f]/\Vi k (((List.range _).drop j).flatMap _)=p.row)
  (fZ E.gH QA We QP) #[_,_,_,_,rfl,Y1 p] (λj δ ⟨_,_,_,_,e,_⟩=>by subst e;exact ew rfl) ?turn ?fin
 case turn=>
  rintro j d δ A ⟨k,r,m,f,rfl,a⟩;obtain⟨rfl,o⟩:=jb A;have o:j<p.c.es.length:=by lia
  rw[i0];have ms:(j:Int)<p.c.ss.length:=by rw[n.sl];lia
  obtain⟨q,ex⟩:∃q,p.c.is[j]? = some q:=#[_,ft (n.il▸o)];obtain⟨u,s⟩:∃q,p.c.os[j]? = some q:=#[_,ft (n.ol▸o)];obtain⟨H,x⟩:=n.is q (ff ex);obtain⟨G,v⟩:=n.os u (ff s);have C:mD Qvo _=some _:=cL (by rw[fR,ex];rfl);have B:mD Qvp j=some _:=cL (by rw[fR,s];rfl);rw[iU (h5 o),ik,PT.mb,eD (l:=p.c.is),eD (l:=p.c.os),ex,s,<- fb,hS,eJ]at a;refine aD E.g Qaa QlY ?_;refine aM (xW (kJ (ay Qx1 Q1 (eV We ms)) (by rw[hI])) QA).1 (λz=>?_) (λz=>aj ?_)
  .rw[z]at a;exact aF QcL (by rw[<- a];rfl)
  rw[z]at a;refine dU E.g Qar (λi δ=>∃(k:Nat) (m f:QcB),δ=[some _,some _,some _,some QeP,some _,m,f]/\Vi k (((q++u).drop i).map _++((p.c.ws.filter _).map _++((List.range _).drop _).flatMap _))=p.row)
   (mJ (SW (iR Qpm Q1 C) (iR Qpm Q1 B) (by rw[gc];lia))) #[_,_,_,rfl,a] (λj δ ⟨_,_,_,e,_⟩=>by subst e;exact ew rfl) ?t1 ?f1
  case t1=>
   rintro i d δ hi ⟨k,m,f,rfl,a⟩;rw[iU hi,eM]at a;have F:=(eB.1 Qgy).elim (x d) (v d);refine aD E.g Qaa QlY ?_;refine aM (cO (aJ (c_ (d,p.c.bs.length,p.bn.length) (E.c 17) Q4 (ai QaO Qbd) F rfl) rfl)) (λz=>?_) (λz=>aj (aj ?_))
   .rw[z]at a;exact aF QcL (by rw[<- a];rfl)
   .rw[z]at a;exact#[_,_,_,rfl,a]
  case f1=>
  rintro δ ⟨k,m,f,rfl,a⟩;rw[rb]at a;refine dU E.g QaZ (λi δ=>∃(k:Nat) (m f:QcB),δ=[some _,some _,some _,some QeP,some _,m,f]/\Vi k (((p.c.ws.drop i).filter _).map _++((List.range _).drop _).flatMap _)=p.row)
   (cg Qpm) #[_,_,_,rfl,a] (λj δ ⟨_,_,_,e,_⟩=>by subst e;exact ew rfl) ?t2 ?f2
  case t2=>
   rintro i d δ hi ⟨k,m,f,rfl,a⟩;rw[fR]at hi;obtain⟨w,t,rfl⟩:=jK.1 hi;rw[iU t]at a;refine aM (bw (aq Qbg ah b5) Q1).1 (λz=>?_) (λz=>?_)
   .rw[ph (p:=λw:WY=>decide (w.src=j)) z,eM]at a;refine aD E.g Qaa QlY ?_;refine aM (cO (aJ (c_ (w,p.c.bs.length,p.c.es.length,p.bn.length,p.ns.length) (E.c 18) Qao (ai Qbg Qdc) (n.wn w (ff t)).1 rfl) rfl)) (λy=>?_) (λy=>aj (aj (aj ?_)))
    .rw[y]at a;exact aF QcL (by rw[<- a];rfl)
    .rw[y]at a;exact#[_,_,_,rfl,a]
   .rw[pj (by rw[z];decide)]at a;exact aj (aj #[_,_,_,rfl,a])
  case f2=>
  rintro δ ⟨k,m,f,rfl,a⟩;rw[ed,rb]at a;exact aj #[_,_,_,_,rfl,a]
 case fin=>
  rintro δ ⟨k,r,m,f,rfl,a⟩;rw[cI,ed,gi,hI,rv (Nat.le_of_eq gi)]at a;exact aF fW (by rw[<- a];rfl)
theorem Jr{b:Bx}(E:iL ko 20 0 X CL) :
  iH X CL b ko:=by
 intro p h;dsimp only [ko]at h ⊢;obtain⟨f,G⟩:=h;have e1:=f.e1;rw[Ze f G,Bool.not_not];have l:(p.c.ks.map D.str).length=p.c.es.length:=(ed ..).trans f.kl;refine dU E.g Qav (λj δ=>(∃r o,δ=[some _,r,o])/\∀m,m<j->p.bd m=false)
  (fZ E.gH Qsj We Qr) #[#[_,_,rfl],λm hm=>absurd hm QuT] (λj δ ⟨⟨_,_,e⟩,_⟩=>by subst e;exact ew rfl) ?turn ?fin
 case turn=>
  rintro j d δ I ⟨⟨r,o,rfl⟩,hb⟩;obtain⟨rfl,s⟩:=jb I;have s:j<p.c.es.length:=by lia
  rw[i0];have em:=hI j;refine kY (p:=λd=>decide Qlf) (gg:=T.sh) E.g Q3 (bu (.cons (E.ll 1).1 QfT QkW) Wl)
   (fZ E.gH Qsj We Qr) Qas (λC s0 M f0 J d hd=>?Ls) (gz (bz (by simp[cI];lia))) ?rest Qbj Qbp
  case Ls=>
   obtain⟨i,hi,rfl⟩:=ef.1 hd;have K:=by simpa using hi
   exact#[(bw (ay (ay (nM 2) ah ug) (dH 0) (eV (show 0<=0+(i:Int) by lia) (show 0+(i:Int)<p.c.es.length by lia))) (nM 1)).1,λ_=>v_ (E2 0)]
  case rest=>
  have eq:((cI 0 (p.c.es.length:Int).toNat).filter λd=>decide Qlf).map (T.sh)=((um p.c.es j).map .int).map T.sh:=by
   unfold cI um;rw[la,ej,ej,ej];have e1:((λd=>decide Qlf)∘λi:Nat=>D.int (0+i))=λi:Nat=>decide (p.c.es.getD i 0=j):=by
    funext i;show decide (p.c.es.getD (0+(i:Int)).toNat 0=j)=_;rw[i0,hI]
   rw[e1];congr 1;funext i;show T.sh Qbx=T.sh _;rw[i0]
  rw[eq];have k:mD (p.c.ks.map D.str) j=some _:=(dF Str.empty We (by rw[f.kl];lia)).trans (by rw[em]);have hit:p.bd j=true->T.sh _=T.sh (.bl ((List.range _).any p.bd)):=λe=>by
   rw[rf.2 #[j,gh.2 s,e]]
  have a:p.bd j=((!decide _) || (decide _ && !decide _)):=rfl;refine aM (acF (ak (aZ Qmz az).2) (kJ (ak (Cj E.u Qcg QoC (oM _) (oM [])).2) (congrArg _ (EA _ [])))).1 (λz=>?_) (λz=>aj ?_)
  .exact aF d9 (hit (by rw[a,z];rfl))
  have next:p.bd j=false->∀m,m<j+1->p.bd m=false:=λe m hm=>by
   by_cases q:m=j
   .rw[q];exact e
   .exact hb m We
  by_cases h1:p.c.ks.getD j Str.empty="one"
  .obtain⟨s0,s1⟩:=Mj f G s h1;obtain⟨e,e2,B⟩:=IF f s0 s1;obtain⟨y,F⟩:∃y,y=p.ns.getD (p.c.ss.getD j 0).toNat Str.empty:=#[_,rfl];rw[<- F]at e B;have n:=x4 B;have x:=by
    show(p.c.ns++[p.xn])[p.c.ns.idxOf y]? = some y;rw[km n,ft n,List.getElem_idxOf n]
   have H:∀i,i<p.c.ns.idxOf y->p.ns[i]? ≠ some y:=λi hi q=>by
    have q:(p.c.ns++[p.xn])[i]? = some y:=q;rw[km We]at q;obtain⟨L,A⟩:=hH.1 q;have w:=List.not_of_lt_findIdx hi;rw[A]at w;simp at w
   have v:mD _ j=some _:=(eV We (by rw[f.sl];lia)).trans (by rw[em]);have t:mD (p.ns.map D.str) _=some (.str y):=(dF _ s0 (by show _<((p.c.ns++[p.xn]).length:Int);rw[fg];lia)).trans (by rw[F]);refine aM (dM (cz (aZ Qmz az).1 (λ_=>eK (KZ (ak (A8 Qfr (ay Qfr (ay Qx1 QD v) t) x H)) Qcg rfl rfl).1))) (λw=>?_) (λw=>aj (aj #[#[_,_,rfl],next ?_]))
   .exact aF d9 (hit (by rw[a,z,e];exact w))
   .rw[a,z,e];exact w
  .refine aM (dM (cz (aZ Qmz az).1 (λw=>absurd (er w) h1))) (λw=>by rw[h7]at w;cases w) (λ_=>aj (aj #[#[_,_,rfl],next ?_]));rw[a,z,eP h1];rfl
 case fin=>
  rintro δ ⟨⟨r,o,rfl⟩,hb⟩;have e:(cI 0 (p.c.es.length:Int).toNat).length=p.c.es.length:=by
   rw[cI,ed,gi];lia
  rw[e]at hb;exact aF d9 (by rw[u6.2 λm hm=>by rw[hb m QoA];decide])
theorem RO{b:Bx}(E:iL FU 21 3 X CL) :
  iH X CL b FU:=by
 intro p h;dsimp [FU]at h ⊢;have a:=h;have e1:=a.e1;have b3:=a.b3;apply aD E.g Qav (aJ (c_ p (E.c 19) Qr Qbu a rfl) rfl);unfold PT.q2;refine aM (lO QD ah).1 (λz=>?_) (λz=>aj ?_)
 .rw[ee We];exact aF (eO (au fW (au QcM aT)) aG) rfl
 have e:p.row=0:=by lia
 rw[cq We];refine aM (cO (aJ (c_ p (E.c 20) QP Qbu #[a,e] rfl) rfl)) (λy=>?_) (λy=>aj ?_)
 .exact if_pos (by simpa using y)▸aF QhP rfl
 rw[if_neg (by simpa using y)];apply aD E.g Q3 (aQ ((ed ..).trans a.kl) E.bB Qdg Q4);have tk:p.ns.take p.c.es.length=p.c.ns:=by
  show(p.c.ns++[p.xn]).take _=_;rw[<- a.nl,List.take_left]
 refine aM (sf (ak (rD E.g E.bB E.Vz (bH (aJ (gM Qfr (gP _) fQ (e7 QA)) (by rw[gO,Ja,tk]))) (by rw[a.nl];lia) Q4 Qao)) QA).1 (λw=>?_) (λw=>aj ?_)
 .rw[<- a.nl,Mm]at w;exact if_pos (by simpa using w)▸aF QhP rfl
 rw[<- a.nl,Mm]at w;rw[if_neg (by simpa using w)];refine aM (sf (ak (rD (ns:=p.c.bn) E.g E.bB E.Vz (bH (aJ (gY (p:=λ_=>true) (g:=λd=>.sh QjL) Qa7 E.g.calm (cg (iR QaJ ah b5)) Qas (λC s0 i f0 f d hd=>?Ls) (gz (bz (by rw[ed];lia)))) ?eq)) (by rw[CH.bn,ed];lia) Q4 Qao)) (ak (aQ (n:=p.c.bn.length) ((ed ..).trans (ed ..).symm) E.bB QbV Q4))).1 (λu=>?_) (λu=>aj ?_)
 case Ls=>
  obtain⟨q,_,rfl⟩:=ef.1 hd;exact#[rfl,λ_=>aH Qwo rfl]
 case eq=>
  rw[cP,ej];unfold CH.bn;rw[ej,ej];rfl
 .rw[Mm]at u;exact if_pos (by simpa using u)▸aF QhP rfl
 rw[Mm]at u;rw[if_neg (by simpa using u)];exact aF QhP rfl
theorem VL{b:Bx}(E:iL sW 22 0 X CL) :
  iH X CL b sW:=by
 intro l h;have r:l.length<=1000:=h;apply aD E.g Qav K3;refine t7 E.g (sy E.g.nd E.g.calm Q3 Qaa) (λj δ=>∃c a,δ=[some _,some (.iY (Dj QoB)),c,a])
  (oB Str.empty E.jm QaJ Qr) #[_,_,rfl]
  (λj δ ⟨_,_,e⟩=>by subst e;intro i hi;simp at hi;obtain rfl|rfl:=hi<;>exact ew rfl) ?turn ?fin
 case turn=>
  rintro j d δ n ⟨c,a,rfl⟩;obtain⟨i,rfl,hi,q,_,_,_⟩:=ua n;have p:=by
   have:=gh.1 q;exact this
  have o:=by
   rw[h5 (by have:=(hH.1 hi).1;rwa [gi]at this)]at hi;exact(gv hi).symm
  subst o;have f:l.take Qai=l.take i++[l.getD i Str.empty]:=by
   rw[iq,eD,ft p];rfl
  have hlen:(l.take i).length=i:=by rw[hO];lia
  refine#[_,rfl,?_];refine wL (Yp (.inr _) (E.ll 1).1 rfl QZ QcE ?_ (by have:=Zj (l.take i);lia)) Qug;rw[f,U6,Dk];by_cases hm:l.getD i Str.empty∈l.take i
  .rw[ee hm,ee (by rfl),ee hm]
  .rw[cq hm,cq WA,cq hm,vo,cq,hlen];intro z;obtain⟨m,k,f⟩:=rf.1 z;have:=Dk (l.take i) QuV;rw[cq hm]at this;exact List.find?_eq_none.1 (Option.map_eq_none_iff.1 this) m k f
 case fin=>
  rintro δ ⟨c,a,rfl⟩;have e:l.take ((List.range l.length).map λ(i:Nat)=>D.tup [.int i,D.str QuV]).length=l:=by
   rw[ed,gi,hR]
  rw[e];exact aF QeF rfl
variable{W:XK}
def Gd{b:Bx}(E:EX g8.N (gN g8.st) (cN g8.st) 24 2 Qac CL) :
  Af X W CL b g8:=by
 rintro⟨l,x,r⟩ h a;dsimp only [g8,xk]at h a ⊢;refine aM (aZ Qv az).1 (λq=>?_) (λq=>aj ?_)
 .have q:x="":=er q;refine aF QdW #[?_,?_]
  .rw[pk,eC q];rfl
  .rw[pz,ee q]
 have q:¬ x="":=eR q;have hv:=Dk l x;have d:pk l x=decide QbY:=by rw[pk,eP q];rfl
 rw[d]at a ⊢;refine aM (X3 QeZ (by exact E.u) Qv QD rfl) (λz=>?_) (λz=>aj ?_)
 .have hm:¬ x∈l:=λm=>by
   rw[hv,ee m]at z;cases z
  exact Tp E.g.calm (E.c 23) Qr (ai QA av) (a (eP hm))
 have hm:x∈l:=by
  by_cases m:x∈l
  .exact m
  .rw[hv,cq m]at z;cases z
 rw[ee hm]at hv;refine aF (aH (XZ QeZ (by exact E.u) QD Qv hv) rfl) #[eC hm,?_];rw[pz,cq q]
def uG{b:Bx}(E:EX dB.N (gN dB.st) (cN dB.st) 25 3 Qac CL) :
  Af X W CL b dB:=by
 rintro⟨l,n,k,r⟩ h d;dsimp only [dB,xk]at h d ⊢;cases a:pk l n with
 | true=>exact aF (aP (ds:=[.int (pz l n),.int k]) (au (c_ (l,n,r) (E.c 24).give Qr QqH #[trivial,a] rfl) (au (aH (aq (ds:=[.str n,.int k]) Qv ah cY) rfl) aT)) aG) #[rfl,rfl]
 | false=>exact oJ (mV (cB (l,n,r) Qgr Qr QqH #[trivial,a] (d a))) WA
def uH{b:Bx}(E:EX dD.N (gN dD.st) (cN dD.st) 26 4 Qac CL) :
  Af X W CL b dD:=by
 rintro⟨l,q,r⟩ h e;dsimp [dD]at h e ⊢;cases q with
 | call n=>
  refine aM (aZ Qbo az).1 QhR (λ_=>aj ?_);refine aM (aZ Qbo az).1 QhR (λ_=>aj ?_);exact aF QaJ #[rfl,rfl]
 | put d n k=>
  refine aM (aZ Qbo az).1 (λ_=>?_) Qlm;have f:vS.ok l (.put d n k)=(pk l d&&pk l n):=rfl;rw[f]at e ⊢;cases h1:pk l d with
  | false=>exact oJ (aN bE (mV (cB (l,d,r) Qgr Qr (ai Qdj Qdc) #[trivial,h1] (e (by rw[h1];rfl))))) WA
  | true=>
   cases a:pk l n with
   | true=>exact aF (aP (au bE (au QpY QpQ)) aG) #[rfl,rfl]
   | false=>exact oJ (aN bE (aN QpY (mV (cB (l,n,k,r) QjE QP Qwp #[trivial,a] (e (by rw[h1,a];rfl)))))) WA
 | say x n k=>
  refine aM (aZ Qbo az).1 QhR (λ_=>aj ?_);refine aM (aZ Qbo az).1 (λ_=>?_) Qlm;cases a:pk l n with
  | true=>exact aF (aP (au bE (au QxI QpQ)) aG) #[a,rfl]
  | false=>exact oJ (aN bE (aN QxI (mV (cB (l,n,k,r) QjE QP Qwp #[trivial,a] (e a))))) WA
def vV{b:Bx}(E:EX dY.N (gN dY.st) (cN dY.st) 27 4 Qac CL) :
  Af X W CL b dY:=by
 rintro⟨bs,ms,q,r⟩ h a;dsimp [dY]at h a ⊢;cases q with
 | ur w x=>
  have hw:w∈(["open","shut"]:AT):=h;refine aM (gb Qbo QaR).1 (λ_=>?_) Qk9;cases d:pk ms x with
  | true=>exact aF (aP (au Qdy (au (c_ (ms,x,r) (E.c 24).give Qr QvQ #[trivial,d] rfl) aT)) aG) #[d,rfl]
  | false=>exact oJ (aN Qdy (mV (cB (ms,x,r) Qgr Qr QvQ #[trivial,d] (a d)))) WA
 | num w n k n2 k2=>
  have hw:=h;refine aM (gb Qbo QaR).1 (λz=>absurd (er z) hw) (λ_=>aj ?_);have f:vU.ok bs ms (.num w n k n2 k2)=(pk bs n&&pk bs n2):=rfl;rw[f]at a ⊢;cases h1:pk bs n with
  | false=>exact oJ (aN Qdy (mV (cB (bs,n,k,r) QjE QP (ai Qdj Qfw) #[trivial,h1] (a (by rw[h1];rfl))))) WA
  | true=>
   cases e:pk bs n2 with
   | false=>exact oJ (aN Qdy (aN Qqt (mV (cB (bs,n2,k2,r) QjE QP QvR #[trivial,e] (a (by rw[h1,e];rfl)))))) WA
   | true=>exact aF (aP (au Qdy (au Qqt (au (c_ (bs,n2,k2,r) (E.c 25).give QP QvR #[trivial,e] rfl) aT))) aG) #[rfl,rfl]
def vW{b:Bx}(E:EX dZ.N (gN dZ.st) (cN dZ.st) 28 5 Qac CL) :
  Af X W CL b dZ:=by
 rintro⟨bs,ms,w,r⟩ h e;dsimp [dZ]at h e ⊢;have hw:=h;have k:Hj.ok bs ms w=(w.as.all _&&(w.ds.all _&&pk ms _)):=rfl;rw[k]at e ⊢;refine E7 (p:=λ_=>true) (ok:=λd=>(inv vU.d d).ok bs ms) (g:=λd=>.sh ((inv vU.d d).n bs ms)) E.g Qam E.st E.fm (bu (.cons (E.ll 1).1 Qdi (.cons (E.ll 2).1 QfT Qq3)) Wl) (cg (mH QaJ ah cY)) Qas (λC s0 m f0 l i d hd _ lt=>?uF) (gz (bz (by rw[ed];exact hw.al))) (λa1=>?mz) Qbj Qbp
 case uF=>
  obtain⟨q,f,rfl⟩:=ef.1 (ff hd);refine#[rfl,λ_=>?_];show zW _ _ _ _ _ (λt=>(inv vU.d q.d).ok bs ms=true/\t=T.sh _) _;rw[Dm xo];exact xp (bs,ms,q,r) (YB.cx (E.c 27)) ju (ai (ak (v_ (Vn.wx (E2 0)))) (ai (ak (v_ (Vn.wx (E3 1)))) (ai (ak (v_ (Vn.wx (E3 2)))) (ai (ak (v_ (Vn.wx (E3 3)))) av)))) (hw.a q f) (λz=>lt _ _ (e (by rw[IV f z];simp))) (λ_=>Dl bs ms q)
 case mz=>
 have a1:=LY xo a1;rw[LZ xo QuW,a1] at *;refine E7 (p:=λ_=>true) (ok:=λd=>(inv vS.d d).ok bs) (g:=λd=>.sh ((inv vS.d d).n bs)) E.g Qar E.st E.fm (bu (.cons (E.ll 1).1 Qdi Qq3) Wl) (cg Qw4) Qas (λC s0 m f0 l i d hd _ lt=>?DC) (gz (bz (by rw[ed];exact hw.dl))) (λa2=>?pM) Qbj Qbp
 case DC=>
  obtain⟨q,f,rfl⟩:=ef.1 (ff hd);refine#[rfl,λ_=>?_];show zW _ _ _ _ _ (λt=>(inv vS.d q.d).ok bs=true/\t=T.sh _) _;rw[Dm sR];exact xp (bs,q,r) (YB.cx (E.c 26)) ju QpD trivial (λz=>lt _ _ (e (by rw[IV f z];simp))) (λ_=>sP bs q)
 case pM=>
 have a2:=LY sR a2;rw[LZ sR QuW,a2] at *;have i1:D.bV (w.as.map _)=true:=eN (Dl bs ms) _;have i2:D.bV (w.ds.map _)=true:=eN (sP bs) _;have e1:w.as.map (λq=>T.sh (vU.n bs ms q))=(w.as.map (vU.n bs ms)).map T.sh:=by rw[ej];rfl
 have e2:w.ds.map (λq=>T.sh (vS.n bs q))=(w.ds.map (vS.n bs)).map T.sh:=by rw[ej];rfl
 rw[e1,e2];cases j:pk ms _ with
 | true=>exact aF (aP (au Qdy (au QtL (au QtM (au (c_ (ms,w.tg,r) (E.c 24).give QP Qs1 #[trivial,j] rfl) (au (aH Qx0 rfl) aT))))) aG) #[rfl,rfl]
 | false=>exact oJ (aN Qdy (aN QtL (aN QtM (mV (cB (ms,w.tg,r) Qgr QP Qs1 #[trivial,j] (e (by rw[j];simp))))))) WA
def uI{b:Bx}(E:EX eF.N (gN eF.st) (cN eF.st) 29 6 Qac CL) :
  Af X W CL b eF:=by
 rintro⟨bs,ms,q⟩ h e;obtain⟨r,bl,c⟩:=q;have e:=e;refine aD E.g Qaa (aH (aq Qv (ak (aV E.RS Qr)) b5) rfl) ?_;refine aD E.g Qam (aH (aq Qv (ak (aV E.jz QP)) eW) rfl) ?_;refine aD E.g Qar (mH QaJ Qrd ug) ?_;cases c with
 | bx n k=>
  refine aM (jU Q1 Qih rfl).1 (λz=>absurd (show("box":Str)∈cH from er z) Wl) (λ_=>?_);refine aM (gb Q1 QaR).1 (λz=>absurd (show("box":Str)∈(["in","out"]:AT) from er z) Wl) (λ_=>?_);refine aM (aZ Q1 az).1 (λz=>absurd (show("box":Str)="on" from er z) Wl) (λ_=>aj (aj (aj ?_)));exact aF Qhg #[rfl,rfl]
 | md w x st=>
  refine aM (jU Q1 Qih rfl).1 (λ_=>?_) (λz=>absurd (show w∈cH from h) (eR z));cases a:pk ms st with
  | true=>
   refine aD E.g Qar (aP (au QtN (au (c_ (ms,st,r) (E.c 24).give QbB QsJ #[trivial,a] rfl) aT)) aG) (aj ?_);exact aF Qhg #[a,rfl]
  | false=>exact CG E.g Qar (rg (aN QtN (mV (cB (ms,st,r) Qgr QbB QsJ #[trivial,a] (e a)))) aG) (Tj #[T.bad,WA,oH])
 | dd w d=>
  have hw:w∈(["in","out"]:AT):=h;have f:w∉cH:=by
   simp only[eg,fw,hG]at hw;obtain rfl|rfl:=hw<;>decide +kernel
  refine aM (jU Q1 Qih rfl).1 (λz=>absurd (er z) f) (λ_=>?_);refine aM (gb Q1 QaR).1 (λ_=>?_) Qk9;cases a:d.ok bs with
  | true=>
   refine aD E.g Qar (c_ (bs,d,r) (E.c 26).give QbK Qwq #[trivial,a] (sP bs d)) (aj (aj ?_));exact aF Qhg #[a,rfl]
  | false=>exact CG E.g Qar (cB (δ2:=[]) (bs,d,r) (E.c 26) QbK Qwq #[trivial,a] (e a)) oH
 | wy w=>
  have hw:w.Ok:=h;refine aM (jU Q1 Qih rfl).1 (λz=>absurd (show("on":Str)∈cH from er z) Wl) (λ_=>?_);refine aM (gb Q1 QaR).1 (λz=>absurd (show("on":Str)∈(["in","out"]:AT) from er z) Wl) (λ_=>?_);refine aM (aZ Q1 az).1 (λ_=>?_) (λz=>absurd (show("on":Str)="on" from rfl) (eR z));cases a:w.ok bs ms with
  | true=>
   refine aD E.g Qar (c_ (bs,ms,w,r) (E.c 28).give Qct Qs2 #[hw,a] (LX bs ms w)) (aj (aj (aj ?_)));exact aF Qhg #[a,rfl]
  | false=>exact CG E.g Qar (cB (δ2:=[]) (bs,ms,w,r) (E.c 28) Qct Qs2 #[hw,a] (e a)) oH
def Ge{b:Bx}(E:EX g9.N (gN g9.st) (cN g9.st) 30 7 Qac CL) :
  Af X W CL b g9:=by
 intro fs h f;dsimp [g9]at h f ⊢;have bW:=h.ok;have hlen:(fs.map kH.d).length<=sizeLine:=by
  rw[ed];exact gr h.l Wp
 refine aD E.g Qav (fS (c_ _ (E.c 22) Qr (ai (bH (aJ (gY (p:=λd=>decide ((aX d 2).toS="box")) (g:=λd=>.sh Qps) Qa7 E.g.calm Qcp Qas (λC s0 j f0 e d hd=>?uF) hlen) ?eq1)) av) h.bl (Bq _)) rfl) ?mz
 case uF=>
  obtain⟨q,a,rfl⟩:=ef.1 hd;refine#[(aZ Qrm az).1,λz=>?_];have z:q.c.Ny=true:=(Zo Qe2)▸z;obtain⟨r,bl,c⟩:=q;cases c with
  | bx n k=>exact aH QqD rfl
  | md w x st=>cases z
  | dd w d=>cases z
  | wy w=>cases z
 case eq1=>
  rw[U7 (g':=λq=>T.sh _) (λq a=>Zo Qe2) λq a z=>?_]
  .unfold Zm;rw[ej,ej];rfl
  .obtain⟨r,bl,c⟩:=q;cases c with
   | bx n k=>rfl
   | md w x st=>cases z
   | dd w d=>cases z
   | wy w=>cases z
 case mz=>
 refine aD E.g Q3 (fS (c_ _ (E.c 22) Qr (ai (bH (aJ (gY (p:=λd=>decide ((aX d 2).toS∈cH)) (g:=λd=>.sh Qps) Qa7 E.g.calm Qcp Qas (λC s0 j f0 e d hd=>?DC) hlen) ?eq2)) av) h.ml (Bq _)) rfl) ?pM
 case DC=>
  obtain⟨q,a,rfl⟩:=ef.1 hd;refine#[(jU Qrm (ak (cS (E.fh) ju)) rfl).1,λz=>?_];have z:q.c.UN=true:=(Zq Qe2)▸z;obtain⟨r,bl,c⟩:=q;cases c with
  | md w x st=>exact aH QqD rfl
  | bx n k=>cases z
  | dd w d=>cases z
  | wy w=>cases z
 case eq2=>
  rw[U7 (g':=λq=>T.sh _) (λq a=>Zq Qe2) λq a z=>?_]
  .unfold Zn;rw[ej,ej];rfl
  .obtain⟨r,bl,c⟩:=q;cases c with
   | md w x st=>rfl
   | bx n k=>cases z
   | dd w d=>cases z
   | wy w=>cases z
 case pM=>
 refine adH (ym (p:=λ_=>true) (ok:=λd=>L0 fs Qpl) (g:=λd=>.sh ((IW fs d).n (Zm fs) (Zn fs))) E.st E.fm (bu (.cons (E.ll 1).1 Qdi (.cons (E.ll 2).1 QfT .nil)) Wl) E.g.calm Qcp Qas (λC s0 j f0 e i d hd lt ll=>?VF) hlen) (λt z=>?eq3)
 case VF=>
  obtain⟨q,a,rfl⟩:=ef.1 (ff hd);refine#[rfl,λ_=>?_];show zW _ _ _ _ _ (λt=>L0 fs _=true/\t=T.sh _) _;rw[xq bW a];exact xp (Zm fs,Zn fs,q) (YB.cx (E.c 29)) ju QpD Qe2 (λz=>show fc e W _ (some _) from O1 bW hd Qe2 lt z▸(ll _ _ (f (IV a z)))) (λ_=>Zu _ _ q)
 case eq3=>
  obtain⟨z,rfl⟩:=z;exact#[ND bW z,by rw[Zt bW]]
theorem Py{b:Bx}(E:iL mh 31 0 X CL) :
  iH X CL b mh:=by
 intro x h;have l:=gz (bz h);refine aM (dM (fL (aZ Qv az).1 (λhb=>(fL (lO Qr9 (ak (aV E.zc QP))).1 (λr=>(gJ (K0 Qv (ak (cS E.Dy Q4)) (rfl) rfl).1)))))) (λa=>?_) (λa=>aj ?_)
 .apply aF d9;have a:(decide _ || (decide _ || decide Qou))=true:=a;apply congrArg QaM;simp at a;unfold c9;obtain z|z|z:=a
  .subst z;decide +kernel
  .rw[eP (p:=x.length<=12) We,mT,h7]
  .rw[eC z,Bool.not_true,mT,h7,h7]
 have a:(decide _ || (decide _ || decide Qou))=false:=a;simp at a;obtain⟨h1,v,t⟩:=a;have u:1<=x.length:=by
  obtain z|z:=Nat.eq_zero_or_pos _
  .exact absurd (CT z) h1
  .exact z
 have n:x.cps.toList.length=x.length:=by simp[Str.length]
 have k:c9 x=QpU:=by
  unfold c9;rw[eC u,eC (show x.length<=12 by lia),eP t];rfl
 refine aM (oE (ak (Cb Qv ah l (Ck 0 We We))) (ak (yg E.Pa Qao)) rfl).1 (λa=>?_) (λa=>aj ?_)
 .apply aF d9;rw[yy]at a;have a:(!isLt Qp2)=true:=a;rw[kx]at a;show T.sh _=T.sh _;rw[k,a];rfl
 rw[yy]at a;have a:(!isLt Qp2)=false:=a;rw[rr]at a;refine dU E.g Qav (λj δ=>(∃o,δ=[some _,o])/\(x.cps.toList.take j).all Qp0=true)
  (Sg QaJ) #[#[_,rfl],rfl] (λj δ ⟨⟨_,e⟩,_⟩=>by subst e;exact ew rfl) ?turn ?fin
 case turn=>
  rintro j d δ q ⟨⟨o,rfl⟩,i⟩;obtain⟨c,rfl,m⟩:=yz q;refine aM (oE QD (ak (yg E.nR QbB)) rfl).1 (λf=>?_) (λf=>aj (aj #[#[_,rfl],?_]))
  .apply aF d9;rw[Lf]at f;have f:(isLt c || k8 c)=false:=by simpa using f
   show T.sh _=T.sh _;have s:x.cps.toList.all Qp0=false:=by
    rw[pv];exact#[c,ff m,by rw[f];decide]
   rw[k,s,h7]
  .rw[Lf]at f;rw[rr]at f;rw[iq,m,List.all_append,i];show(true&&([c].all _))=true;rw[k4,f];rfl
 case fin=>
  rintro δ ⟨⟨o,rfl⟩,i⟩;apply aF d9;rw[show(gQ x).length=x.cps.toList.length by simp[gQ],hR]at i;show T.sh _=T.sh _;rw[k,a,i];rfl
theorem Pz{b:Bx}(E:iL mj 32 2 X CL) :
  iH X CL b mj:=by
 rintro⟨x,r⟩ h;dsimp only [mj]at h ⊢;have a:=(fC h).2.1;refine aM (c7 (cO (aJ (c_ x (E.c 31) Qr Qbu (by dsimp only [mh];lia) rfl) (t2:=.sh QaV) (congrArg Qlx h)))) Qdm (λ_=>aj ?_);exact aF QaJ rfl
theorem An{b:Bx}(E:iL gT 33 0 X CL) :
  iH X CL b gT:=by
 intro x h;have l:=gz (bz h);have q:=iy x;refine aM (dM (fL (aZ Qv az).1 (λhn=>fL (lO Qr9 (ak (aV E.zf QP))).1 (λ_=>gJ (aZ (ak (Cb Qv ah l (Ck 0 We ?ix))) az).1)))) (λf=>?_) (λf=>aj ?_)
 case ix=>
  obtain z|z:=Nat.eq_zero_or_pos _
  .exact absurd (CT z) (eR hn)
  .lia
 .apply aF d9;apply congrArg QaM;simp only[nC,pw]at f;unfold sL;obtain z|z|z:=f
  .subst z;decide +kernel
  .rw[eP (p:=x.length<=30) We,mT,h7]
  .have e:x.cps.toList.getD 0 0=48:=by
    rw[show("0":Str)=#[(List.toArray [48])] by decide +kernel]at z;have:=congrArg (λs=>s.cps.toList) z;exact(hE this).1
   rw[eC e,Bool.not_true,mT,h7,h7]
 have f:(decide _ || (decide _ || decide ((#[(List.toArray [x.cps.toList.getD 0 0])]:Str)="0")))=false:=f;simp only[Bool.or_eq_false_iff,xy]at f;obtain⟨h1,v,k⟩:=f;have u:1<=x.length:=by
  obtain z|z:=Nat.eq_zero_or_pos _
  .exact absurd (CT z) h1
  .exact z
 have k:¬ x.cps.toList.getD 0 0=48:=λz=>k (by rw[z];decide +kernel);have n:sL x=x.cps.toList.all k8:=by
  unfold sL;rw[eC u,eC (show x.length<=30 by lia),eP k];rfl
 refine dU E.g Qav (λj δ=>(∃o,δ=[some _,o])/\(x.cps.toList.take j).all k8=true)
  (Sg QaJ) #[#[_,rfl],rfl] (λj δ ⟨⟨_,e⟩,_⟩=>by subst e;exact ew rfl) ?turn ?fin
 case turn=>
  rintro j d δ r ⟨⟨o,rfl⟩,i⟩;obtain⟨c,rfl,m⟩:=yz r;refine aM (oE QD (ak (yg E.Pb Q4)) rfl).1 (λa=>?_) (λa=>aj (aj #[#[_,rfl],?_]))
  .apply aF d9;rw[Lw]at a;have a:=by simpa using a
   show T.sh _=T.sh _;have t:x.cps.toList.all k8=false:=by
    rw[pv];exact#[c,ff m,by rw[a];decide]
   rw[n,t]
  .rw[Lw]at a;rw[rr]at a;rw[iq,m,List.all_append,i];show(true&&[c].all k8)=true;rw[k4,a];rfl
 case fin=>
  rintro δ ⟨⟨o,rfl⟩,i⟩;apply aF d9;rw[show(gQ x).length=x.cps.toList.length by simp[gQ],hR]at i;show T.sh _=T.sh _;rw[n,i]
theorem Gf{b:Bx}(E:iL gy 34 1 X CL) :
  iH X CL b gy:=by
 intro x h;dsimp only [gy]at h ⊢;have h:x.length<=1000:=h;have e:(lA x).length<=1000:=by
  unfold lA;split
  .rw[<- iy];show(x.cps.toList.drop 1).length<=1000;rw[List.length_drop,iy];lia
  .exact h
 refine aD E.g Qav (xX (t:=.sh (.str (lA x))) (cO (Ot Qv az)) (λz=>aJ (N1 Qv Qc3 QbC fQ) ?e1) (λz=>aJ QaJ ?e2)) ?rest
 case e1=>
  rw[sX]at z;have a:=er z;cases d:x.cps.toList with
  | nil=>rw[d]at a;cases a
  | cons c l=>rw[O6 d,lA,ee a]
 case e2=>
  rw[sX]at z;rw[lA,cq (eR z)]
 case rest=>
 exact aF (KN (aZ Qv az).2 (λ_=>gK (aJ (c_ (lA x) (E.c 33) Qr Qbd e rfl) (t2:=.sh (.bl (sL (lA x)))) rfl))) rfl
theorem Gg{b:Bx}(E:iL ji 35 2 X CL) :
  iH X CL b ji:=by
 rintro⟨k,r⟩ h;dsimp only [ji]at h ⊢;have a:=j7 h;refine aM (c7 (cO (aJ (c_ (sI k) (E.c 34) Qr Qbu (by dsimp only [gy];lia) rfl) (t2:=.sh QaV) (congrArg Qlx (Ug h))))) Qdm (λ_=>aj ?_);exact aF (CD E.zb Qv (yO h) We Q4) rfl
theorem PB{b:Bx}(E:iL mq 36 3 X CL) :
  iH X CL b mq:=by
 rintro⟨p,r⟩ h;dsimp [mq]at h ⊢;have j:=Uj h;have hd:∀c,kK #[(List.toArray [c])] p.tt=decide _:=λc=>by
  unfold kK;rw[va]
 refine aM (cO (aJ (c_ _ (E.c 34) Qr Qbu (by dsimp [gy];lia) rfl) (congrArg QaM (IE h)))) (λz=>?_) (λz=>aj ?_)
 .have a:=er z;have e:p.tt=sI p.c:=by rw[LT.tt,QS,ee a]
  refine aF (aP (ds:=[.str "",.int p.c]) (aN bE (aN (CD E.zb Qv (e▸yO h.c) We QP) bP)) aG) ?_;rw[LT.tn,ee a]
 have a:=eR z;have d:p.tn=p.n0:=by rw[LT.tn,cq a]
 by_cases f:p.c=0
 .have e:p.tt=p.n0:=by rw[LT.tt,QS,cq a,ee f]
  have e1:kK "-" p.tt=false:=by
   rw[show("-":Str)=#[(List.toArray [45])] by decide +kernel,hd 45,e];exact eP QoT
  refine aD E.g Q3 (xX (EB az Qv rfl).1 (λq=>absurd (e1▸q) Wp) (λ_=>bE)) ?_;refine aD E.g Qaa (EZ (l:=[p.n0,"",""]) Qv QA Wl Qc3 (by
   rw[e];exact Y4 QoT)) ?_
  apply aD E.g Qam Qp5;refine aM (aZ QiS az).1 (λ_=>?_) (λq=>absurd (eR q) Wl);apply aF (aP (ds:=[.str p.n0,.int 0]) (aN QfH (aN fW bP)) aG);rw[d,f]
 have e:p.tt=p.n0++yK p.c++sI p.c.natAbs:=by rw[LT.tt,QS,cq a,cq f]
 have i:p.tt.cps.toList=p.n0.cps.toList++(yK p.c).cps.toList++(sI p.c.natAbs).cps.toList:=by rw[e,cM,cM]
 have e1:kK "-" p.tt=decide (p.c<0):=by
  rw[show("-":Str)=#[(List.toArray [45])] by decide +kernel,hd 45,i];apply oC.2;rw[eB,eB,mZ];constructor
  .intro q;obtain(q|q)|q:=q
   .exact absurd q QoT
   .have:=eL.1 q;split at this<;>lia
   .exact absurd q (Uk _ Wp)
  .intro q;refine .inl (.inr (eL.2 ?_));rw[cq We]
 have k:=j7 (by rw[vK];exact h.c);refine aD E.g Q3 (xX (t:=.sh (.str (yK p.c))) (EB az Qv rfl).1 (λq=>aJ bE ?p1) (λq=>aJ bE ?p2)) ?rest
 case p1=>
  rw[e1]at q;rw[yK,cq We]
 case p2=>
  rw[e1]at q;rw[yK,ee We]
 case rest=>
 refine aD E.g Qaa (EZ (l:=[p.n0,yK p.c,sI _]) Qv QA (by rw[sH];rfl) Qc3 (by
  rw[e,mZ];exact Uc (vz h.n0 (by split<;>decide)))) ?_
 apply aD E.g Qam Qp5;refine aM (aZ QiS az).1 (λq=>?_) (λ_=>aj ?_)
 .have:=er q;have e:=sH p.c;rw[this]at e;cases e
 refine aM (c7 (cO (aJ (c_ _ (E.c 33) Qao (ai Qno av) (by dsimp [gT];lia) rfl) (congrArg QaM (IC We h.c))))) Qdm (λ_=>aj ?_);refine aD E.g Qar (CD E.zb Qno (yO (by exact h.c)) We QP) ?_;refine aF (aP (ds:=[.str _,.int p.c]) (aN QfH (aN (xX (aZ QA az).1 (λq=>aJ Qnn ?m1) (λq=>aJ (bQ QaO) ?m2)) bP)) aG) ?fin
 case m1=>
  rw[yK]at q;split at q
  .exact congrArg _ We
  .exact absurd q Wl
 case m2=>
  have q:=eR q;rw[yK]at q;split at q
  .exact absurd rfl q
  .exact congrArg QaM We
 case fin=>
  rw[d]
def PD{b:Bx}(E:iL jQ 37 4 X CL) :
  iH X CL b jQ:=by
 rintro⟨bn,d,r⟩ h;dsimp only [jQ]at h ⊢;obtain⟨hb,hd⟩:=h;obtain⟨n,hn,e1,e2⟩|⟨w,n,t,hw,hn,a,e1,e2⟩:=oU hb hd
 .rw[e1,e2];refine aM (dM (cz (bw Qht ah).1 λ_=>eK (aZ QbV az).1)) (λ_=>?_) Qca;exact aF (aP (aN bE (aN QkB bP)) aG) rfl
 .obtain⟨p,e,e3,f⟩:=yS hb a;rw[e1,e2,<- e3,<- f];refine aM Qp9 Qca (λ_=>aj ?_);refine aM (dM (cz (bw Qeg ah).1 λ_=>eK (gb QbV QaR).1)) (λ_=>?_) (λz=>?_)
  .exact aF (aP (aN QxJ (aN QkB (aN (c_ (p,r) (E.c 36) Q4 QiC e rfl) bP))) aG) rfl
  .rw[eC hw]at z;exact absurd z Wp
theorem Js{b:Bx}(E:iL kr 38 0 X CL) :
  iH X CL b kr:=by
 intro ps h;obtain⟨t,B⟩:=h;apply aD E.g Qav Qbe;refine dU E.g Q3 (λj δ=>∃o,δ=[some _,some (.lst (((ps.flatten.take j).foldl pS []).map lT)),o]) Qcp #[_,rfl] (by rintro j δ ⟨_,rfl⟩;exact ew rfl) ?turn ?fin
 case turn=>
  rintro j d δ w ⟨o,rfl⟩;obtain⟨x,rfl,i,_,A,_,_⟩:=ua w;have y:(ps.flatten.take QaF).foldl pS []=pS ((ps.flatten.take j).foldl pS []) x:=by
   rw[jN i,h9];rfl
  have hn:=IJ (ps.flatten.take j) [];have hlen:((ps.flatten.take j).foldl pS []).length<=1000:=by
   have:=hn.2;simp at this;lia
  have v:x∉fk->0<((ps.flatten.take j).foldl pS []).length:=λa=>by
   cases ps with
   | nil=>cases i
   | cons p ps=>
    obtain⟨f,l,rfl,hf,_⟩:=t p eu;cases j with
    | zero=>
     cases i;exact absurd hf a
    | succ j=>
     rw[pl,hS,List.take_succ_cons,jL];have e:pS [] f=[[f]]:=ee hf;rw[e];have:=(IJ ((l++ps.flatten).take j) [[f]]).1;exact hW Nat.zero_lt_one this
  rw[y];have hpl:∀p∈(ps.flatten.take j).foldl pS [],p.length<=1000000:=λp m=>by
   have:=Uy _ [] 0 (λq m=>by(cases m)) p m;rw[hO]at this;lia
  generalize (ps.flatten.take j).foldl pS []=st at hlen v hpl ⊢;refine aM (adw (l:=II) E.kO Qr QA) (λz=>?_) (λz=>?_)
  .rw[Uw]at z;refine CB Qqm rfl rfl (aJ (cT (aN QcE bP) aG) rfl) rfl rfl (by rw[ed];lia) (aj (aj ?_));have:pS st x=st++[[x]]:=ee (er z);rw[this,fb];exact#[_,rfl]
  .rw[Uw]at z;have a:=eR z;have h0:=v a;have r:DX (st.map lT).length (-1)=some Qbc:=by
    rw[ed];exact mY h0
   have u:(st.map lT)[st.length-1]? = some (lT Qiv):=by
    rw[fR,eD,ft (show st.length-1<st.length by lia)];rfl
   have n:T.ud [.ix Qbc] (lT QlU) Qvq=.lst ((st.map lT).set Qbc (lT QlU)):=by
    show(match (st.map lT)[st.length-1]? with|some k=>_|none=>_)=_;rw[u];rfl
   have s:T.lst (((st.getD Qbc []).map D.str).map T.sh++[T.sh QaL])=lT QlU:=by
    unfold lT;rw[fb,fb];rfl
   have c:T.oG [.ix Qbc] Qvq=some (lT Qiv):=by
    show((st.map lT)[st.length-1]?).bind _=_;rw[u];rfl
   refine CB (fH Qqm rfl rfl Qap r) rfl c QcE rfl c (by rw[ed,ed];exact hpl _ QoO) (aj (aj ?_));have:pS st x=st.set _ _:=cq a;rw[this,ke,<- n,<- s];exact#[_,rfl]
 case fin=>
  rintro δ ⟨o,rfl⟩;have e:(ps.flatten.take (ps.flatten.map D.str).length).foldl pS []=ps:=by
   rw[ed,hR,Ux ps [] t];rfl
  rw[e];exact aF QeF rfl
theorem PF{b:Bx}(E:iL jR 39 3 X CL) :
  iH X CL b jR:=by
 rintro⟨ns,w,p,r⟩ h;dsimp [jR]at h ⊢;obtain⟨hn,⟨h1,a,x,l,rfl,d⟩|⟨h1,a,rfl⟩⟩:=h
 .have e:tx ns w="":=ee h1;rw[e,a];refine aM (oi QbV az).1 (λ_=>?_) (λz=>?_)
  .exact aF (aP Qhx aG) rfl
  .rw[eP d]at z;cases z
 .have e:tx ns w=ns.getD _ _:=cq We;have hm:=fO hn h1.1 h1.2;rw[e];generalize ns.getD _ _=n at hm ⊢;unfold D6;by_cases hw:w.md="new"
  .rw[hw];refine aM (oi QbV az).1 Qca (λ_=>aj ?_);refine aM (bw Qht ah).1 (λ_=>?_) Qts;exact aF (aP (au Qrn (au bE aT)) aG) rfl
  .rw[cq hw];have f:w.md∈(["near","far"]:AT):=by
    obtain z|z:=eg.1 a
    .exact absurd z hw
    .exact z
   refine aM (oi QbV az).1 Qca (λ_=>aj ?_);refine aM (bw Qeg ah).1 Qtt (λ_=>aj ?_);refine aM (dM (cz (bw Qeg ah).1 λ_=>eK (gb Qdg QaR).1)) (λ_=>?_) (λz=>?_)
   .exact aF (aP (au Qrn (au (aH Qdg rfl) aT)) aG) rfl
   .rw[eC f]at z;exact absurd z Wp
def VM{b:Bx}(E:iL pD 40 4 X CL) :
  iH X CL b pD:=by
 rintro⟨bn,ns,d,r⟩ h;obtain⟨hb,a,hd⟩:=h;obtain⟨w,k,rfl,hw,f⟩|⟨w,s,t,rfl,hw,l,j⟩:=hd
 .have hn:=fO a f.1 f.2;have u:w∈(["open","shut"]:AT):=by obtain rfl|rfl:=hw<;>decide +kernel
  show cJ X CL b _ [some (.sh (.lst ([w,ns.getD k.toNat _].map _))),some _] {nx:=_,rt:=λe _=>e=.sh (.tup [.str w,.str Qvk])};generalize ns.getD _ _=n at hn;refine aM (dM (cz (bw Qht ah).1 λ_=>eK (gb QbV QaR).1)) (λ_=>?_) (λz=>?_)
  .exact aF (aP (aN QxJ (aN QkB bP)) aG) rfl
  .rw[eC u]at z;exact absurd z Wp
 .obtain⟨p,o,p1,p2⟩:=yS hb l;obtain⟨q,m,i,g⟩:=yS hb j;show cJ X CL b _ [some (.sh (.lst ([eY bn s,w,eY bn t].map _))),some _] {nx:=_,rt:=λe _=>e=.sh (.tup [.str w,tC bn s,tC bn t])};rw[<- p1,<- i,<- p2,<- g];refine aM Qp9 Qca (λ_=>aj ?_);refine aM (dM (cz (bw Qeg ah).1 λ_=>eK (jU Qfr (ak (cS E.xJ Q4)) rfl).1)) (λ_=>?_) (λz=>?_)
  .exact aF (aP (aN (aH Qfr rfl) (aN (c_ (p,r) (E.c 36) Qao (ai QbV Qbd) o rfl) (aN (c_ (q,r) (E.c 36) Qao QiC m rfl) bP))) aG) rfl
  .rw[eC hw]at z;exact absurd z Wp
theorem VN{b:Bx}(E:iL sY 41 5 X CL) :
  iH X CL b sY:=by
 rintro⟨bn,ns,w,r⟩ h;obtain⟨hb,hn,hw⟩:=h;obtain⟨Oi,D4⟩:=LG hb hn hw;have B:=UA hb hn hw;have G9:=Ft λp a=>(D4 p a).1;have i:∀p∈wP bn ns w,∃x l,p=x::l:=λp a=>by
  obtain⟨f,l,e,_⟩:=B p a;exact#[f,l,e]
 refine aD E.g Q3 (fS (c_ (wP bn ns w) (E.c 38) Qr Qbu (by dsimp only [kr];exact#[B,We]) (O7 _)) (ZG _)) ?_;refine aD E.g Qaa bE ?_;refine dU E.g Qam (λj δ=>∃A v t o,δ=[some _,some QiV,some _,some (.sh (.str (if j=0 then "" else rQ ((wP bn ns w).getD (j-1) [])))),A,v,t,o]) QdG #[_,_,_,_,rfl] (by rintro j δ ⟨_,_,_,_,rfl⟩;exact ew rfl) ?turn ?fin
 case turn=>
  rintro j d δ S ⟨A,v,t,o,rfl⟩;obtain⟨p,rfl,a,I,kZ,_,_⟩:=ua S;obtain⟨x,l,rfl⟩:=i p I;have e1:rQ ((wP bn ns w).getD (j+1-1) [])=x:=by
   rw[nr,eD,a];rfl
  have O:∀v t o,∃H G F D,[some (T.sh (.lst ((wP bn ns w).flatten.map .str))),some Qw5,some (T.sh (.lst ((wP bn ns w).map lD))),some (T.sh QaL),some (T.sh (lD Qgz)),v,t,o]=[some _,some Qw5,some _,some (T.sh (.str (if j+1=0 then "" else rQ ((wP bn ns w).getD (j+1-1) [])))),H,G,F,D]:=λv t o=>by
   rw[cq (rh j),e1];exact#[_,_,_,_,rfl]
  cases j with
  | zero=>
   rw[ee rfl];refine aM (dM (cz (q:=false) (oi QZ az).1 λz=>absurd z Wl)) Qca (λ_=>aj ?_);exact aD E.g Qaa QxK (aj (O _ _ _))
  | succ k=>
   obtain⟨y,m,L⟩:=i ((wP bn ns w).getD k []) (by
    rw[eD,ft We];exact j1 _)
   have ec:=UB (ad9 bn ns w) k x (by
    unfold wP at a;rw[List.getElem?_cons_succ]at a;rw[fR,a];rfl)
   have V:((("on":Str)::((lk "if" "and" Qfy++lk "do" "then" Qex++Hi ns w).map rQ)).getD k Str.empty)=y:=by
    show(((wP bn ns w).map rQ).getD k Str.empty)=y;rw[eD,fR,ft We];rw[eD,ft We]at L;show rQ (wP bn ns w)[k]=y;rw[show(wP bn ns w)[k]=y::m from L];rfl
   rw[V]at ec;have U:(if k+1=0 then("":Str) else rQ ((wP bn ns w).getD (k+1-1) []))=y:=by
    rw[cq (rh k),nr,L];rfl
   have R:II.lookup y=some (yU y):=by
    unfold yU at ec ⊢;cases e:II.lookup y with
    | none=>rw[e]at ec;cases ec
    | some ts=>rfl
   rw[U];refine aM (dM (cz (oi QZ az).1 λ_=>eK (su QpW (ak (adx (l:=II) E.kO QP QZ R)) rfl rfl).1)) (λz=>?_) (λ_=>aj ?_)
   .rw[eC ec,Bool.not_true,h7]at z;cases z
   .exact aD E.g Qaa QxK (aj (O _ _ _))
 case fin=>
  rintro δ ⟨A,v,t,o,rfl⟩;generalize (if ((wP bn ns w).map lD).length=0 then("":Str) else rQ _)=N;have h0:mD ((wP bn ns w).map lD) 0=some (lD ["on",w.sg]):=cL (j:=0) (by unfold wP;rfl);refine aM (g5 (ak (aQ (ds:=[.str "on",.str w.sg]) (n:=2) rfl E.bB QxL Qao)) ah).1 Qdm (λ_=>aj ?_);refine kY (p:=λd=>decide Qrv) (gg:=λd=>.sh QxV) E.g Qar QkG QdG Qas (λC s0 H0 f0 b' d hd=>?uF) (gz (bz (by rw[ed];lia))) ?mz (by exact ew rfl) Qbp
  case uF=>
   obtain⟨p,a,rfl⟩:=ef.1 hd;obtain⟨x,l,rfl⟩:=i p a;refine#[(gb Qre QaR).1,λz=>?_];have hf:Qgz∈(wP bn ns w).filter Qqq:=hY.2 #[a,z];rw[LB]at hf;obtain⟨P,q,u,e⟩:=HU hf;obtain⟨rfl,rfl⟩:=hE e;obtain⟨q',h1,K,J⟩:=Jc (W:=aW bn ns) (C:=aC bn ns) (f:=x) u;show bG _ _ _ _ _ (T.sh _) _;rw[J];exact c_ (bn,ns,q',r) (pW (E.c 40)) ju (ai (bH (aJ (gM (dH 0) (gP _) QbC fQ) (by rw[List.map_cons,yn,K]))) QnC) (by dsimp only [pD];exact#[hb,hn,hw.q q' h1]) (Uu bn ns (hw.q q' h1))
  case mz=>
  have fm:∀(z:AT),((wP bn ns w).map lD).filter (λd=>decide (rQ (ZH d)∈z))=((wP bn ns w).filter (λp=>decide (rQ p∈z))).map lD:=λz=>by
   rw[la];refine congrArg _ (congrArg (λf=>List.filter f _) (funext λp=>?_));show decide (rQ (ZH (lD p))∈z)=_;rw[Jb]
  have Z:T.lst ((((wP bn ns w).map lD).filter (λd=>decide Qrv)).map (λd=>T.sh QxV))=.lst ((w.qs.map Qjb).map T.sh):=by
   rw[fm,LB,<- Mp (λq u q' M e=>ad7 hb (hw.q q' M) (hw.q q u) e) "if" "and",ej (f:=Aj _ _ _)];rfl
  have Y:T.lst ((((wP bn ns w).map lD).filter (λd=>decide Qro)).map (λd=>T.sh QsK))=.lst ((w.ds.map (dC bn)).map T.sh):=by
   rw[fm,LA,<- Mp (λq u q' M e=>ad6 hb (hw.d q' M) (hw.d q u) e) "do" "then",ej (f:=Aj _ _ _)];rfl
  rw[Z];show cJ X CL b _ [some _,some QiV,some _,some QxM,A,some _,t,o] _;refine kY (p:=λd=>decide Qro) (gg:=λd=>.sh QsK) E.g QaZ QkG QdG Qas (λC s0 H0 f0 b' d hd=>?DC) (gz (bz (by rw[ed];lia))) ?pM (by exact ew rfl) Qbp
  case DC=>
   obtain⟨p,a,rfl⟩:=ef.1 hd;obtain⟨x,l,rfl⟩:=i p a;refine#[(gb Qre QaR).1,λz=>?_];have hf:Qgz∈(wP bn ns w).filter Qql:=hY.2 #[a,z];rw[LA]at hf;obtain⟨P,q,u,e⟩:=HU hf;obtain⟨rfl,rfl⟩:=hE e;obtain⟨q',h1,K,J⟩:=Jc (W:=dW bn) (C:=dC bn) (f:=x) u;show bG _ _ _ _ _ (T.sh _) _;rw[J];exact c_ (bn,q',r) (pW (E.c 37)) ju (ai (bH (aJ (gM (ds:=(x::dW bn q).map .str) (dH 0) (gP _) QbC fQ) (by rw[List.map_cons,yn,K]))) QnC) (by dsimp only [jQ];exact#[hb,hw.d q' h1]) (De bn (hw.d q' h1))
  case pM=>
  rw[Y];show cJ X CL b _ [some _,some QiV,some _,some QxM,A,some _,some _,o] _;refine aD E.g Qgp (c_ (ns,w,(wP bn ns w).getD ((wP bn ns w).length-1) [],r) (E.c 39) QbB (ai (ay QA Qap (j6 (f:=lD) [] QiG)) Qbd) (by dsimp only [jR];exact#[hn,ZI hb hn hw]) rfl) ?_;exact aF (rg (aN (c_ (w.sg,r) QfM QbK (ai (ay (ds:=[.str "on",.str w.sg]) QxL ah cY) Qbd) hw.s rfl) (aN QxG (aN QeG (aN (aH (aq Qdp ah b5) rfl) (aN (aH (aq Qdp ah cY) rfl) bP))))) aG) rfl
def DE{b:Bx}(E:iL gF 42 6 X CL) :
  iH X CL b gF:=by
 rintro⟨bn,ns,q,r⟩ h;dsimp only [gF]at h ⊢;obtain⟨hb,hn,a⟩:=h;obtain⟨_,_,xx,ll,u⟩:=uB hb hn a;have h0:mD ((q.ws bn ns).map D.str) 0=some (.str q.word):=u▸cL (j:=0) rfl;refine aD E.g Q3 (aH (ay Qv ah h0) rfl) ?_;have nb:q.word≠"box"->(decide (q.word="box")&&false)=true->False:=λh z=>by
  rw[h7]at z;cases z
 cases q with
 | bx n k=>
  obtain⟨h1,t⟩:=a;show cJ X CL b _ [some _,some _,some (.sh (.str "box"))] _;refine aM Qqs (λ_=>?_) Qca;exact aF (aP (au (c_ (n,r) QfM QP Qhl h1 rfl) (au (c_ (k,r) (E.c 35) Q4 QiC t rfl) aT)) aG) rfl
 | md n k x st z=>
  obtain⟨_,l,p,i⟩:=a;have f:k≠"box":=λe=>by
   rw[e]at l;exact absurd l Wl
  refine aM (dM (cz (aZ QA az).1 λz=>absurd (er z) f)) (λz=>(nb f z).elim) (λ_=>aj ?_);obtain⟨rfl,i,rfl⟩|⟨h1,rfl,rfl⟩:=i
  .have m:=fO hn i.1 i.2;have hw:(RW.md n "one" x (ns.getD z.toNat Str.empty) z).ws bn ns=[("one":Str),x,ns.getD z.toNat Str.empty]:=by
    show("one":Str)::x::(if ns.getD z.toNat Str.empty="" then [] else [ns.getD z.toNat Str.empty])=_;rw[cq (Fl m)]
   rw[hw];show cJ X CL b _ [some _,some _,some (.sh (.str "one"))] {nx:=_,rt:=λy _=>y=.sh _};generalize ns.getD z.toNat Str.empty=s at m ⊢;refine aM Qqs (λ_=>?_) Qca;exact aF (aP (au Qrw (au (c_ (s,r) QfM QP QiC m rfl) aT)) aG) rfl
  .have hw:(RW.md n k x "" (-1)).ws bn ns=[k,x]:=by
    show k::x::(if ("":Str)="" then [] else _)=_;rw[ee rfl]
   have v:k∈(["leaf","all"]:AT):=by
    simp only[cH,eg,fw,hG]at l ⊢;obtain e|e|e:=l
    .exact .inl e
    .exact absurd e h1
    .exact .inr e
   rw[hw];refine aM (dM (cz (aZ QA az).1 λz=>absurd (er z) h1)) (λz=>by rw[h7]at z;cases z) (λ_=>aj ?_);refine aM (dM (cz (gb QA QaR).1 λ_=>eK (bw Qht ah).1)) (λ_=>?_) (λz=>?_)
   .exact aF (aP (au Qrw (au bE aT)) aG) rfl
   .have:=eC v;have z:(decide (k∈(["leaf","all"]:AT))&&decide ((2:Int)=2))=false:=z;rw[this]at z;exact absurd z Wp
 | io n w d=>
  obtain⟨_,hw,hd⟩:=a;have o:w≠"box" /\ w≠"one" /\ w∉(["leaf","all"]:AT):=by
   simp only[eg,fw,hG]at hw;obtain rfl|rfl:=hw<;>decide +kernel
  refine aM (dM (cz (aZ QA az).1 λz=>absurd (er z) o.1)) (λz=>by rw[h7]at z;cases z) (λ_=>aj ?_);refine aM (dM (cz (aZ QA az).1 λz=>absurd (er z) o.2.1)) (λz=>by rw[h7]at z;cases z) (λ_=>aj ?_);refine aM (dM (cz (gb QA QaR).1 λz=>absurd (er z) o.2.2)) (λz=>by rw[h7]at z;cases z) (λ_=>aj ?_);refine aM (gb QA QaR).1 (λ_=>?_) Qk9;exact aF (aJ (c_ (bn,d,r) (E.c 37) Qao (ai (bH (aJ (gM (ds:=(w::dW bn d).map .str) Qv (gP _) QbC fQ) (by rw[eM,yn]))) Qbd) (by exact#[hb,hd]) (De bn hd)) rfl) rfl
 | wy n w=>
  show cJ X CL b _ [some _,some _,some (.sh (.str "on"))] _;refine aM Qqb (λz=>by cases z) (λ_=>aj ?_);refine aM Qqb (λz=>by cases z) (λ_=>aj ?_);refine aM (dM (cz (q:=false) (gb QA QaR).1 λz=>absurd (er z) Wl)) (λz=>by cases z) (λ_=>aj ?_);refine aM (gb QA QaR).1 QhR (λ_=>aj ?_);refine aM (aZ QA az).1 (λ_=>?_) Qlm;exact aF (c_ (bn,ns,w,r) (E.c 41) QbB Qnp (by exact#[hb,hn,a.2]) (yT hb hn a)) rfl
theorem PJ{b:Bx}(E:iL mw 43 7 X CL) :
  iH X CL b mw:=by
 rintro⟨bn,ns,q,r⟩ h;dsimp only [mw]at h ⊢;obtain⟨hb,hn,a⟩:=h;obtain⟨h1,k,i⟩:=ad1 hb hn a;obtain⟨_,f,xx,ll,d⟩:=uB hb hn a;have h0:mD ((q.ws bn ns).map D.str) 0=some (.str q.word):=by
  rw[d];exact cL (j:=0) rfl
 obtain⟨k1,k2⟩:=OX hb hn a;refine aD E.g Q3 (Ou Qv az Qc3 (OY hb hn a)) ?_;refine aD E.g Qaa (ED QA az k1 Qc3 k2 Qc3) ?_;have e:((q.line bn ns).length:Int)-((q.rest bn ns).length:Int)=(q.bl:Nat):=by lia
 exact aF (rg (aN QcM (aN (aJ (jr (ak (wI E.bB Qv Qc3 Qr)) (ak (wI E.bB QA Qc3 Qr))) (t2:=.sh (.int (q.bl:Nat))) (congrArg (λz=>T.sh Qcn) e)) (aN (aH (ay Qcb ah h0) rfl) (aN (c_ (bn,ns,q,r) (E.c 42) QP (ai Qcb Qbd) (by dsimp only [gF];exact#[hb,hn,a]) (yT hb hn a)) bP)))) aG) rfl
theorem Gh{b:Bx}(E:iL jj 44 0 X CL) :
  iH X CL b jj:=by
 rintro⟨bn,ns,q,r,u,mb⟩ h;dsimp [jj]at h ⊢;apply aD E.g Qaa (aH (aq Qv (ak (aV E.jz Qr)) eW) rfl);apply aD E.g Qam (aH (aq Qv (ak (aV E.kD QP)) cY) rfl);cases q with
 | bx n k=>
  subst h;refine aM (aZ QZ az).1 (λ_=>?_) (λz=>absurd (show("box")="box" from rfl) (eR z));exact aF (aJ (g6 (bw Q1 ah).2 (λ_=>gK (bw QA Qap).2)) rfl) rfl
 | md n k x st z=>
  obtain⟨i,p⟩:=h;have j:k≠"box":=λe=>by
   rw[e]at i;exact absurd i Wl
  refine aM (aZ QZ az).1 (λz=>absurd (er z) j) (λ_=>aj ?_);obtain⟨rfl,rfl⟩|⟨h1,m,t⟩:=p
  .refine aM (bw QA Qap).1 (λ_=>?_) Qts;exact aF (aJ (g6 (bw Q1 ah).2 (λ_=>gK (jU QZ Qii rfl).2)) (congrArg QaM (by
    show(decide _&&decide (k∈cH))=true;rw[eC i];rfl))) rfl
  .refine aM (bw QA Qap).1 Qla (λ_=>aj ?_);refine aM (jU QZ Qii rfl).1 (λ_=>?_) (λz=>absurd i (eR z));exact aF (aJ (SD Ky Ky ah Q1 QiB (by with_unfolding_all rfl)).2 (congrArg QaM (by
    show(decide ((1:Int)<=n)&&decide (n<=mb+1))=true;rw[eC t,eC We];rfl))) rfl
 | io n w d=>
  obtain⟨hw,h1,m,a,c,l,s,f⟩:=h;have o:w≠"box" /\ w∉cH:=by
   simp[fw]at hw;obtain rfl|rfl:=hw<;>decide +kernel
  refine aM (aZ QZ az).1 (λz=>absurd (er z) o.1) (λ_=>aj ?_);refine aM (bw QA Qap).1 Qla (λ_=>aj ?_);refine aM (jU QZ Qii rfl).1 (λz=>absurd (er z) o.2) (λ_=>aj ?_);exact aF (aJ (g6 (bw Q1 QiB).2 (λ_=>gK (KA QsL (ak (Lb E.qx Qao QZ s))).2)) (congrArg QaM (by
   show QrF=true;rw[eC f,eC We];rfl))) rfl
 | wy n w=>
  obtain⟨h1,m,a,l,f⟩:=h;refine aM (aZ QZ az).1 (λz=>absurd (show("on")="box" from er z) Wl) (λ_=>aj ?_);refine aM (bw QA Qap).1 Qla (λ_=>aj ?_);refine aM (jU QZ Qii rfl).1 (λz=>absurd (show("on":Str)∈cH from er z) Wl) (λ_=>aj ?_);exact aF (aJ (g6 (bw Q1 QiB).2 (λ_=>gK (KA QsL (ak (Lb E.qx Qao QZ (show oV.lookup ("on":Str)=some 3 by decide +kernel)))).2)) (congrArg QaM (by
   show QrF=true;rw[eC f,eC We];rfl))) rfl
theorem VP{b:Bx}(E:iL sZ 45 8 X CL) :
  iH X CL b sZ:=by
 rintro⟨bn,ns,rs⟩ h;have bW:=h.ok;have G:=h.st;have L:=Fv h.b h.n bW h.ne;have I:=h.rl;apply aD E.g Qav Qbe;apply aD E.g Q3 bE;apply aD E.g Qaa QdW;refine t7 E.g (sy E.g.nd E.g.calm Qam Qar) (λj δ=>∃p o m,δ=[some _,some (.lst ((L4 bn ns rs).take j)),some (.sh (.str (if j=0 then "" else(rs.getD (j-1) (.bx "" 0)).word))),some (.sh (.int ((rs.take j).foldl UG _))),p,o,m])
  (oB (f:=λr:RW=>D.str _) (.bx "" 0) E.jm (fS (Ow Qv az Wl h.tl L (by rw[ed,gc];lia)) (by rw[bF,ej];rfl)) Qr) #[_,_,_,rfl]
  (λj δ ⟨_,_,_,e⟩=>by subst e;intro i hi;simp[hG]at hi;obtain rfl|rfl:=hi<;>exact ew rfl) ?turn ?fin
 case turn=>
  rintro j d δ J ⟨p,o,m,rfl⟩;obtain⟨i,rfl,hi,M,_,_,_⟩:=ua J;have B:=by
   have:=gh.1 M;exact this
  have K:=by
   rw[h5 (by have:=(hH.1 hi).1;rwa [gi]at this)]at hi;exact(gv hi).symm
  subst K;have t:rs[i]? = some (rs.getD i (.bx "" 0)):=by
   rw[eD,ft B];rfl
  have s:=ff t;have l:=IL G i _ t;have A:(L4 bn ns rs).take i++[(rs.getD i (.bx "" 0)).fm bn ns Qai]=(L4 bn ns rs).take Qai:=by
   have H:(L4 bn ns rs)[i]? = some ((rs.getD i (.bx "" 0)).fm bn ns Qai):=by
    unfold L4;rw[fR,h5 B];rfl
   rw[iq,H];rfl
  have v:(rs.take Qai).foldl UG (-1)=UG ((rs.take i).foldl UG (-1)) (rs.getD i (.bx "" 0)):=by
   rw[iq,t,h9];rfl
  have C:((L4 bn ns rs).take i).length<=1000000:=by
   rw[hO,L4,ed,gi];lia
  have u:(if i+1=0 then("":Str) else(rs.getD (i+1-1) (.bx "" 0)).word)=(rs.getD i (.bx "" 0)).word:=by
   rw[cq (rh i),nr]
  refine#[_,rfl,?_];have a:=bW _ s;rw[<- A,v,u];generalize rs.getD i _=q at a l ⊢;generalize (if i=0 then("":Str) else(rs.getD _ _).word)=F at l ⊢;generalize (rs.take i).foldl UG _=mb at l ⊢;refine aD E.g QaZ (c_ (bn,ns,q,(i+1:Int)) (E.c 43) QP (ai QaO (ai (ak (dR Q1 ah)) av)) (#[h.b,h.n,a]) (Fw h.b h.n a)) ?_;refine aM (c7 (cO (aJ (c_ (bn,ns,q,(i+1:Int),F,mb) (E.c 44) Q4 (ai (vB (E.ll 6).1) Qeu) l rfl) rfl))) Qdm (λ_=>aj ?_);apply aD E.g Q3 (aH (aq Qsa (ak (aV E.jz QbK)) eW) rfl);refine aM (jU QA (ak (cS E.fh Qct)) rfl).1 (λz=>?_) (λz=>aj ?_)
  .have hm:UG mb q=q.bl:=by
    cases q with
    | bx n k=>exact absurd (show("box":Str)∈cH from er z) Wl
    | md n k x st y=>rfl
    | io n w d=>
     have z:w∈cH:=er z;have hw:=a.2.1;simp[fw]at hw;obtain rfl|rfl:=hw<;>exact absurd z Wl
    | wy n w=>exact absurd (show("on":Str)∈cH from er z) Wl
   rw[hm];refine aD E.g Qaa (aH (aq Qsa (ak (aV E.kD QdQ)) cY) rfl) (aj ?_);exact ia (E.ll 1).1 rfl QeG rfl C QlI
  .have hm:UG mb q=mb:=by
    cases q with
    | md n k x st y=>exact absurd a.2.1 (eR z)
    | bx n k=>rfl
    | io n w d=>rfl
    | wy n w=>rfl
   rw[hm];exact ia (E.ll 1).1 rfl QeG rfl C QlI
 case fin=>
  rintro δ ⟨p,o,m,rfl⟩;have e:(L4 bn ns rs).take ((List.range rs.length).map λ(i:Nat)=>D.tup [.int i,(λr=>D.str (r.line bn ns)) (rs.getD i (.bx "" 0))]).length=Qi7:=by
   rw[ed];apply rx;rw[L4,ed];exact eA _
  rw[e];exact aF QeF rfl
theorem Gi{b:Bx}(E:iL jk 46 0 X CL) :
  iH X CL b jk:=by
 intro es h;obtain⟨h,C⟩:=h;apply aD E.g Qav Qbe;apply aD E.g Q3 Qbe;have r:Ai es=(List.range _).map _:=rfl;refine t7 E.g QrG (λj δ=>∃n m,δ=[some _,some (.lst (((es.take j).map .int).map T.sh)),some (.lst (((mn es j).map .int).map T.sh)),n,m])
  (oB (l:=Ai es) 0 E.jm QaJ Qr) #[_,_,rfl]
  (λj δ ⟨_,_,e⟩=>by subst e;intro i hi;simp at hi;obtain rfl|rfl:=hi<;>exact ew rfl) ?turn ?fin
 case turn=>
  rintro j d δ w ⟨n,m,rfl⟩;obtain⟨i,rfl,hi,B,_,_,_⟩:=ua w;have A:=by
   have:=gh.1 B;exact this
  have x:=by
   rw[h5 (by have:=(hH.1 hi).1;rwa [gi]at this)]at hi;exact(gv hi).symm
  subst x;have f:i<es.length:=by rwa [r,ed,gi]at A
  have y:(Ai es).getD i 0=((cW es i).length):=by
   rw[r,eD,fR,h5 f];rfl
  obtain⟨u,c⟩:=YU h f;refine#[_,rfl,?_];rw[y];have p:cutD ((mn es i).map D.int) none (some ((cW es i).length))=((cW es i).reverse).map .int:=by
   rw[Vr,<- List.map_take,u]
  have v:((cW es i).reverse).length<=es.length+1:=by
   rw[vk];exact wR _ _ _
  apply aD E.g Q3 (aJ (gM Qcg (fB _) fQ (e7 Q1)) (by rw[p]));have hsz:((((cW es i).reverse).map D.int).map T.sh).length<=1000000:=by
   rw[ed,ed];lia
  have s:(((es.take i).map D.int).map T.sh).length<=1000000:=by
   rw[ed,ed,hO];lia
  have o:((es.take i).map D.int).map T.sh++[T.sh QuX]=((es.take Qai).map D.int).map T.sh:=by
   rw[iq,eD,ft f,fb,fb];rfl
  have k:(((cW es i).reverse).map D.int).map T.sh++[T.sh Qa0]=((mn es Qai).map D.int).map T.sh:=by
   rw[<- ZJ,fb,fb];rfl
  generalize (cW es _).reverse=ln at c hsz k ⊢;generalize ((cW es i).length)=dp;refine ia (δ1:=[some (.sh (.lst ((Ai es).map .int))),some _,some (.lst ((ln.map .int).map T.sh)),some QeN,some (.sh (.int dp))]) (E.ll 1).1 rfl (xX (t:=.sh QuX) (ac3 Qcg) (λq=>?el1) (λq=>?el2)) rfl s ?rest
  case el1=>
   have h0:0<ln.length:=by
    cases ln with
    | nil=>cases q
    | cons a l=>exact Nat.succ_pos _
   have e1:ln.getD (ln.length-1) 0=es.getD i 0:=by
    rw[List.getLast?_eq_getElem?,ft We]at c;rw[eD,ft We];split at c
    .cases c
    .exact gv c
   exact aJ (aH (ay Qcg Qap (j6 0 h0)) rfl) (congrArg QaM e1)
  case el2=>
   have e0:ln=[]:=by
    cases ln with
    | nil=>rfl
    | cons a l=>cases q
   subst e0;have e1:es.getD i 0=-1:=by
    by_cases z:es.getD i 0=-1
    .exact z
    .rw[cq z]at c;cases c
   exact aJ QdW (by rw[e1])
  case rest=>
  refine ia (E.ll 2).1 rfl QcL rfl hsz (aj ?_);rw[o,k];exact#[_,_,rfl]
 case fin=>
  rintro δ ⟨n,m,rfl⟩;have e:es.take ((List.range (Ai es).length).map λ(i:Nat)=>D.tup [.int i,D.int ((Ai es).getD i 0)]).length=es:=by
   rw[ed,gi,r,ed,gi,hR]
  rw[e];exact aF QeF rfl
theorem Jt{b:Bx}(E:iL ku 47 0 X CL) :
  iH X CL b ku:=by
 rintro⟨c,b⟩ h;dsimp [ku]at h ⊢;have bW:=qk h;have R:=UL h;have S:=h.rl;have F:∀k∈cH,k≠(if b then("in") else "out"):=by
  cases b<;>decide +kernel
 generalize L:(if b then("in":Str) else "out")=w at F ⊢;have G:w="in" \/ w="out":=by
  cases b with
  | true=>exact .inl L.symm
  | false=>exact .inr L.symm
 have f:w≠"box" /\ w≠"on":=by
  obtain e|e:=G<;>rw[e]<;>decide +kernel
 have W:=L▸Zg h.ok b;apply aD E.g Q3 Qbe;refine dU E.g Qaa (λj δ=>∃o,δ=[some _,some _,some (.lst (((c.rows.take j).foldl (gD w) []).map tT)),o]) Qcp #[_,rfl] (by rintro j δ ⟨_,rfl⟩;exact ew rfl) ?turn ?fin
 case turn=>
  rintro j d δ B ⟨o,rfl⟩;have M:=by
   have:=(hH.1 B).1
   rwa [CH.zY,ed,gi]at this
  have i:c.rows[j]? = some (c.rows.getD j (.bx "" 0)):=by
   rw[eD,ft M];rfl
  have U:=by
   unfold CH.zY at B;rw[fR,h5 M]at B;exact(gv B).symm
  subst U;have a:=bW _ (ff i);have t:=IL R j _ i;have hn:(c.rows.take QaF).foldl (gD w) []=gD w ((c.rows.take j).foldl (gD w) []) (c.rows.getD j (.bx "" 0)):=by
   rw[iq,i,h9];rfl
  have Y:=IQ (w:=w) Qnf [];rw[hO]at Y;have hlen:((c.rows.take j).foldl (gD w) []).length<=1000000:=by
   have:([]:D2).length=0:=rfl;lia
  have O:∀p∈(c.rows.take j).foldl (gD w) [],p.length<=1000000:=λp t=>by
   have:=U0 _ [] 0 (λq i=>by(cases i)) p t;rw[hO]at this;lia
  have P:=UZ (w:=w) Qnf _ [] (absurd rfl);dsimp;rw[hn];generalize c.rows.getD j _=q at a t ⊢;generalize (c.rows.take j).foldl _ []=st at hlen O P ⊢;have r:=Di a;have Z:=w6 a;refine aM (jU Qhz Ql7 rfl).1 (λz=>?_) (λz=>?_)
  .cases q with
   | bx n k=>exact nomatch QfO
   | io n v d=>exact nomatch QfO
   | wy n v=>exact nomatch QfO
   | md n k x s y=>
    refine CB Qmr rfl rfl Qbe rfl rfl (by rw[ed];exact hlen) (aj (aj ?_));show ∃o,_=[_,_,some (T.lst ((st++[[]]).map tT)),o];rw[fb];exact#[_,rfl]
  .refine aM (aZ Qhz QD).1 (λy=>?_) (λy=>aj (aj (aj ?_)))
   .have y:=er y;cases q with
    | bx n k=>exact absurd (y) λe=>f.1 e.symm
    | md n k x s u=>exact nomatch QfO
    | wy n v=>exact absurd (y) λe=>f.2 e.symm
    | io n v d=>
     have h0:=P t.2.1;have I:DX (st.map tT).length (-1)=some Qbc:=by
      rw[ed];exact mY h0
     have N:(st.map tT)[st.length-1]? = some (tT Qiv):=by
      rw[fR,eD,ft (show st.length-1<st.length by lia)];rfl
     have H:T.ud [.ix Qbc] (tT Qh9) Qvr=.lst ((st.map tT).set Qbc (tT Qh9)):=by
      show(match (st.map tT)[st.length-1]? with|some k=>_|none=>_)=_;rw[N];rfl
     have K:T.lst ((st.getD Qbc []).map T.sh++[T.sh d])=tT Qh9:=by
      unfold tT;rw[fb];rfl
     have m:T.oG [.ix Qbc] Qvr=some (tT Qiv):=by
      show((st.map tT)[st.length-1]?).bind _=_;rw[N];rfl
     refine CB (fH Qmr rfl rfl Qap I) rfl m (aH Qx2 Z) rfl m (by rw[ed];exact O _ QoO) (aj (aj (aj ?_)));have:gD w st (.io n v d)=st.set _ _:=ee y;rw[this,ke,<- H,<- K];exact#[_,rfl]
   .have y:=eR y;have:gD w st q=st:=by
     cases q with
     | bx n k=>rfl
     | md n k x s u=>exact nomatch QfO
     | wy n v=>rfl
     | io n v d=>exact cq y
    rw[this];exact#[_,rfl]
 case fin=>
  rintro δ ⟨o,rfl⟩;have e:(c.rows.take c.zY.length).foldl (gD w) []=c.dl b:=by
   rw[CH.zY,ed,gi,hR,W]
  rw[e];have J:∀l∈c.dl b,D.bV l=true:=λl A=>iF λd hd=>by
   cases b with
   | true=>exact U1 (h.is l A d hd)
   | false=>exact U1 (h.os l A d hd)
  have V:(c.dl b).length<=sizeLine:=by
   have:=IQ (w:=w) c.rows [];have e0:([]:D2).length=0:=rfl;rw[gc];lia
  refine aF (aJ (gY (p:=λ_=>true) (g:=λd=>.sh (.tup (NG d))) Qa7 E.g.calm (cg (fS QiQ (Zi _))) Qas (λC s0 H0 f0 b' d hd=>?Ls) (by rw[ed];exact V)) ?eq) rfl
  case Ls=>
   obtain⟨l,A,rfl⟩:=ef.1 hd;exact#[rfl,λ_=>lR (E.tu) (dH 0) (J l A) ju]
  case eq=>
   rw[cP,ej,ej];rfl
theorem PK{b:Bx}(E:iL qp 48 0 X CL) :
  iH X CL b qp:=by
 intro c h;have bW:=qk h;have r:=h.rl;apply aD E.g Qav Qbe;apply aD E.g Q3 QdW;refine dU E.g Qaa (λj δ=>∃o,δ=[some _,some (.lst (((c.rows.take j).foldl gW ([],-1)).1.map T.sh)),some (.sh (.int ((c.rows.take j).foldl gW ([],-1)).2)),o]) Qcp #[_,rfl] (by rintro j δ ⟨_,rfl⟩;exact ew rfl) ?turn ?fin
 case turn=>
  rintro j d δ i ⟨o,rfl⟩;have m:=by
   have:=(hH.1 i).1
   rwa [CH.zY,ed,gi]at this
  have p:c.rows[j]? = some (c.rows.getD j (.bx "" 0)):=by
   rw[eD,ft m];rfl
  have t:=by
   unfold CH.zY at i;rw[fR,h5 m]at i;exact(gv i).symm
  subst t;have a:=bW _ (ff p);have hn:(c.rows.take QaF).foldl gW ([],-1)=gW ((c.rows.take j).foldl gW ([],-1)) (c.rows.getD j (.bx "" 0)):=by
   rw[iq,p,h9];rfl
  have l:=U3 Qnf ([],-1);rw[hO]at l;have hlen:((c.rows.take j).foldl gW ([],-1)).1.length<=1000000:=by
   have l:((c.rows.take j).foldl gW _).1.length<=0+min j _:=l;lia
  dsimp;rw[hn];generalize c.rows.getD j _=q at a ⊢;generalize (c.rows.take j).foldl gW _=st at hlen ⊢;obtain⟨ws,mo⟩:=st;have f:=Di a;have w:=w6 a;refine aM (jU Qhz Ql7 rfl).1 (λz=>?_) (λz=>?_)
  .cases q with
   | bx n k=>exact nomatch QfP
   | io n v d=>exact nomatch QfP
   | wy n v=>exact nomatch QfP
   | md n k x s y=>exact adp E.g Q3 rfl ah (aj (aj #[_,rfl]))
  .refine aM (aZ Qhz az).1 (λy=>?_) (λy=>aj (aj (aj ?_)))
   .have y:=er y;cases q with
    | bx n k=>exact absurd y (show ¬ ("box":Str)="on" by decide +kernel)
    | md n k x s u=>exact nomatch QfP
    | io n v d=>
     have y:v="on":=y;have:=a.2.1;rw[y]at this;exact absurd this Wl
    | wy n v=>
     refine ia (E.ll 1).1 rfl (EJ (aP (au QcE aT) aG) (aH Qx2 w) QjK aG) rfl (by rw[ed];exact hlen) (aj (aj (aj ?_)));show ∃o,_=[_,some (T.lst ((ws++[D.tup _]).map _)),_,o];rw[fb];exact#[_,rfl]
   .have y:=eR y;have:gW (ws,mo) q=(ws,mo):=by
     cases q with
     | bx n k=>rfl
     | md n k x s u=>exact nomatch QfP
     | wy n v=>exact absurd rfl y
     | io n v d=>rfl
    rw[this];exact#[_,rfl]
 case fin=>
  rintro δ ⟨o,rfl⟩;have e:((c.rows.take c.zY.length).foldl gW ([],-1)).1=c.ws.map WY.d:=by
   rw[CH.zY,ed,gi,hR,Zh h]
  exact e▸aF QeF rfl
theorem ZV{b:Bx}(E:iL xG 49 0 X CL) :
  iH X CL b xG:=by
 rintro⟨ks,es,ss,m⟩ h;obtain⟨d,h0,h1,hlen⟩:=h;apply aD E.g Q3 Qbe;apply aD E.g Qaa (aH (ay QcF QD (eV h0 h1)) rfl);have hm:=d.at h0 h1;apply Cm E.g (λn δ=>∃(k:Int) (l:BA),δ=[some _,some _,some Qr8,some QeP] /\ -1<=k/\k<n/\k<es.length/\l++uh n es k=cW es m/\l.length+n<=es.length+1) QeL
  #[ _,[],rfl,hm.1,We,We,rfl,WA]
 rintro n δ ⟨k,l,rfl,k0,k1,k2,k3,i⟩;refine#[_,_,(g5 QZ Qap).1,λa=>?_,λa=>?_]
 .have c:=by simpa using a
  have f:=d.at We k2;cases n with
  | zero=>lia
  | succ n=>
   apply ia (E.ll 2).1 rfl QcL rfl WI;apply aD E.g Qaa (aH (ay QcF QZ (eV We k2)) rfl);refine aj #[n,l6 _,_,l++[k],?_,f.1,We,We,?_,WI]
   .simp
   .rw[<- k3,uh,cq c,eJ];rfl
 .have c:=by simpa using a
  subst c;have e:l=cW es m:=by
   rw[<- k3];cases n with
   | zero=>rw[uh,f6]
   | succ n=>rw[uh,ee rfl,f6]
  subst e;exact aF QiQ rfl
def ZW{b:Bx}(E:iL xH 50 1 X CL) :
  iH X CL b xH:=by
 rintro⟨ks,es,ss,m⟩ h;have a:((cW es m).map D.int).length=(cW es m).length:=by simp
 exact aF (aQ a E.bB (bH (c_ (ks,es,ss,m) (E.c 49) QP Qnp h (vj _))) Qr) rfl
theorem rL{b:Bx}(E:iL cU 51 2 X CL) :
  iH X CL b cU:=by
 rintro⟨ks,es,ss⟩ h;dsimp [cU]at h ⊢;obtain⟨m,h1,s,n⟩:=h;have i:=m.1;have e0:es.getD (0:Int).toNat 0=-1:=by
  have:=i.at (k:=0) We We;lia
 refine aM (g5 (ay QcF ah ((eV We We).trans (by rw[e0]))) Qap).1 QbG (λ_=>aj ?_);refine dU E.g Qav (λj δ=>∃f e,δ=[some _,f,e])
  (Nv E.gH ah (ak (aQ (ed ..) E.bB QcF QP)) We Qr) #[_,_,rfl] (by rintro j δ ⟨_,_,rfl⟩;exact ew rfl) ?turn ?fin
 case turn=>
  rintro j d δ p ⟨f,e,rfl⟩;obtain⟨rfl,l⟩:=jb p;have l:j+1<es.length:=by lia
  have q:=n j We We;have o:(1+j)-1=(j:Int):=by lia
  apply aD E.g Q3 (aJ (jF (ds:=[.int _]) (bH (aJ (cT (aN (jr QD ah) bP) aG) (by rw[o];rfl))) (bH (aJ (c_ (ks,es,ss,(j:Int)) (E.c 49) Q4 (ai Qv (ai (kJ (ak (jr QD ah)) (congrArg _ o)) av)) (#[i,We,We,We]) (gf _)) rfl)) rfl (fB _) QoE) (t2:=.lst ((((j:Int)::cW es _).map _).map _)) rfl);have hm:es.getD (1+(j:Int)).toNat 0∈(j:Int)::cW es j:=by
   have:=m.2 j l;rw[show(1+(j:Int)).toNat=j+1 by lia];obtain z|z:=this
   .exact z▸eu
   .exact eE _ z
  refine aM (dM (fL (KZ (ay QcF QD (eV We We)) Qcg rfl rfl).1 (λ_=>gJ (lO (ak (aJ (c_ (ks,es,ss,1+(j:Int)) (E.c 50) Qao Qnp (#[i,We,We,We]) rfl) rfl)) (ak (aV E.Pg QbB))).1))) (λa=>?_) (λ_=>aj Qug);have r:=n (1+j) We We;rw[eC hm,eP We]at a;exact absurd a Wp
 case fin=>
  rintro δ ⟨f,e,rfl⟩;exact aF d9 rfl
theorem tE{b:Bx}(E:iL dg 52 0 X CL) :
  iH X CL b dg:=by
 rintro⟨ks,es,ss⟩ h;dsimp [dg]at h ⊢;apply aD E.g Qav K3;refine dU E.g Q3 (λj δ=>∃k f c,δ=[some _,some (.iY (Tw Qyj)),k,f,c])
  (cg (x6 E.fD E.ck QaJ dI)) #[_,_,_,rfl] (by rintro j δ ⟨_,_,_,rfl⟩;exact ew rfl) ?turn ?fin
 case turn=>
  rintro j d δ n ⟨k,f,c,rfl⟩;obtain⟨x,rfl,_,_,v,_,o⟩:=ua n;have s:=(uv QuY []).1;have p:(Tw Qyj).length<=1000000:=by unfold Tw adds;rw[ed];simp at s;lia
  refine acW (.inl x) E.u (E.ll 1).1 d9 QA rfl p (aj ?_);rw[YN,<- OL,<- o];exact#[_,_,_,rfl]
 case fin=>
 rintro δ ⟨k,f,c,rfl⟩;rw[ed,hR];have q:∀x,decide (x∈adds es)=decide (x∈es):=λx=>oC.2 (((uv es []).2 x).trans WA);refine t7 E.g QrG (λj δ=>∃k f c,uw (WO ks es) (List.range ks.length) j/\δ=[some _,some _,k,f,c])
  (oB Str.empty E.jm (x6 E.fD E.jI QaJ rE) Qr) #[_,_,_,.zero,rfl] (λj δ ⟨_,_,_,_,e⟩=>by subst e;intro i hi;simp at hi;obtain rfl|rfl:=hi<;>exact ew rfl) ?Gb ?fin2
 case Gb=>
  rintro j d δ n ⟨k,f,c,r,rfl⟩;obtain⟨i,m,rfl⟩:∃i,(List.range _)[j]? = some i/\_=d:=by rw[fR]at n;exact jK.1 n
  have t:=ff m;refine#[_,rfl,?_];refine aM (dM (fL (su (l:=yC) Q1 Ql7 rfl rfl).1 (λ_=>gJ (Xi (ak (aZ Q1 az).2) (ak (aJ (ac4 _ E.u QZ (vE (E.ll 1).1 rfl (by rw[T.ez])) rfl) (congrArg QaM ((YQ _ _).trans (q _))))) rfl rfl rfl).1))) (λa=>?_) (λa=>aj (aj #[_,_,_,r.next m ?_,rfl]))
  .apply aF d9;unfold rG;rw[YR t ?_];unfold WO;generalize decide Qvs=b1 at a ⊢;generalize decide QvS=b2 at a ⊢;generalize decide ((i:Int)∈es)=b3 at a ⊢
   revert a
   cases b1<;>cases b2<;>cases b3<;>first|(intro _;rfl)|(intro a;simp at a)
  .unfold WO;generalize decide Qvs=b1 at a ⊢;generalize decide QvS=b2 at a ⊢;generalize decide ((i:Int)∈es)=b3 at a ⊢
   revert a
   cases b1<;>cases b2<;>cases b3<;>first|(intro _;rfl)|(intro a;simp at a)
 case fin2=>
  rintro δ ⟨k,f,c,r,rfl⟩;apply aF d9;unfold rG;rw[uw.all (by simpa using r)]
def Ju{b:Bx}(E:iL kB 53 0 X CL) :
  iH X CL b kB:=by
 rintro⟨i,ds⟩ h;dsimp only [kB]at h ⊢;exact aF (SD Ky Kx ah Qv (ak (aQ rfl E.bB QD Qr)) (by with_unfolding_all rfl)).2 rfl
theorem rM{b:Bx}(E:iL cV 54 1 X CL) :
  iH X CL b cV:=by
 rintro⟨ks,es,ss⟩ h;dsimp [cV]at h ⊢;refine t7 E.g (sy E.g.nd E.g.calm Qav Q3) (λj δ=>∃n m,uw (Ip ks es ss) (List.range ss.length) j/\δ=[some _,n,m])
  (oB 0 E.jm (x6 E.fD E.lB QaJ vt) Qr) #[_,_,.zero,rfl] (λj δ ⟨_,_,_,e⟩=>by subst e;intro i hi;simp at hi;obtain rfl|rfl:=hi<;>exact ew rfl) ?turn ?fin
 case turn=>
  rintro j d δ p ⟨n,m,k,rfl⟩;obtain⟨i,f,rfl⟩:∃i,(List.range _)[j]? = some i/\_=d:=by rw[fR]at p;exact jK.1 p
  have r:=ff f;have v:=gh.1 r;refine#[_,rfl,?_];have u:mD QxN i=some _:=(dF Str.empty We We).trans (by rw[hI]);have bad:Ip ks es ss i=false->(T.sh _)=T.sh Qmk:=λe=>by
   unfold qz;rw[YR r e]
  refine aM (oi (ay Quh QD u) az).1 (λa=>?_) (λa=>?_)
  .have e1:¬ ks.getD i Str.empty="one":=by simpa using a
   refine aM (g5 QA Qap).1 (λa=>?_) (λa=>aj (aj (aj #[_,_,k.next f ?_,rfl])))
   .refine aF d9 (bad ?_);unfold Ip;rw[cq e1];simpa using a
   .unfold Ip;rw[cq e1];simpa using a
  .have e1:ks.getD i Str.empty="one":=by simpa using a
   by_cases e2:zX Qi8 es.length=true
   .have l:=e2;unfold zX at l;rw[gm]at l;have s:=er l.1;have p1:=er l.2;have o:zX Qi8 (es.map D.int).length=true:=by rw[ed];exact e2
    refine aM (dM (fL QpF (λ_=>gJ (g5 (ay QcF QA (eV s p1)) QD).1))) (λa=>?_) (λa=>aj (aj (aj #[_,_,k.next f ?_,rfl])))
    .refine aF d9 (bad ?_);unfold Ip;rw[ee e1,e2];simpa using a
    .unfold Ip;rw[ee e1,e2];simpa using a
   .have e2:zX Qi8 es.length=false:=by simpa using e2
    have o:zX Qi8 (es.map D.int).length=false:=by rw[ed];exact e2
    refine aM (dM (fL (q:=true) QpF (λt=>by cases t))) (λa=>?_) (λa=>by cases a);refine aF d9 (bad ?_);unfold Ip;rw[ee e1,e2];rfl
 case fin=>
  rintro δ ⟨n,m,k,rfl⟩;apply aF d9;unfold qz;rw[uw.all (by simpa using k)]
theorem vX{b:Bx}(E:iL fM 55 3 X CL) :
  iH X CL b fM:=by
 rintro⟨ks,es,ss,nm⟩ h;dsimp only [fM]at h ⊢;obtain⟨h,hn⟩:=h;have n1:=h.n1;refine aD E.g Q3 (aQ (n:=es.length) ((ed ..).trans h.kl) E.bB Quh Qr) ?_;refine aM (dM (fL (bw QA ah).1 (λ_=>fL (g5 (ak (aQ (n:=es.length) (ed ..) E.bB QcF Qr)) QA).1 (λ_=>fL (g5 (ak (aQ (n:=es.length) ((ed ..).trans h.sl) E.bB (cA E.fD E.lB Qv vt) Qr)) QA).1 (λ_=>gJ (g5 (ak (aQ (n:=es.length) hn E.bB QD Qr)) QA).1))))) (λa=>?_) (λ_=>aj ?_)
 .rw[eP (show ¬ ((es.length:Nat):Int)=0 by lia)]at a;simp at a
 exact aF (aJ (g6 (aJ (c_ (ks,es,ss) (E.c 51) QP Qbu (by dsimp only [cU];exact#[h.pre,h.n1,h.n2,h.deep]) rfl) (t2:=.sh QaV) rfl) (λ_=>g6 (aJ (c_ (ks,es,ss) (E.c 52) Q4 Qbu (by dsimp only [dg];have:=h.kl;have:=h.n2;lia) rfl) (t2:=.sh QwX) rfl) (λ_=>gK (aJ (c_ (ks,es,ss) (E.c 54) Qao Qbu (by dsimp only [cV];exact#[h.kl,h.sl,h.n2]) rfl) (t2:=.sh Qmk) rfl)))) (t2:=.sh (.bl Qkk)) (by rw[Bool.true_and])) rfl
theorem tF{b:Bx}(E:iL dh 56 1 X CL) :
  iH X CL b dh:=by
 intro l h;dsimp only [dh]at h ⊢;obtain⟨h1,m⟩:=h;refine dU E.g Qav (λj δ=>∃o,uw c9 l j/\δ=[some (.sh (.lst Qci)),o]) Qcp #[_,.zero,rfl] (by rintro j δ ⟨_,_,rfl⟩;exact ew rfl) ?turn ?fin
 case turn=>
  rintro j d δ k ⟨o,e,rfl⟩;obtain⟨x,a,rfl⟩:∃x,l[j]? = some x/\D.str x=d:=by rw[fR]at k;exact jK.1 k
  have i:x∈l:=ff a;refine aM (c7 (cO (aJ (c_ x (E.c 31) Qr Qbd (h1 x i) rfl) (t2:=.sh (.bl (c9 x))) rfl))) (λf=>?_) (λf=>aj (aj #[_,e.next a (by simpa using f),rfl]));refine aF d9 ?_;unfold k9;rw[YR i (by simpa using f)];rfl
 case fin=>
  rintro δ ⟨o,e,rfl⟩;rw[ed]at e;refine aF (aJ (bw (ak (rD E.g E.bB E.Vz Qv m QP Q4)) (ak (aQ (ed ..) E.bB Qv QP))).2 (t2:=.sh (.bl (k9 l))) (congrArg Qlx ?_)) rfl;unfold k9;rw[e.all,kf];refine oC.2 ?_;rw[<- Ie];lia
def DF{b:Bx}(E:iL iJ 57 0 X CL) :
  iH X CL b iJ:=by
 intro i h;dsimp only [iJ]at h ⊢;exact aF (SD Kx Kx (ak (bQ (ak (Ca ah ah #[Wp,Wp,Wp])))) Qv (ak (Ca ah ah #[Wp,Wp,Wp])) (by with_unfolding_all rfl)).2 rfl
theorem tG{b:Bx}(E:iL eU 58 2 X CL) :
  iH X CL b eU:=by
 intro l h;dsimp only [eU]at h ⊢;obtain⟨h1,r⟩:=h;refine dU E.g Qav (λj δ=>∃o,uw (λq:Str×Int=>WN q.2) l j/\δ=[some (.sh (.lst (l.map lp))),o]) Qcp #[_,.zero,rfl] (by rintro j δ ⟨_,_,rfl⟩;exact ew rfl) ?turn ?fin
 case turn=>
  rintro j d δ k ⟨o,e,rfl⟩;obtain⟨q,a,rfl⟩:∃q,l[j]? = some q/\lp q=d:=by rw[fR]at k;exact jK.1 k
  refine aM (c7 (cO (aJ (c_ q.2 (E.c 57) Qr (ai QfI av) trivial rfl) (t2:=.sh (.bl (WN q.2))) rfl))) (λf=>?_) (λf=>aj (aj #[_,e.next a (by simpa using f),rfl]));refine aF d9 ?_;unfold Ag;rw[YR (p:=λq:Str×Int=>WN q.2) (List.mem_of_getElem? a) (by simpa using f)];rfl
 case fin=>
  rintro δ ⟨o,e,rfl⟩;rw[ed]at e;have n:∀x∈l.map (·.1),x.length<=1000:=λx m=>by
   obtain⟨q,i,rfl⟩:=ef.1 m;exact h1 q i
  refine aF (aJ (c_ (l.map (·.1)) (E.c 56) QP (ai (bH (aJ (gY (p:=λ_=>true) (g:=λd=>T.sh (.str d.q3.toS)) Qa7 E.g.calm Qcp Qas (λC s0 t f0 s d hd=>?Ls) (Nat.le_of_lt (bz (by rw[List.length_map];lia)))) ?ceq)) av) (by dsimp only [dh];exact#[n,by rw[List.length_map];exact r]) rfl) (t2:=.sh (.bl (k9 (l.map (·.1))))) rfl) ?res
  case Ls=>
   obtain⟨q,i,rfl⟩:=ef.1 hd;exact#[rfl,λ_=>aH Qwo rfl]
  case ceq=>
   rw[cP,ej,ej,ej];rfl
  case res=>
   unfold Ag;rw[e.all];rfl
def vY{b:Bx}(E:iL fN 59 1 X CL) :
  iH X CL b fN:=by
 rintro⟨bs,nm,tr,is,os,ws,i,c⟩ h;dsimp only [fN]at h ⊢;exact aF (g6 (KN (bw QaN Qap).2 (λ_=>gK (aJ (c_ (i,bs) Qgs Qr (ai QaN Qsk) trivial rfl) (t2:=.sh (.bl (zX i bs.length))) rfl))) (λ_=>gK (aJ (c_ c (E.c 57) QP (ai QaN av) trivial rfl) (t2:=.sh (.bl (WN c))) rfl))) rfl
def vZ{b:Bx}(E:iL gZ 60 2 X CL) :
  iH X CL b gZ:=by
 rintro⟨bs,nm,tr,is,os,ws,q⟩ h;cases q with
 | put i e c=>
  apply aD E.g Q3 Qfx;refine aM (aZ QA az).1 (λ_=>?_) Qtu;exact aF (g6 (aJ (c_ (i,bs) Qgs Qr (ai QfI Qsk) trivial rfl) rfl) QpA) rfl
 | say x e c=>
  have d:=h;apply aD E.g Q3 Qfx;refine aM (aZ QA az).1 Qln (λ_=>aj ?_);refine aM (aZ QA az).1 (λ_=>?_) Qtu;exact aF (g6 Qqu QpA) rfl
 | call x=>
  have d:=h;apply aD E.g Q3 Qfx;refine aM (aZ QA az).1 Qln (λ_=>aj ?_);refine aM (aZ QA az).1 Qln (λ_=>aj ?_);exact aF (aJ (g6 (aZ QA az).2 (λ_=>gK Qqu)) (congrArg _ (by rfl))) rfl
theorem tH{b:Bx}(E:iL di 61 3 X CL) :
  iH X CL b di:=by
 rintro⟨bs,nm,tr,is,os,ws⟩ h;dsimp [di]at h ⊢;obtain⟨h1,t,v,u,s⟩:=h;apply aD E.g Qav (aQ rfl E.bB (cA E.bY E.cK Qv eS) Qr);refine aM (dM (fL (g5 (ak (aQ ((ed ..).trans h1) E.bB Qui Qr)) QD).1 (λ_=>gJ (g5 (ak (aQ ((ed ..).trans t) E.bB Quj Qr)) QD).1))) (λm=>?_) (λ_=>aj ?_)
 .simp at m
 have im:=eN (f:=λl:List Hg=>D.tup QeM) (eN (λq=>by cases q<;>rfl));refine dU E.g Q3 (λj δ=>∃k a,δ=[some _,some _,k,a])
  (cg (wJ (aJ (jF (oz:=(ws.map (·.dl)).map _) (bH (aJ (jF Qui Quj (im is) (im os) QoE) (by rw[<- fb]))) (bH (aJ (gY (p:=λ_=>true) (g:=λd=>T.sh (OC d)) Qa7 E.g.calm (cg Qt2) Qas (λC s0 y f0 x d hd=>?Ls) (gz (bz (by rw[ed];lia)))) ?ceq)) (im _) (im _) QoE) (by rw[<- fb])))) #[_,_,rfl] (by rintro j δ ⟨_,_,rfl⟩;exact ew rfl) ?turn ?fin
 case Ls=>
  obtain⟨w,hw,rfl⟩:=ef.1 hd;exact#[rfl,λ_=>aH (aq (dH 0) (ak (aV (E.ZT) ju)) ug) (eN (λq=>by cases q<;>rfl) _)]
 case ceq=>
  rw[cP,ej,ej,ej];rfl
 case turn=>
  rintro j d δ r ⟨k,a,rfl⟩;obtain⟨l,o,rfl⟩:=ef.1 (ff r);have n:=s l o;refine dU E.g Qaa (λj δ=>∃a,δ=[some _,some _,some _,a]) (mJ QcE) #[_,rfl] (by rintro j δ ⟨_,rfl⟩;exact ew rfl) ?Gb ?fin2
  case Gb=>
   rintro i d δ hi ⟨a,rfl⟩;obtain⟨q,e,rfl⟩:=ef.1 Qgy;exact aM (c7 (cO (aJ (c_ (bs,nm,tr,is.map _,os.map _,ws.map YM,q) (E.c 60) QP (ai Qv Qhj) (n q e).1 rfl) (congrArg QaM (n q e).2)))) (λm=>absurd m Wp) Qrg
  case fin2=>
   rintro δ ⟨a,rfl⟩;exact aj #[_,_,rfl]
 case fin=>
  rintro δ ⟨k,a,rfl⟩;exact aF d9 rfl
def zm{b:Bx}(E:iL gA 62 2 X CL) :
  iH X CL b gA:=by
 rintro⟨bs,nm,tr,is,os,ws,q⟩ h;dsimp only [gA]at h ⊢;cases q with
 | ur x m=>
  refine aD E.g Q3 Qfx ?_;refine aM (gb (l:=["open","shut"]) QA QaR).1 (λ_=>?_) (λa=>absurd (show x∈(["open","shut"]:AT) from h) (eR a));exact aF (aJ (c_ (m,nm) Qgs Qr (ai QfI Qfp) trivial rfl) rfl) rfl
 | num mk a1 c1 a2 c2=>
  refine aD E.g Q3 Qfx ?_;refine aM (gb (l:=["open","shut"]) QA QaR).1 (λa=>absurd (er a) h) (λ_=>aj ?_);exact aF (g6 (K0 (l:=["<","<=","=","!="]) QA (ak (cS E.xJ QP)) rfl rfl).2 (λ_=>g6 (aJ (c_ (bs,nm,tr,is,os,ws,a1,c1) (E.c 59) Q4 (ai Qv (ai QfI av)) trivial rfl) (t2:=.sh (.bl (OJ bs.length a1 c1))) rfl) (λ_=>gK (aJ (c_ (bs,nm,tr,is,os,ws,a2,c2) (E.c 59) Q4 (ai Qv (ai (aq QD ah eW) av)) trivial rfl) (t2:=.sh (.bl (OJ bs.length a2 c2))) rfl)))) rfl
def zo{b:Bx}(E:iL gB 63 3 X CL) :
  iH X CL b gB:=by
 rintro⟨bs,nm,tr,is,os,ws,src,sg,al,dd,tg,md⟩ h;dsimp [gB]at h ⊢;obtain⟨h1,⟨s,r⟩,p,n,m⟩:=h;apply aD E.g Q3 (aH (aq QD (ak (aV E.VA Qr)) Qf0) rfl);apply aD E.g Qaa (aH (aq QD (ak (aV E.Yg QP)) Qf0) rfl);refine aM (dM (fL (c7 (cO (aJ (c_ (src,nm) Qgs Q4 (ai (aq QD (ak (aV E.zg Qao)) b5) Qfp) trivial rfl) (congrArg QaM h1)))) (λ_=>fL (c7 (cO (aJ (c_ sg (E.c 31) QbB (ai (aq QD (ak (aV E.aeA QbK)) cY) av) s rfl) (congrArg QaM r)))) (λ_=>gJ (su QZ (ak (cS E.Dz Qct)) rfl rfl).1)))) (λa=>?_) (λ_=>aj ?_)
 .rw[eC p]at a;exact absurd a Wp
 refine NI (λδ=>δ=[some (.sh (jw bs nm tr is os ws)),some (.sh (.tup [.int src,.str sg,.tup Qoj,.tup dd,.int tg,.str md])),some (.sh (.int tg)),some (.sh (.str md)),none]) (λδ2 e2=>?_) (λk=>?_)
 .subst e2;refine dU E.g Qam (λj δ=>∃o,δ=[some _,some _,some _,some _,o])
   (mJ (aH (aq QD (ak (aV E.aeB QdQ)) eW) (Tv al))) #[_,rfl] (by rintro j δ ⟨_,rfl⟩;exact ew rfl) ?turn ?fin
  case turn=>
   rintro j d δ l ⟨o,rfl⟩;obtain⟨q,i,rfl⟩:=ef.1 (ff l);obtain⟨f,e⟩:=m q i;exact aM (c7 (cO (aJ (c_ (bs,nm,tr,is,os,ws,q) (E.c 62) QjF (ai Qv (ai Q1 av)) f rfl) (congrArg QaM e)))) QbG Qrg
  case fin=>
   rintro δ ⟨o,rfl⟩;exact aF d9 rfl
 obtain⟨e1,e2⟩|⟨e1,e2⟩:=n
 .refine aM (bw QA Qap).1 (λ_=>?_) (λa=>absurd e1 (eR a));refine aM (oi QZ az).1 (λa=>?_) Qsb;rw[eC e2]at a;exact absurd a Wp
 .refine aM (bw QA Qap).1 (λa=>absurd (er a) e1) (λ_=>?_);refine aM (c7 (cO (aJ (c_ (tg,nm) Qgs Q4 (ai QA Qfp) trivial rfl) (congrArg QaM e2)))) QbG Qsb
theorem uJ{b:Bx}(E:iL dN 64 4 X CL) :
  iH X CL b dN:=by
 rintro⟨bs,nm,tr,is,os,ws⟩ h;dsimp [dN]at h ⊢;obtain⟨h1,p⟩:=h;apply aD E.g Qav fW;refine dU E.g Q3 (λj δ=>∃(l:Int) (o:QcB),(∀w∈ws.drop j,l<=w.src)/\δ=[some _,some (.sh (.int l)),o])
  (cg Qt2) #[0,_,λw hw=>?_,rfl] (by rintro j δ ⟨_,_,_,rfl⟩;exact ew rfl) ?turn ?fin
 .have:=(h1 w (List.mem_of_mem_drop hw)).1;unfold zX at this;rw[gm]at this;exact er this.1
 case turn=>
  rintro j d δ k ⟨l,o,n,rfl⟩;obtain⟨w,hw,rfl⟩:∃w,ws[j]? = some w/\YM w=d:=by rw[fR]at k;exact jK.1 k
  have m:=(hH.1 hw).1;have e:ws.drop j=w::ws.drop QaF:=by rw[x7 m,(hH.1 hw).2]
  have f:=ff hw;have q:=n w (e▸eu);refine aM (dM (fL (sf Qr0 QD).1 (λ_=>gJ (c7 (cO (aJ (c_ (bs,nm,tr,is,os,ws.map YM,w.src,w.sign,w.al,w.dl.map QO,w.mf,w.mode) (E.c 63) QP (ai Qv (ai QA av)) (h1 w f) rfl) rfl)))))) (λa=>?_) (λ_=>aj ?_)
  .rw[eP We]at a;exact absurd a Wp
  refine aD E.g Qav (aH Qr0 rfl) (aj #[ _,_,λv hv=>?_,rfl]);have a:=p.drop (i:=j);rw[e]at a;exact(List.pairwise_cons.1 a).1 v hv
 case fin=>
  rintro δ ⟨l,o,_,rfl⟩;exact aF d9 rfl
theorem PL{b:Bx}(E:EX kC.N (gN kC.st) (cN kC.st) 65 5 Qac CL) :
  Af X W CL b kC:=by
 rintro⟨bs,nm,ks,es,ss,is,os,ws⟩ h d;dsimp [kC]at h d ⊢;have f:(nm.map D.str).length=nm.length:=ed ..;have i:(bs.map lp).length=bs.length:=ed ..;have d:QsF=false->fc b W (CL Qpx) _:=d;cases e:(rG ks es&&qz ks es ss) with
 | false=>
  refine aM QpE (λ_=>?_) QbG;rw[e]at d;exact Cw E.g.calm QP E.zj E.Jg (d rfl)
 | true=>
 refine aM QpE QbG (λ_=>aj ?_);have hn:nm.length<=1000:=by have:=h.nl;have:=h.l4;lia
 cases hm:k9 nm with
 | false=>
  refine aM QpL (λ_=>?_) QbG;rw[e,hm]at d;exact Cw E.g.calm Qao E.zk E.Jh (d rfl)
 | true=>
 refine aM QpL QbG (λ_=>aj ?_);cases hb:Ag bs with
 | false=>
  refine aM Qpz (λ_=>?_) QbG;rw[e,hm,hb]at d;exact Cw E.g.calm QbK E.Bw E.Ph (d rfl)
 | true=>
 refine aM Qpz QbG (λ_=>aj ?_);refine aM (c7 (cO (aJ (c_ (bs.map lp,nm.map _,lS ks es ss,is,os,ws) (E.c 61) Qct Qbu (by dsimp [di];rw[f,i];exact#[h.il,h.ol,h.nl▸h.l4,h.wl,h.dd]) rfl) rfl))) QbG (λ_=>aj ?_);refine aM (c7 (cO (aJ (c_ (bs.map lp,nm.map _,lS ks es ss,is.map _,os.map _,ws) (E.c 64) QjF Qbu (by dsimp [dN];rw[f,i];exact#[h.ww,h.wp]) rfl) rfl))) QbG (λ_=>aj ?_);exact aj #[rfl,rfl]
def DG{b:Bx}(E:EX nj (gN iK) (cN iK) 66 0 X CL)(bs nm:BC)(tv:V)(is os ws:BC)(y:Addr)(h:D.bV bs=true/\D.bV nm=true/\D.bV is=true/\D.bV os=true/\D.bV ws=true) :
  cJ X CL b (bX iK) (R6 nj y "Chart" [.lst bs,.lst nm,.val tv,.lst is,.lst os,.lst ws]) {nx:=λδ=>δ[0]? = some (some (.pin y (.ins "Chart" (oK bs nm QwY is os ws)))),rt:=λ_ _=>False}:=by
 obtain⟨h1,e,d,c,a⟩:=h;refine mU E.bY E.gU (E.ll 0).1 (ja E.pL QD h1 Qr f9).m rfl Qbj ?_;refine mU E.bY E.cK (E.ll 0).1 (ja E.pL QA e Qr f9).m rfl Qbj ?_;refine mU E.bY E.nA (E.ll 0).1 (v_ (E.ll 3).1).m rfl Qbj ?_;refine mU E.bY E.pK (E.ll 0).1 (ja E.pL Q1 d Qr f9).m rfl Qbj ?_;exact mU E.bY E.nq (E.ll 0).1 (ja E.pL QaO c Qr f9).m rfl Qbj (mU E.bY E.ny (E.ll 0).1 (ja E.pL Qbg a Qr f9).m rfl Qbj (aj rfl))
noncomputable def qI:cX nj ["self","boxes","names","tree","ins","outs","ways"] (aE iK):=p6
def Gj{b:Bx}(E:EX pJ (gN jl) (cN jl) 66 0 X CL)(ks:AT)(es ss:BA)(y:Addr)(h:True) :
  cJ X CL b (bX jl) (R6 pJ y "Tree" [.lst QcP,.lst QbW,.lst QcQ]) {nx:=λδ=>δ[0]? = some (some (.pin y QsB)),rt:=λ_ _=>False}:=by
 have hi:D.bV QxN=true:=eN Qbv _;refine mU E.fD E.jI (E.ll 0).1 (ja E.pL QD hi Qr f9).m rfl Qbj ?_;exact mU E.fD E.ck (E.ll 0).1 (ja E.pL QA (fB _) Qr f9).m rfl Qbj (mU E.fD E.lB (E.ll 0).1 (ja E.pL QZ (fB _) Qr f9).m rfl Qbj (aj rfl))
noncomputable def tK:cX pJ ["self","kinds","elders","starts"] (aE jl):=p6
theorem ZX{b:Bx}(E:EX rK.N (gN rK.st) (cN rK.st) 68 9 Qac CL) :
  Af X W CL b rK:=by
 intro p h u;dsimp only [rK,xk]at h u ⊢;have y:g7 p:=h;have G:=KU y;have u:Qcc=false->fc b W (CL p.ex.1) p.ex.2:=u;have fz:=Zx G;cases A:p.kn with
 | false=>
  have e:p.ex=(("NoName",some [("row",.int Qo1)]):Str×Option CA):=ee A;rw[A,e]at u;exact CG E.g Qav (cB (δ2:=[]) p.oX (E.c 30) Qr QpG #[Vf y,A] (u rfl)) oH
 | true=>
 have h:=Th y A;have e:p.ex=((if p.rn.tk=false then "BadTree" else if k9 p.rn.ns=false then "BadName" else "BadBox",none):Str×Option CA):=cq (by rw[A];decide);rw[A,e]at u;have en:T.lst ((p.oX.map (kH.n (Zm p.oX) (Zn p.oX))).map T.sh)=.lst (p.rn.zY.map T.sh):=by
  rw[sS y.sl,sU y.sl y.nl,Zs y.sl]
 refine aD E.g Qav (fS (d:=.lst p.rn.zY) (aJ (c_ p.oX (E.c 30).give Qr QpG #[Vf y,A] (by show T.clean (T.lst _)=true;rw[en];exact bJ (ZD h))) en) (bF _)) ?_;show cJ Qac CL b _ [some QuZ,some (.sh (.lst p.rn.zY)),none,none,none,none,none] _;generalize WU p.bn p.ns p.rows=Z;generalize p.rn=c at h u ⊢;have bW:=qk h;have aa:=h.rl;have e0:=h.ok.e0;have e1:=h.ok.e1;have hlen:c.zY.length<=sizeLine:=by
  rw[CH.zY,ed,gi,gc];lia
 have U:c.zY=idx QrH c.rows:=rfl;have O:c.lg.length<=sizeLine:=gr QsG hlen;refine kY (p:=λd=>decide ((aX d 2).toS∈cH)) (gg:=λd=>.sh d) E.g Q3 Qa7 (cg QcM) Qas (λC s0 J f0 I d hd=>?uF) hlen ?mz (by exact ew rfl) Qbp
 case uF=>
  obtain⟨i,r,_,M,_,rfl⟩:=w9 (F:=λi r=>r.nf ((i:Nat)+1:Int)) hd;exact#[(jU (aq (dH 0) (ak (aV (by exact E.jz) ju)) eW) (ak (cS (by exact E.fh) ju)) rfl).1,λz=>v_ (E2 0)]
 case mz=>
 refine K6 (i:=2) (d:=.lst c.lg) rfl (bF _) ?_;show cJ Qac CL b _ [some QxO,some QvT,some QvU,none,none,none,none] _;refine kY (p:=λ_=>true) (gg:=λd=>.sh Qbh) E.g Qaa Qa7 QdG Qas (λC s0 J f0 I d hd=>?DC) O ?pM (by exact ew rfl) Qbp
 case DC=>
  obtain⟨i,n,k,x,z,rfl⟩:=xC h hd;exact#[rfl,λ_=>aH (aq (dH 0) (ak (aV (by exact E.jz) ju)) eW) rfl]
 case pM=>
 have ek:T.lst ((c.lg.filter λ_=>true).map λd=>T.sh Qbh)=.lst ((c.ks.map .str).map T.sh):=by
  rw[xB h (g':=λr=>.sh (.str r.word)) Qch,ej,<- h.ok.kl];exact congrArg T.lst (Bp (f:=λx=>T.sh QaL) c.ks)
 rw[ek];refine K6 (i:=3) (d:=.lst Qw6) rfl (bF _) ?_;refine aD E.g Qam (fS (d:=.lst Qw7) (c_ c.es (E.c 46) Q4 (ai (d:=.lst ((Ai c.es).map .int)) (bH (aJ (gY (p:=λ_=>true) (g:=λd=>.sh QdT) Qa7 E.g.calm QdG Qas (λC s0 J f0 I d hd=>?VF) O) (t2:=.lst (((Ai c.es).map .int).map T.sh)) ?eq3)) av) (by dsimp only [jk];exact#[h.pre,e1]) (bJ (fB _))) (bF _)) ?F8
 case VF=>
  obtain⟨i,n,k,x,z,rfl⟩:=xC h hd;exact#[rfl,λ_=>aH (aq (dH 0) (ak (aV (by exact E.kD) ju)) cY) rfl]
 case eq3=>
  rw[xB h (g':=λr=>.sh (.int r.bl)) Qch,Ai,ej,ej];rfl
 case F8=>
 refine kY (p:=λ_=>true) (gg:=λd=>.sh (aX Qgb 1)) E.g Qar Qa7 QdG Qas (λC s0 J f0 I d hd=>?akv) O ?VG (by exact ew rfl) Qbp
 case akv=>
  obtain⟨i,n,k,x,z,rfl⟩:=xC h hd;exact#[rfl,λ_=>aH (aq (aq (dH 0) (ak (aV (by exact E.iA) ju)) ug) ah cY) rfl]
 case VG=>
 have es:T.lst ((c.lg.filter λ_=>true).map λd=>T.sh (aX Qgb 1))=.lst ((c.ss.map .int).map T.sh):=by
  rw[xB h (g':=λr=>.sh (aX r.cn 1)) Qch,ej,<- h.ok.sl];exact congrArg T.lst (I0 (f:=λx=>T.sh QjC) c.ss)
 rw[es];refine K6 (i:=5) (d:=.lst Qw8) rfl (bF _) ?_;show cJ Qac CL b _ [some QxO,some QvT,some QvU,some (.sh (.lst Qw6)),some (.sh (.lst Qw7)),some (.sh (.lst Qw8)),none] _;have ib:D.bV Qi2=true:=eN Qbv _;have ii:D.bV (c.is.map D.tup)=true:=qf h.ok.ow.ii;have io:D.bV (c.os.map D.tup)=true:=qf h.ok.ow.oo;have P:D.bV QiN=true:=C3 h.ok.ow.ww;have H:T.ez (.ins "Chart" Qpw)=c.d:=by
  rw[yw,Bg];rfl
 refine aD E.g QaZ (M6 (f:="tree") (t:=.ins "Tree" (sG c.ks c.es c.ss)) (HX:=uo Qi2 QiM) (QJ:=uq Qnc Qnd QiN) (λv=>(c.bs.map j0,c.ns.map D.str,v,c.is.map D.tup,c.os.map D.tup,c.ws.map WY.d)) (E.c 66) Qao
  (EE (d:=.lst Qi2) (bH (aJ (gY (p:=λd=>decide ((aX d 2).toS="box")) (g:=λd=>.sh Qgb) Qa7 E.g.calm (cg QcM) Qas (λC s0 J f0 I d hd=>?akw) hlen) ?eq5))
   (EE (d:=.lst QiM) (bH (aJ (gY (p:=λ_=>true) (g:=λd=>.sh Qps) Qa7 E.g.calm QdG Qas (λC s0 J f0 I d hd=>?akx) O) ?eq6))
    (Sj (aJ (mk_ (c.ks,c.es,c.ss) (E.c 67) QbB (ai QZ (ai Q1 Qf2)) trivial (vv _ _ _)) rfl)
     (ai (d:=.lst Qnc) (bH (aJ (c_ (c,true) (E.c 47) QbK Qvt h (bJ ii)) rfl))
      (ai (d:=.lst Qnd) (bH (aJ (c_ (c,false) (E.c 47) QbK Qvt h (bJ io)) rfl))
       (ai (d:=.lst QiN) (bH (c_ c (E.c 48) Qct Qbd h (bJ P))) av))))))
  (λv=>rfl) (λv=>#[ib,gP _,ii,io,P]) (λv=>rfl) (CN ib (gP _)) (CP ii io P)) ?ahq
 case akw=>
  obtain⟨i,r,_,M,_,rfl⟩:=w9 (F:=λi r=>r.nf ((i:Nat)+1:Int)) hd;exact#[(aZ (aq (dH 0) (ak (aV (by exact E.jz) ju)) eW) az).1,λz=>aH (aq (dH 0) (ak (aV (by exact E.iA) ju)) ug) (w6 (bW r M))]
 case eq5=>
  rw[U,Dh (p:=λd=>decide ((aX d 2).toS="box")) (g:=λd=>T.sh Qgb) (p':=RW.Ny) (g':=λr=>.sh r.cn) c.rows QrH (λi r M=>Z0 (bW r M)) (λ_ _ _ _=>rfl),UO];unfold CH.br;rw[ej,ej];rfl
 case akx=>
  obtain⟨i,n,k,x,z,rfl⟩:=xC h hd;exact#[rfl,λ_=>aH (aq (aq (dH 0) (ak (aV (by exact E.iA) ju)) ug) ah b5) rfl]
 case eq6=>
  rw[xB h (g':=λr=>.sh (aX r.cn 0)) Qch,ej,<- h.ok.nl];exact congrArg T.lst (Bp (f:=λx=>T.sh QaL) c.ns)
 case ahq=>
 have WX:c.bn.length=c.bs.length:=ed ..;have Y:=h.ok.nl;obtain⟨L,ei,li,hi⟩:=Vl c.is h.is;obtain⟨K,eo,lo,ho⟩:=Vl c.os h.os;have R:∃qs:List YL,c.ws.map WY.d=qs.map YM/\qs.map (·.src)=c.ws.map (·.src)/\(∀q∈qs,q.Ok c.ns.length c.bn.length)/\∀q∈qs,∀x∈q.dl,mB x/\mC c.bn.length x=true:=by
  have S:∀w∈c.ws,0<=w.src/\w.src<c.ns.length:=λw hw=>by
   have s1:=(h.ok.ow.ww w hw).sr.1;have s2:w.src<(c.is.length:Int):=(h.ok.ow.ww w hw).sr.2;have:=h.ok.il;lia
  have hw:=h.wn;generalize c.ws=l at S hw
  induction l with
  | nil=>exact#[[],rfl,rfl,λq s=>by(cases s),λq s=>by(cases s)]
  | cons w l ih=>
   obtain⟨q,a1,a2,a3,a4⟩:=Ta (hw w eu) (S w eu);obtain⟨qs,b1,b2,b3,b4⟩:=ih (λx j=>S x (eE _ j)) (λx j=>hw x (eE _ j));refine#[q::qs,by rw[eM,eM,a1,b1],by rw[eM,eM,a3,b2],λx j=>?_,λx j=>?_]
   .obtain rfl|j:=eg.1 j
    .exact a2
    .exact b3 x j
   .obtain rfl|j:=eg.1 j
    .exact a4
    .exact b4 x j
 obtain⟨B,V,sw,WZ,Vh⟩:=R;have iM:c.d=jw (c.bs.map lp) QiM Qvj (L.map λl=>D.tup QeM) (K.map λl=>D.tup QeM) (B.map YM):=by
  unfold CH.d;rw[ei,eo,V];rfl
 have hL:LP c.bs c.ns c.ks c.es c.ss L K B:=by
  have il:=h.ok.il;have ol:=h.ok.ow.n2;have wl:=h.ok.ow.wl;have el:B.length=c.ws.length:=by
   have:=congrArg List.length sw
   rwa [ed,ed]at this
  refine#[#[h.pre,e0,We,h.deep,h.ok.kl,h.ok.sl],Y,We,λx j=>?_,λq s=>?_,by have:=h.ok.b3;lia,by rw[li,Y,il],by rw[lo,Y];exact ol.trans il,?_,?_,?_,?_]
  .have:=(fC (h.n x j)).2.1;lia
  .have:=(h.ok.bk q s).1;lia
  .rw[el];exact gr wl Wp
  .intro l o q s;rw[<- WX];obtain o|o:=eB.1 o
   .obtain o|o:=eB.1 o
    .exact hi l o q s
    .exact ho l o q s
   .obtain⟨v,hv,rfl⟩:=ef.1 o;exact Vh v hv q s
  .intro q s;rw[<- WX];exact WZ q s
  .have a:(B.map (·.src)).Pairwise (· <= ·):=by
    rw[sw];exact rk.2 h.ws
   exact rk.1 a
 have u:(Qr1&&QvM)=false->fc b W (CL (if Qr1=false then "BadTree" else if k9 c.ns=false then "BadName" else "BadBox")) none:=u;cases o:c.lk with
 | false=>exact Yz (cB (t:=T.bad) (δ2:=[]) (c.bs,c.ns,c.ks,c.es,c.ss,L,K,B) (E.c 65) QdQ Qq4 #[hL,o] (u o)) oH
 | true=>
 refine wL (c_ (c.bs,c.ns,c.ks,c.es,c.ss,L,K,B) (E.c 65).give QdQ Qq4 #[hL,o] rfl).m ?_;exact aF QeG #[rfl,rfl]
structure PN(X:Cx)(CL:BM):Prop extends iL gG 69 10 X CL where
 PR:cu X.K QnA "row"
 nx:X.xe=λ_ _=>False
 Nd:X.ex=[]
 NA:X.env.kindOf "e" = some .local
 ek:∀p∈([("NoName",CL "NoName"),("BadTree",CL "BadTree"),("BadName",CL "BadName"),("BadBox",CL "BadBox")]:DO),OI X.K p.1 p.2 QmO [("BadRow",CL "BadRow"),("NoName",CL "NoName"),("BadTree",CL "BadTree"),("BadName",CL "BadName"),("BadBox",CL "BadBox"),("BadDeed",CL "BadDeed"),("BadWay",CL "BadWay"),("TooWide",CL "TooWide"),("NoStep",CL "NoStep")]
def PV{b:Bx}(E:PN X CL) :
  iH X CL b gG:=by
 intro p h;dsimp only [gG]at h ⊢;have l:g7 p:=h;refine aD E.g Qav (RN) ?_;cases o:(p.kn&&p.rn.lk) with
 | true=>
  refine adf E.nx ?_;refine wL (c_ p (E.c 68).give Qr Qbu #[l,o] (Mi (Vg l (gm _ _▸o).1))).m (aj ?_);refine aM (SG QD).1 (λ_=>?_) (λz=>by cases z);exact aF RN rfl
 | false=>
 have pk:∃(c:Str) (j:Qg4),p.ex=(c,j)/\((c="NoName" /\ p.kn=false/\j=(some [("row",.int Qo1)]:Option CA))\/(c≠"NoName" /\ c≠"BadRow" /\ p.kn=true))/\OI X.K c (CL c) QmO (Mq.map λn=>(n,CL n)):=by
  unfold PT.ex;cases k:p.kn with
  | false=>exact#["NoName",_,ee rfl,.inl #[rfl,rfl,rfl],E.ek ("NoName",CL "NoName") (.head _)]
  | true=>
   rw[cq Wp];by_cases h1:p.rn.tk=false
   .exact#["BadTree",none,by rw[ee h1],.inr #[Wl,Wl,rfl],E.ek ("BadTree",CL "BadTree") Qrp]
   by_cases r:k9 p.rn.ns=false
   .exact#["BadName",none,by rw[cq h1,ee r],.inr #[Wl,Wl,rfl],E.ek ("BadName",CL "BadName") Qyb]
   .exact#["BadBox",none,by rw[cq h1,cq r],.inr #[Wl,Wl,rfl],E.ek ("BadBox",CL "BadBox") (.tail _ Qyb)]
 obtain⟨c,j,he,s,f⟩:=pk;have hn:∀n∈Mq,kitOne X.K QfZ (.ref (CL n))=some (decide (n=c)):=λn h=>f.is (n,CL n) (ef.2 #[n,h,rfl]);refine adi (c:=(c,j)) (δ1:=[some QuZ,some Qgd,none,none,none]) E.st E.fm E.nx E.Nd E.g.nd Q3 E.NA (λq=>he▸ade (X:=X.pinned q) (adb (X:=X.pinned q) p E.nx (E.c 68).bad.pin Qr (ai (ak (v_ (E.ll 0).1.pin)) av) #[l,o])) QP E.DB f.xm (by exact ew rfl) (λa d t i py=>?_);refine adj E.g.nd (E.ll 1).hand (v_ (E.ll 2).1.hand) (aj #[.inr #[_,rfl],?_]);refine aM (YG QD) (λz=>by cases z) (λ_=>aj ?_);refine aD E.g Qaa (eO (ds:=[.bl (decide (("BadRow":Str)=c)),.bl (decide (("NoName":Str)=c)),.bl (decide (("BadTree":Str)=c))]) (au (jX i f.ask E.bS Q4 (ai QD (ai (ak (mS (v:=.ref QxC) Qao E.Pk rfl)) av)) (.one rfl (hn "BadRow" Wl))) (au (jX i f.ask E.bS Q4 (ai QD (ai (ak (mS (v:=.ref QnA) QbB E.O9 rfl)) av)) (.one rfl (hn "NoName" Wl))) (au (jX i f.ask E.bS Q4 (ai QD (ai (ak (mS (v:=.ref Qnl) QbK E.zj rfl)) av)) (.one rfl (hn "BadTree" Wl))) aT))) aG) ?_;refine aD E.g Qaa (jF Qcb (bH (eO (ds:=[.bl (decide (("BadName":Str)=c)),.bl (decide (("BadBox":Str)=c)),.bl (decide (("BadDeed":Str)=c))]) (au (jX i f.ask E.bS Q4 (ai QD (ai (ak (mS (v:=.ref Qnm) Qct E.zk rfl)) av)) (.one rfl (hn "BadName" Wl))) (au (jX i f.ask E.bS Q4 (ai QD (ai (ak (mS (v:=.ref QnB) QdQ E.Bw rfl)) av)) (.one rfl (hn "BadBox" Wl))) (au (jX i f.ask E.bS Q4 (ai QD (ai (ak (mS (v:=.ref Qw0) QjF E.Ji rfl)) av)) (.one rfl (hn "BadDeed" Wl))) aT))) aG)) rfl rfl aG) ?_;refine aD E.g Qaa (jF Qcb (bH (eO (ds:=[.bl (decide (("BadWay":Str)=c)),.bl (decide (("TooWide":Str)=c)),.bl (decide (("NoStep":Str)=c))]) (au (jX i f.ask E.bS Q4 (ai QD (ai (ak (mS (v:=.ref QxB) (E.gg 9) E.Pj rfl)) av)) (.one rfl (hn "BadWay" Wl))) (au (jX i f.ask E.bS Q4 (ai QD (ai (ak (mS (v:=.ref Qw1) (E.gg 10) E.Jj rfl)) av)) (.one rfl (hn "TooWide" Wl))) (au (jX i f.ask E.bS Q4 (ai QD (ai (ak (mS (v:=.ref QxD) (E.gg 11) E.Pn rfl)) av)) (.one rfl (hn "NoStep" Wl))) aT))) aG)) rfl rfl aG) ?_;refine aD E.g Qam fW ?_;obtain⟨rfl,k,rfl⟩|⟨n1,n2,k⟩:=s
 .refine aM QpH (λ_=>?_) Qca;refine aD E.g Qam (YC (m:=oW p.oX) i py (Cq ..) f.ask E.PR QD) (aj ?_);refine aM Qpv Qdm (λ_=>aj ?_);refine aF QqS ?_;show _=T.tup [.lst ((FW p.ex.1).map T.sh),.sh Qf6];rw[he,k];rfl
 .refine aM QpH (λz=>?_) (λ_=>aj ?_)
  .rw[eP (λe=>n2 e.symm),eP (λe=>n1 e.symm)]at z;cases z
  refine aM Qpv Qdm (λ_=>aj ?_);refine aF QqS ?_;show _=T.tup [.lst ((FW p.ex.1).map T.sh),.sh Qf6];rw[he,k];rfl
noncomputable def Jv:cX gG.N ["text"] (aE gG.st):=p6
theorem RM{b:Bx}(E:EX Vx (gN F5) (cN F5) 71 11 X CL) :
  Dds X CL b F5 Vx qq qu qv:=by
 intro a h;dsimp only [qu,qq,qv]at h ⊢;have Z:a.length<=1000:=by lia
 have R:=YA a;obtain⟨K,S⟩:=R5 a;have z0:=gL (bU a 3) (show(64:Int)≠0 by decide);have N:=hz (bU a 3) (show(0:Int)<64 by decide);obtain⟨e0,e1,e2⟩:=lX (sQ a);have b3:=pB (sQ a);have U:Ds (eZ (sQ a)) (og (sQ a)) (gj Qom (FQ (sQ a)) (b7 (sQ a)).length) Qom (gk Qom (FQ (sQ a)) (b7 (sQ a)).length) ((xE (sQ a) (wQ a)).is.map .tup) ((xE (sQ a) (wQ a)).os.map .tup) ((xE (sQ a) (wQ a)).ws.map WY.d)=(F3 (sQ a) (wQ a)).t:=rfl;refine aD E.g Qav (aJ (cF (sQ a,wQ a) (E.c 11) Qr (au (wJ (ds:=(sQ a).map .int) (aJ (jF (bH (gM Qv (fB _) fQ QbC)) (bH (gM Qv (fB _) QbC QbC)) ?i1 ?i2 ?i3) ?e1)) (au (aJ (bN (ak (c_ ((a,2)) Qc2 QP Qdn (show(0:Int)<=2 by lia) rfl)) ah Wp) (t2:=.sh (.int (wQ a))) (by rw[S])) aT)) #[We,K]) (t2:=(F3 (sQ a) (wQ a)).t) U) ?ahs
 case i1=>rw[gO];exact fB _
 case i2=>rw[gO];exact fB _
 case i3=>rw[gO,gO,Mt,Ms,ed,ed,hO,hO,gc];lia
 case e1=>rw[gO,gO,Mt,Ms,<- fb];rfl
 case ahs=>
 have J:=g0 (sQ a) (wQ a);have M:FT Qon (b7 (sQ a)).length (Ak a):=gx (z:=bU a 3 % 64) (c:=bU a 4) J We We;have e:(Ak a).bs.length=(eZ (sQ a)).length:=ZM QvV _ _;refine adJ (p:=λ_=>true) (g:=λd=>.sh QjL) E.g Q3 Qa7 QpR ?cl1 (λC s0 Y f0 V d hd=>?uF) (gz (bz (by show((eZ (sQ a)).map j0).length<=1000;rw[ed];lia))) ?mz (by exact ew rfl) Qbp
 case cl1=>
  intro d hd;obtain⟨q,_,rfl⟩:=ef.1 hd;rfl
 case uF=>
  obtain⟨q,_,rfl⟩:=ef.1 hd;exact#[rfl,λ_=>aH (aq (ds:=[.str q.1,.int q.2]) (dH 0) ah b5) rfl]
 case mz=>
 have e2:((((eZ (sQ a)).map j0).filter λ_=>true).map λd=>T.sh QjL)=(((eZ (sQ a)).map (·.1)).map D.str).map T.sh:=by
  rw[cP,ej,ej,ej];rfl
 show cJ X CL b _ [some QhQ,some (F3 (sQ a) (wQ a)).t,some (.lst ((((eZ (sQ a)).map j0).filter λ_=>true).map λd=>T.sh QjL)),none,none,none,none] _;rw[e2];have A:(F3 (sQ a) (wQ a)).ks.length=(b7 (sQ a)).length:=J.kl;have hf:FT Qon (F3 (sQ a) (wQ a)).ks.length QvV/\0<(F3 (sQ a) (wQ a)).ks.length/\(F3 (sQ a) (wQ a)).ks.length<=41:=#[A▸J,We,We];have ex:Ak a=(F3 (sQ a) (wQ a)).fx QdC Qgw:=rfl;have o:(F3 (sQ a) (wQ a)).bs=eZ (sQ a):=rfl;generalize F3 (sQ a) (wQ a)=s at hf ex o ⊢;refine wL (Nl (t:=.sh (.bl ((((s.f1 QdC Qgw).f2 QdC).f3 QdC Qgw).one QdC).isSome)) (λy=>(y,s,bU a 3 % 64,bU a 4,Je (sQ a))) (Ak a).t (E.c 69) Q4 (Su (E.ll 1).1 rfl rfl (Kt (bN (ak (c_ ((a,3)) Qc2 QP Qdn (show(0:Int)<=3 by lia) rfl)) ah Wp) (Kt (c_ ((a,4)) Qc2 QP Qdn (show(0:Int)<=4 by lia) rfl) ac1))) (λy _=>#[hf.1,hf.2.1,hf.2.2,z0,N]) (λy _=>rfl) (λy _=>#[rfl,.inl (by rw[ex]),trivial])) ?pM
 case pM=>
 show cJ X CL b _ [some QhQ,some (Ak a).t,some (.lst ((((eZ (sQ a)).map (·.1)).map .str).map T.sh)),none,none,none,none] _;have hn:=Vu s QdC Qgw;have G:s.bs=eZ (sQ a):=o;rw[<- ex,G]at hn;refine vh (λδ=>δ=[some QhQ,some (Ak a).t,some (.lst ((((Ak a).bs.map (·.1)).map .str).map T.sh)),none,none,none,none]) (lO (ak (aQ (n:=(eZ (sQ a)).length) ((ed ..).trans (ed ..)) E.bB Qcg Qao)) ah).1 (λq=>?_) (λq=>aj ?_) ?F8
 .have q:(1:Int)<((eZ (sQ a)).length:Nat):=er q;refine k6 (aH (aq (ds:=[.str ((Ak a).bs.getD ((Ak a).bs.length-1) (Str.empty,0)).1,.int ((Ak a).bs.getD ((Ak a).bs.length-1) (Str.empty,0)).2]) (ay (ds:=(Ak a).bs.map j0) QpR Qap (j6 (f:=j0) (Str.empty,0) (by rw[e];lia))) ah b5) rfl) Qmr Qap rfl rfl (by rw[lZ,ed];exact mY We) (aj ?_);show [_,_,some (T.lst ((((((eZ (sQ a)).map (·.1)).map D.str).map T.sh).set ((eZ (sQ a)).length-1) (T.sh (.str ((Ak a).bs.getD ((Ak a).bs.length-1) (Str.empty,0)).1))))),_,_,_,_]=_;rw[lY (f:=D.str),hn,ee We,e]
 .have q:¬ (1:Int)<((eZ (sQ a)).length:Nat):=eR q;rw[hn,cq We]
 case F8=>
 rintro δ rfl;refine K6 (i:=1) rfl (Yj (z:=bU a 3 % 64) (c:=bU a 4) M) ?_;obtain⟨PO,L⟩:=YE M K e;have k:(ZO (sQ a) (wQ a) (Ak a)).bn=(Ak a).bs.map (·.1)++[Je (sQ a)]:=rfl;have v:=R3 a;have W:(Iq a 4).length=4:=lU _ _ _;show cJ X CL b _ [some QhQ,some (.sh (ZO (sQ a) (wQ a) (Ak a)).p),some (.lst ((((Ak a).bs.map (·.1)).map .str).map T.sh)),none,none,none,none] _;have I:((Ak a).bs.map (·.1)).length=(eZ (sQ a)).length:=(ed ..).trans e;generalize (Ak a).bs.map (·.1)=nb at k I ⊢;generalize ZO (sQ a) (wQ a) (Ak a)=P at PO L k ⊢;have cls:(P.ls P.rows).clean=true:=bJ (eN Qbv _);refine aD E.g Qaa (c_ P (E.c 16) QbB (ai QD (ai (kJ (bH (jF Qcg (bH (eO (ds:=[.str Qon]) (au (aH (ay (ds:=(Iq a 4).map .str) (bH (c_ (a,4) (E.c 4) QbK Qdn (show 4<=100 by decide) (jY _))) (ak (aQ (n:=(eZ (sQ a)).length) ((ed ..).trans I) E.bB Qcg Qao)) ((dF Str.empty We (by rw[W];lia)).trans (by rw[hI,v]))) rfl) aT) aG)) (gP _) rfl (by rw[gc,ed,I];show _+1<=_;lia))) (d2:=.lst (P.bn.map .str)) (by rw[k,fb];rfl)) av)) PO cls) ?_;refine aD E.g Qam (fS (d:=.lst (P.q2.map .int)) (c_ P (E.c 21) Qct Qbd PO (gf _)) (bF _)) ?_;refine aD E.g Qar (aJ (Yb (l:=P.rows.map Qml) az (kJ Qcb (by rw[ej];rfl)) (ZP PO)) (t2:=.sh (.str (WU P.bn P.ns P.rows))) (by rw[show Txt.join "\n" (P.rows.map Qml)=Str.join "\n" (P.rows.map Qml) from StrLaws.glued_eq_join _ _];rfl)) ?_;refine aD E.g QaZ (fS (d:=P.mm) (c_ P (E.c 70) QdQ Qf2 PO ?cl9) ?fr9) ?aht
 case cl9=>exact(F4 P).1
 case fr9=>exact(F4 P).2
 case aht=>
 obtain⟨x,r,hd,H⟩:=ZQ PO L;rw[hd];have refl:∀{d:D},mK 60 d->Nz d d=true:=λh=>Es h;obtain⟨w,m⟩|⟨rfl,m,bW⟩:=H
 .rw[m];refine aM (sf (ay (ds:=[.int x,.int r]) Q1 ah b5) ah).1 (λ_=>?_) (λz=>absurd w (eR z));refine aF (Vv (d:=.tup [.lst (Dw x),.int r]) E.u Qbg (ak (aP (au (fS (d:=.lst (Dw x)) (aJ (gY (p:=λ_=>true) (g:=λd=>.sh (.bl (decide (d.iZ=x)))) (bu (.cons (E.ll 4).1 Qdi .nil) Wl) E.g.calm (fZ E.gH ah Wp QjF) Qas (λC s0 Y f0 V d hd=>?akB) (gz (bz (by simp[cI])))) (t2:=.lst ((Dw x).map T.sh)) ?e9) (bF _)) (au (aH (ay (ds:=[.int x,.int r]) Q1 ah cY) rfl) aT)) aG)) (ZR x r)) rfl
  case akB=>
   obtain⟨i,hi,rfl⟩:=ef.1 hd;exact#[rfl,λ_=>ZS (dH 0) (ay (ds:=[.int x,.int r]) (nM 1) ah b5)]
  case e9=>
   rw[cP];unfold cI Dw;rw[ej,ej];refine congrArg T.lst (hZ λi _=>?_);show T.sh (.bl (decide ((0:Int)+(i:Int)=x)))=T.sh (.bl (decide ((i:Int)=x)));rw[i0]
 .rw[m];refine aM (sf (ay (ds:=[.int 9,.int r]) Q1 ah b5) ah).1 Qtt (λ_=>aj ?_);have B:P.kn=true:=by rw[gm]at bW;exact bW.1
  have tk:P.ns.take P.c.es.length=P.c.ns:=by
   show(P.c.ns++[P.xn]).take _=_;rw[<- PO.nl,List.take_left]
  have dn:mK 60 (.lst QmG):=.lst λd hd=>by
   obtain⟨y,O,rfl⟩:=ef.1 hd;exact .str _ _ (L8 (PO.n y (e6 _ O)))
  have F:P.rn.t.ez=jw (P.rn.bs.map j0) QmG (lS P.rn.ks P.rn.es P.rn.ss) (P.rn.is.map .tup) (P.rn.os.map .tup) (P.rn.ws.map WY.d):=by
   unfold CH.t;rw[yw,Bg];rfl
  refine aF (g6 (q:=true) (SG Qbg).2 (λ_=>gK (Vv (d:=.lst QmG) E.u (cA E.bY E.cK (ak (fS (c_ P (E.c 68).give (E.gg 9) Qf2 #[PO,bW] (Mi (Vg PO B))) F)) eS) (bH (aJ (gM (ay QD ah cY) (gP _) fQ (e7 (ak (aQ (n:=P.c.es.length) ((ed ..).trans PO.kl) E.bB (ay QD ah eW) Qao)))) (t2:=.lst ((P.c.ns.map .str).map T.sh)) (by rw[gO,Ja,tk]))) dn))) rfl
noncomputable def VR:cX Vx ["script"] (aE F5):=p6
def all_mk{l:Qm3}{fa VW tL vC PY bp n t pN P O M tM vD tN vG vH L:Addr}(c:Qfj)(G:Qg9)(a0:mg "law" = some (.ref fa))
  {VX DH Gk PZ I:QaG}
  (Mz:Hf K "Chart" n) (bY:Hw K n) (VY:makesIn K n=true) (VZ:keepIn K (.ref n)=true)
  (Ao:cu K n "boxes")
  (Aq:cu K n "names")
  (DI:cu K n "tree")
  (Gm:cu K n "ins")
  (DJ:cu K n "outs")
  (DK:cu K n "ways")
  (V0:Hf K "Tree" t) (fD:Hw K t) (ZY:makesIn K t=true) (ZZ:keepIn K Qgl=true)
  (DL:cu K t "kinds")
  (As:cu K t "elders")
  (Au:cu K t "starts")
  (vI:Hf K "MoodError" pN)
  (By:Hf K "BadTree" P)
  (Jw:mR K P)
  (BD:Hf K "BadName" O)
  (Jx:mR K O)
  (Gn:Hf K "BadBox" M)
  (P0:mR K M)
  (BE:Hf K "BadDeed" tM)
  (Gp:Hf K "BadWay" vD)
  (BF:Hf K "TooWide" tN)
  (Gq:Hf K "NoStep" vG)
  (Gr:Hf K "BadRow" vH)
  (Gs:Hf K "NoName" L)
  (BG:XJ K "NoName" "row" "NoName.__init__" L (inClass (top 23) 0))
  (dc:Wq 4 (∀p∈([("NoName",L),("BadTree",P),("BadName",O),("BadBox",M)]:DO),OI K p.1 p.2 (pN) [("BadRow",vH),("NoName",L),("BadTree",P),("BadName",O),("BadBox",M),("BadDeed",tM),("BadWay",vD),("TooWide",tN),("NoStep",vG)]))
  (P4:gC K "_law_cell_at" (top 86) )
  (Z6:gC K "_law_chain" (top 87) )
  (Gu:gC K "_law_elders_by" (top 91) )
  (P5:gC K "_law_name_by" (top 88) )
  (Jy:gC K "_law_names_by" (top 89) )
  (Jz:gC K "_law_kinds_by" (top 96) )
  (Gv:gC K "_law_number_by" (top 90) )
  (P6:gC K "_law_deed_by" (top 92) )
  (V1:gC K "_law_way_by" (top 93) )
  (V2:gC K "_law_ask_by" (top 94) )
  (P7:gC K "_law_owns_by" (top 95) )
  (JA:gC K "_law_parts_by" (top 97) )
  (V3:QM K "_law_faults" pC VW VX)
  (Gw:gC K "_law_term_text" (top 98) )
  (Gy:gC K "_law_deed_text" (top 99) )
  (JB:gC K "_law_ask_text" (top 100) )
  (JC:gC K "_law_way_text" (top 101) )
  (da:gC K "_law_rows" (top 102) )
  (zq:gC K "_law_strange_deed" (top 103) )
  (Av:gC K "_law_strange_way" (top 104) )
  (Aw:gC K "_law_strange_row" (top 105) )
  (JD:gC K "_law_bad_tree" (top 106) )
  (bo:gC K "_law_due" (top 109) )
  (V4:gC K "places" (top 70) )
  (JF:gC K "place_of" (top 76) )
  (v5:gC K "numbered_term" (top 75) )
  (v7:gC K "numbered_deed" (top 74) )
  (zu:gC K "numbered_ask" (top 73) )
  (zx:gC K "numbered_way" (top 72) )
  (v8:gC K "numbered_form" (top 71) )
  (JG:gC K "numbered" (top 69) )
  (P8:gC K "is_name" (top 12) )
  (P9:gC K "name_of" (top 58) )
  (Ax:gC K "are_figures" (top 61) )
  (Gz:gC K "is_number" (top 60) )
  (GA:gC K "number_of" (top 59) )
  (Qa:gC K "term_of" (top 62) )
  (Qc:gC K "deed_of" (top 63) )
  (JH:gC K "parts_of" (top 66) )
  (Qd:gC K "goal_of" (top 67) )
  (V5:gC K "ask_of" (top 64) )
  (V6:gC K "way_of" (top 65) )
  (DM:gC K "content_of" (top 57) )
  (Qe:gC K "form_of" (top 56) )
  (GB:gC K "may_stand" (top 81) )
  (V7:gC K "formed" (top 80) )
  (GC:gC K "elders_of" (top 82) )
  (JK:gC K "deeds_of" (top 83) )
  (Qf:gC K "ways_of" (top 84) )
  (Z7:gC K "above" (top 26) )
  (Z8:gC K "depth" (top 27) )
  (rN:gC K "are_elders_right" (top 35) )
  (tO:gC K "are_kinds_right" (top 36) )
  (JL:gC K "is_place" (top 46) )
  (rO:gC K "are_starts_right" (top 37) )
  (v9:gC K "is_tree_right" (top 34) )
  (tP:gC K "are_names_right" (top 38) )
  (DN:gC K "is_bounded" (top 47) )
  (tQ:gC K "are_boxes_right" (top 39) )
  (wc:gC K "is_term_right" (top 45) )
  (wg:gC K "is_deed_right" (top 44) )
  (tR:gC K "are_deeds_right" (top 40) )
  (zy:gC K "is_ask_right" (top 43) )
  (zA:gC K "is_way_right" (top 42) )
  (uK:gC K "are_ways_right" (top 41) )
  (V8:gC K "looked" (top 33) )
  (N:Yr K n "__init__" "Chart.__init__" iK tL DH)
  (J:Yr K t "__init__" "Tree.__init__" jl vC Gk)
  (c8:gC K "read" (top 79) )
  (Qg:QM K "_law_refusal" (top 108) PY PZ)
  (B:QM K "law" F5 bp I)
  (bj:Ij K "len")
  (Z9:Ij K "range")
  (bg:Ij K "min")
  (bc:Ij K "int")
  (cf:Ij K "str")
  (cb:Ij K "abs")
  (b4:Ij K "max")
  (b0:Ij K "set")
  (GF:Ij K "enumerate")
  (d6:Ij K "tuple")
  {c5:Tok} (bt:sF K "ROW" 0 c5)
  {d5:Tok} (c4:sF K "WORD" 2 d5)
  {JM:Tok} (Qh:sF K "CONTENT" 3 JM)
  {MA:Addr} {V9:Bi} {fh:Nat} {Wa:Cc} {JN JQ JR:Tok} (d4:nsIn K mainGlobals "KINDS" = some (some (.ref MA))) (Wb:K.lookup MA=some #[.type "tuple",V9,.seq (List.toArray [.str "leaf" JN,.str "one" JQ,.str "all" JR]) fh,Wa])
  {Qi:Tok} (Wc:sF K "BLANKS" 1 Qi)
  {wj:Tok} (zB:sF K "LONGEST_NAME" 12 wj)
  {MB:Addr} {Wf:Bi} {Dy:Nat} {Wg:Cc} {JS JT JV JW JX JY JZ J1 J2 J3 GH GJ GK GL GN GO GP GQ GR:Tok} (d3:nsIn K mainGlobals "WORDS" = some (some (.ref MB))) (Wh:K.lookup MB=some #[.type "tuple",Wf,.seq (List.toArray [.str "all" JS,.str "and" JT,.str "box" JV,.str "call" JW,.str "do" JX,.str "far" JY,.str "if" JZ,.str "in" J1,.str "leaf" J2,.str "near" J3,.str "on" GH,.str "one" GJ,.str "open" GK,.str "out" GL,.str "put" GN,.str "say" GO,.str "shut" GP,.str "then" GQ,.str "to" GR]) Dy,Wg])
  {J4:Tok} (Qj:nsIn K mainGlobals "LETTERS" = some (some (.str "abcdefghijklmnopqrstuvwxyz" J4)))
  {nB:Tok} (nS:nsIn K mainGlobals "LETTERS_AND_FIGURES" = some (some (.str "abcdefghijklmnopqrstuvwxyz0123456789" nB)))
  {wk:Tok} (zC:sF K "MOST_FIGURES" 30 wk)
  {J5:Tok} (Qk:nsIn K mainGlobals "FIGURES" = some (some (.str "0123456789" J5)))
  {pO:Addr} {kO:Nat} {qJ qK qL qM qN qO:Int} {qP qQ qR qS qT qU uL uM uN uO uP uQ uR uS uT uU uV uW uX:Tok} {lC lE lF lG lH lI:Addr} {zE zF zG zH zI zJ:Bi} {Ay Az AA AF AG AH:Nat} {zK zL zM zN zO zP:Cc} (GU:nsIn K mainGlobals "FOLLOWERS" = some (some (.ref pO))) (DP:Wq 3 ((pO==sysModules)=false)) (DQ:K.lookup pO=some #[.type "dict",none,.dict ([#[qJ,.str "on" qP,.ref lC],#[qK,.str "if" qQ,.ref lE],#[qL,.str "and" qR,.ref lF],#[qM,.str "do" qS,.ref lG],#[qN,.str "then" qT,.ref lH],#[qO,.str "to" qU,.ref lI]]:List DictEntry).toArray kO,#[]]) (DR:Wq 6 (KeysLit w.params [#[qJ,.str "on" qP,.ref lC],#[qK,.str "if" qQ,.ref lE],#[qL,.str "and" qR,.ref lF],#[qM,.str "do" qS,.ref lG],#[qN,.str "then" qT,.ref lH],#[qO,.str "to" qU,.ref lI]])) (zQ:K.lookup lC=some #[.type "tuple",zE,.seq (List.toArray [.str "if" uL,.str "do" uM,.str "to" uN]) Ay,zK]) (zR:K.lookup lE=some #[.type "tuple",zF,.seq (List.toArray [.str "and" uO,.str "do" uP,.str "to" uQ]) Az,zL]) (zS:K.lookup lF=some #[.type "tuple",zG,.seq (List.toArray [.str "and" uR,.str "do" uS,.str "to" uT]) AA,zM]) (zT:K.lookup lG=some #[.type "tuple",zH,.seq (List.toArray [.str "then" uU,.str "to" uV]) AF,zN]) (zU:K.lookup lH=some #[.type "tuple",zI,.seq (List.toArray [.str "then" uW,.str "to" uX]) AG,zO]) (zV:K.lookup lI=some #[.type "tuple",zJ,.seq #[] AH,zP])
  {MC:Addr} {Wi:Bi} {xJ:Nat} {Wj:Cc} {J6 J7 J8 J9:Tok} (d0:nsIn K mainGlobals "MARKS" = some (some (.ref MC))) (Wk:K.lookup MC=some #[.type "tuple",Wi,.seq (List.toArray [.str "<" J6,.str "<=" J7,.str "=" J8,.str "!=" J9]) xJ,Wj])
  {r:Addr} {GV:QgL} {qx:Nat} {Ka Kc Kd Ke Kf Kg:Tok} (dA:nsIn K mainGlobals "RANKS" = some (some (.ref r))) (Wm:K.lookup r=some #[.type "dict",none,.dict GV qx,#[]]) (Wn:Wq 6 (KeysLit w.params GV.toList)) (Ql:nsIn K r "leaf" = some (some (.int 0 Ka))) (Qm:nsIn K r "one" = some (some (.int 0 Kc))) (Qn:nsIn K r "all" = some (some (.int 0 Kd))) (Qo:nsIn K r "in" = some (some (.int 1 Ke))) (Qp:nsIn K r "out" = some (some (.int 2 Kf))) (Qq:nsIn K r "on" = some (some (.int 3 Kg)))
  {Kh:Tok} (Qs:sF K "DEEPEST" 12 Kh)
  {Wo:Tok} (dy:sF K "DEEDS" 3 Wo)
  {Qt:Tok} (Wr:sF K "TARGET" 4 Qt)
  {dw:Tok} (c3:sF K "MODE" 5 dw)
  {Qu:Tok} (Ws:sF K "SOURCE" 0 Qu)
  {du:Tok} (cw:sF K "SIGN" 1 du)
  {MD:Addr} {Wt:Bi} {Dz:Nat} {Wu:Cc} {Kl Km Kn:Tok} (dt:nsIn K mainGlobals "MODES" = some (some (.ref MD))) (Wv:K.lookup MD=some #[.type "tuple",Wt,.seq (List.toArray [.str "new" Kl,.str "near" Km,.str "far" Kn]) Dz,Wu])
  {dr:Tok} (cv:sF K "ASKS" 2 dr)
  (cp:Ij K "list")
  (DS:Ij K "isinstance")
  (DT:Ij K "ValueError")
  (y_bool:Ij K "bool")
  : ∃fd:FuncData,(∀(s:Qb) (v:Value),BindsTo s fd #[[v],[]] [("script",v)])/\∀base:Heap,K.In base->base.Ns mainGlobals mg->eX l.prog w K mg base pT 12 fa fd ["script"] (G7 K QnM 1 qq qu qv):=by
 have e:=a0.symm.trans (fA c G B.m);cases e;obtain⟨o,j⟩:∃o,o=uY K:=#[_,rfl];have ba:∀x,xU x=true->o x=0:=λx h=>j▸YJ h;obtain rfl:=jv j Mz;obtain rfl:=jv j V0;obtain rfl:=jv j vI;obtain rfl:=jv j By;obtain rfl:=jv j BD;obtain rfl:=jv j Gn;obtain rfl:=jv j BE;obtain rfl:=jv j Gp;obtain rfl:=jv j BF;obtain rfl:=jv j Gq;obtain rfl:=jv j Gr;obtain rfl:=jv j Gs;have DU:=N.bA ["self","boxes","names","tree","ins","outs","ways"];have GY:=J.bA ["self","kinds","elders","starts"];have eb:=fA c G B.m;have ea:=B.bA ["script"];have dq:=fA c G Mz;have cm:=fA c G V0;have GZ:=fA c G vI;have Qw:=fA c G By;have Qx:=fA c G BD;have Ww:=fA c G Gn;have Qy:=fA c G BE;have Wx:=fA c G Gp;have Qz:=fA c G BF;have Wy:=fA c G Gq;have Wz:=fA c G Gr;have WB:=fA c G Gs;have dm:=fA c G d4;have dk:=fA c G d3;have G3:=fA c G GU;have dj:=fA c G d0;have df:=fA c G dA;have de:=fA c G dt;have ec:yl w K mg o:=#[ir c G bj,ir c G Z9,ir c G bg,ir c G bc,ir c G cf,ir c G cb,ir c G b4,ir c G b0,ir c G GF,WB,ir c G d6,#[_,fA c G bt],#[_,fA c G c4],#[_,fA c G Qh],Lc dm Wb,#[_,fA c G Wc],#[_,fA c G zB],Lc dk Wh,#[_,fA c G Qj],#[_,fA c G nS],#[_,fA c G zC],#[_,fA c G Qk],#[_,_,_,G3,DP.1,DQ,DR.1,L2.p9 (Ox zQ) (L2.p9 (Ox zR) (L2.p9 (Ox zS) (L2.p9 (Ox zT) (L2.p9 (Ox zU) (L2.p9 (Ox zV) L2.adt)))))],Lc dj Wk,#[_,_,_,df,Wm,Wn.1,λk z g=>by
   obtain⟨rfl,rfl⟩|g:=L3.p8 g
   .exact#[_,Ql]
   obtain⟨rfl,rfl⟩|g:=L3.p8 g
   .exact#[_,Qm]
   obtain⟨rfl,rfl⟩|g:=L3.p8 g
   .exact#[_,Qn]
   obtain⟨rfl,rfl⟩|g:=L3.p8 g
   .exact#[_,Qo]
   obtain⟨rfl,rfl⟩|g:=L3.p8 g
   .exact#[_,Qp]
   obtain⟨rfl,rfl⟩|g:=L3.p8 g
   .exact#[_,Qq]
   cases g],fD,As,#[_,fA c G Qs],DL,Au,bY,Ao,#[_,fA c G dy],Aq,Gm,DJ,DK,#[_,fA c G Wr],#[_,fA c G c3],#[_,fA c G Ws],#[_,fA c G cw],Lc de Wv,#[_,fA c G cv],Qw,Jw,Qx,Jx,Ww,P0,Qy,Wx,DI,ir c G cp,GZ,ir c G DS,Wz,Qz,Wy,ir c G DT,ir c G y_bool]
 refine#[I,?bind,λbase _ _=>?_]
 case bind=>
  obtain⟨dV,oc,od,kV,doc,pm,an,dO,ct,BP,rfl,lk,iM⟩:=B.ex;cases (show dV=.none from B.dn);exactλs v=>.of_eq rfl
 have QB:=SS l.prog w mg base c G BG;have q:=@JU l.prog w mg base K h o c G;have qm:=@S3 l.prog w mg base K h o c G;have r0:RR l.prog w K mg base o h 0:=#[c,G,ec,λi h=>by cases h];have r1:=qC r0 ql P4 Pp;have r2:=qC r1 xD Z6 ZU;have r3:=qC r2 jg Gu F6;have D:=qC (qC (qC (qC (qC (qC (qC (qC (qC r3 jP P5 Pq) kg Jy Jk) kh Jz Jl) jh Gv F7) iV P6 Pr) oZ V1 VC) pe V2 VD) lW P7 Pu) ki JA Jm;have WC:=qm 0 m8 ng nh m9 V3  Pw λd u=>VH (by exact mv u D d);have aO:=qC (qC (qC (qC (qC (qC (qC (qC (qC (qC (qC D gu Gw F9) fE Gy Ga) iW JB Jo) iX JC Jp) y9 da aeF) gw zq zl) gR Av Al) gS Aw Am) ko JD Jr) FU bo RO) sW V4 VL;have aI:=rs aO λY d=>z3.mk ((QB)) d;have ax:=qX aI g8 JF Gd;have aw:=qX ax dB v5 uG;have ar:=qX aw dD v7 uH;have ag:=qX ar dY zu vV;have af:=qX ag dZ zx vW;have ae:=qX af eF v8 uI;have aa:=qX ae g9 JG Ge;have Z:=qC (qC (qC (qC (qC (qC (qC (qC (qC (qC (qC (qC aa mh P8 Py) mj P9 Pz) gT Ax An) gy Gz Gf) ji GA Gg) mq Qa PB) jQ Qc PD) kr JH Js) jR Qd PF) pD V5 VM) sY V6 VN) gF DM DE;have X:=qC (qC (qC (qC (qC (qC (qC (qC (qC (qC (qC (qC Z mw Qe PJ) jj GB Gh) sZ V7 VP) jk GC Gi) ku JK Jt) qp Qf PK) xG Z7 ZV) xH Z8 ZW) cU rN rL) dg tO tE) kB JL Ju) cV rO rM;have V:=qC (qC (qC (qC (qC (qC (qC (qC (qC (qC X fM v9 vX) dh tP tF) iJ DN DF) eU tQ tG) fN wc vY) gZ wg vZ) di tR tH) gA zy zm) gB zA zo) dN uK uJ;have A:=qX V kC V8 PL;have DV:eX l.prog w K mg base pT 1 tL _ ["self","boxes","names","tree","ins","outs","ways"] (qw K o "Chart" 7 pF pG pH):=KW N.1 qI λdO Ar outer s H E b a y d F=>by
  obtain⟨p0,p1,p2,p3,p4,p5⟩:=a;refine DG ?_ p0 p1 p2 p3 p4 p5 y F;exact mv #[#[qI.nd,rfl,.never],d.units] A d
 have G4:eX l.prog w K mg base pT 1 vC _ ["self","kinds","elders","starts"] (qw K o "Tree" 4 qF qG qH):=KW J.1 tK λdO Ar outer s H E b a y d F=>by
  obtain⟨p0,p1,p2⟩:=a;refine Gj ?_ p0 p1 p2 y F;exact mv #[#[tK.nd,rfl,.never],d.units] A d
 have U:=rs A λY d=>Fm.mk #[_,_,_,#[VY,N.a,N.i,VZ],DV,dq,DU] d;have T:=rs U λY d=>Fm.mk #[_,_,_,#[ZY,J.a,J.i,ZZ],G4,cm,GY] d;have C:=qX T rK c8 ZX;have QC:=q 10 (FO gG.f) (Fh gG.f) (Ep gG.f) Qg  Jv λd u p=>PV (by exact#[mv u C d,BG.tk,rfl,rfl,rfl,dc.1]) p;have S:=rs C λY d=>z4.mk WC d;have R:=rs S λY d=>Fc.mk QC d;have bq:eX l.prog w K mg base pT 12 _ _ ["script"] (G7 K o 1 qq qu qv):=xY B.1 VR λdO Ar outer s H E b a _ d F=>by
  refine RM ?_ F;exact mv #[#[VR.nd,rfl,.never],d.units] R d
 exact bq.imp (acK Qbv Qbv ba)
def walk{l:Qm3}{q:Q2}{loose:AT}{m:QmQ}{e:Qmb}{d:DefRec}{K:Params->Frag}(hn:l.most=some 63)(b:Qmh)
  (i:∀(w:World) (h:Heap),e w h->(K w.params).In h)
  (F:∀(w:World) (mg:BS) (c:Addr) (h:Heap),(K w.params).In h->h.Ns mainGlobals mg->mg d.name=some (.ref c) →
   ∃fd:FuncData,(∀(s:Qb) (u:Value),BindsTo s fd #[[u],[]] [("script",u)])/\∀base:Heap,(K w.params).In base->base.Ns mainGlobals mg->eX l.prog w Qf3 mg base pT 12 c fd ["script"] (G7 Qf3 QnM 1 qq qu qv)) :
  PySem.W.WalkO q loose m e l.row.toRowW d [] QkZ:=
 L2.Xj (n:=63) (k:=12) (x:="script") (CX:=λ_=>pT) (sp:=λw=>G7 Qf3 QnM 1 qq qu qv) hn Wp b #[rfl,Wp,Wp] i F (λ_ _ a ns g _ j=>acG rfl g rfl j) λ_ _ _ _ _ z=>z
end Law
end
namespace PySem.W.Fast
def tw15287409918554162464:=0
def tw5946812305846778534:=0
def tw10669757040117642767:=0
def tw10291221399825999936:=0
def tw8138028737614936236:=0
def tw10297951416260116777:=0
def tw14712250434846830921:=0
def tw10250550737987442890:=0
def tw9657635327150920752:=0
def tw9641531110691771162:=0
def tw16546873858436179053:=0
def tw16929151001393303546:=0
def tw13598467636914831469:=0
def tw436982772477049274:=0
def tw8263160541039011248:=0
def tw15239073001310630369:=0
def tw4930237707261854650:=0
def tw7412410452771113791:=0
def tw15142700199757129902:=0
def tw2226597950735737790:=0
def tw16499897382235138597:=0
def tw9447566923833862526:=0
def tw2594802987562411933:=0
def tw15895730214199864023:=0
def tw18090689874823870599:=0
def tw3150853317005204488:=0
def tw2636830339551206216:=0
def tw17642278487446926934:=0
def tw6888126133296758883:=0
def tw8725464596636662219:=0
def tw11997191916110656230:=0
def tw14125239589854315470:=0
def tw4252324629824111751:=0
def tw17728453951622849247:=0
def tw13517273187340281088:=0
def tw3996185223046780123:=0
def tw3253701898854328413:=0
def tw14964819171939542463:=0
def tw17028470148613623779:=0
def tw3745726298079889115:=0
def tw650004781567657138:=0
def tw8724049705261560203:=0
def tw10870307048966437682:=0
def tw14226277680842092836:=0
def tw4173331650295871443:=0
def tw18134252092219188604:=0
def tw6935766492142581991:=0
def tw9400184237658376089:=0
def tw14491913684688659732:=0
def tw11281932686423925223:=0
def tw13513286410359535997:=0
def tw17998126774024767632:=0
def tw13179592688525742220:=0
def tw833459331093470933:=0
def tw5879482559611883182:=0
def tw7081433770980912167:=0
def tw9676781395753169021:=0
def tw16694306032022244767:=0
def tw10237237679531039353:=0
def tw6307183876905875246:=0
def tw5545916138660782898:=0
def tw17122279401030845909:=0
def tw7953517253235362892:=0
def tw2014639292810557646:=0
def tw8242581821588891211:=0
def tw12130855456576027218:=0
def tw15491202850338904011:=0
def tw863022155156631215:=0
def tw4490458620108165981:=0
def tw4091103966168374436:=0
def tw5597833679783609320:=0
def tw8955396295739900318:=0
def tw6207527893166091884:=0
def tw5399494845078520298:=0
def tw11630026272255721810:=0
def tw8001214377341699731:=0
def tw11217302659080881235:=0
def tw8905290972207931883:=0
def tw4464842187404816899:=0
def tw12427188717176598402:=0
def tw3258051512332432689:=0
def tw15779793693767163193:=0
def tw13136536856785989983:=0
def tw14006059211933232270:=0
def tw6019127776719376167:=0
def tw6945412526839484428:=0
def tw7988644563754034707:=0
def tw11147792907556946680:=0
def tw17017270716427844558:=0
def tw9233579420273682315:=0
def tw1338170933446035823:=0
def tw8570300918262030221:=0
def tw16560348053147425609:=0
def tw6786639676840433716:=0
def tw15468472842789958609:=0
def tw12072524002612169833:=0
def tw12073542221419187295:=0
def tw11682286813955513727:=0
def tw8154125154828308778:=0
def tw16481399116656746248:=0
def tw10410202103264006559:=0
def tw55004259152462743:=0
def tw3108795665916164269:=0
def tw12708665834739535932:=0
def tw188952079591698263:=0
def tw12983933092749412674:=0
def tw5759402262779331868:=0
def tw4952956563989832767:=0
def tw12740006860109630902:=0
def tw112607755432709449:=0
def tw17154270020823170659:=0
def tw17592463480956188686:=0
def tw2559380639960102571:=0
def tw14030285513098198858:=0
def tw6731442020644866640:=0
def tw6819296275707466362:=0
def tw1125479638963773926:=0
def tw8103240131344697946:=0
def tw8774480406508885884:=0
def tw11737578885034512882:=0
def tw326388729305373465:=0
def tw15077247193180967127:=0
def tw5870436318621553632:=0
def tw16157687083931018703:=0
def tw4862928296615340269:=0
def tw8126955309951006242:=0
def tw3942030268732458837:=0
def tw9687294184228951394:=0
def tw5957766036271453476:=0
def tw8954457114616094403:=0
def tw17967137163406287206:=0
def tw11533574800318810608:=0
def tw3361920219863660403:=0
def tw10454149945587073574:=0
def tw3065200291465745357:=0
def tw10250663400961467680:=0
def tw2110257807398627523:=0
def tw13113770262768122450:=0
def tw8231789900407453524:=0
def tw4213150608531862445:=0
def tw2379894371016031636:=0
def tw4473237885105504405:=0
def tw4031369190476643707:=0
def tw16554097015332024638:=0
def tw13569862189765165630:=0
def tw8161806513388031049:=0
def tw16261556507984256717:=0
def tw14305201790796809275:=0
def tw9059705207266121394:=0
def tw17158044370357212507:=0
def tw17909093699149319860:=0
def tw15771015954707663747:=0
def tw1547179090711049965:=0
def tw18207606147294975119:=0
def tw12951046840540816401:=0
def tw11803360495806822520:=0
def tw8235466973256089914:=0
def tw2977551253250406111:=0
def tw5255315435075735383:=0
def tw11919147090326912533:=0
def tw13742531364173163826:=0
def tw10753678062908502345:=0
def tw5250262586540907220:=0
def tw11984000113494032349:=0
def tw5763430131595675037:=0
def tw12440615617900810932:=0
def tw14453855576837061847:=0
def tw12877469994237568093:=0
def tw16061819180069665911:=0
def tw97584486623120447:=0
def tw5355400610659933418:=0
def tw6154542516086852394:=0
def tw10464629652198534548:=0
def tw9311184066203863844:=0
def tw12963930254246763313:=0
def tw2882470726125081299:=0
def tw11407065382420362735:=0
def tw18184945379092047386:=0
def tw8325978595269080429:=0
def tw11936231081273210428:=0
def tw14257202706778883011:=0
def tw17395178848715603138:=0
def tw15358172384217493291:=0
def tw8735692835646205881:=0
def tw2225559829995242282:=0
def tw17445171814010683679:=0
def tw12321850491789985505:=0
def tw10510779966714077379:=0
def tw12073138798583946874:=0
def tw16437202706974470254:=0
def tw17400314849768807215:=0
def tw15630179191664661800:=0
def tw12811722208849357393:=0
def tw7742952393992966307:=0
def tw2684749906229649760:=0
def tw18267184535058483476:=0
def tw7054771240679490350:=0
def tw3226070322609934440:=0
def tw7221032790177859096:=0
def tw1758565304040893435:=0
def tw9295037992459560484:=0
def tw4914125286213590735:=0
def tw17686557933502489283:=0
def tw11690508963554086147:=0
def tw10509138562411374537:=0
def tw9163639976122532760:=0
def tw11683155024578950658:=0
def tw3684360430515725068:=0
def tw166668551192319606:=0
def tw13089217417265407648:=0
def tw9152310329974991587:=0
def tw17627650787547563965:=0
def tw7277835838255785582:=0
def tw5020966630346410146:=0
def tw3918866125978338042:=0
def tw2659893909143064495:=0
def tw2605234164408005942:=0
def tw18339194485364242597:=0
def tw17925164014046731229:=0
def tw12881361368527863335:=0
def tw11936967374980783380:=0
def tw15200094974292823215:=0
def tw2492444659207856094:=0
def tw16389628933608066935:=0
def tw8073002374960742839:=0
end PySem.W.Fast
open PySem PySem.W PyProof.Rows
set_option maxRecDepth 100000 in
set_option maxHeartbeats 0 in
theorem PySem.Challenge.cw_moodtree_k22_names_and_refusals_holds : PySem.Challenge.rw_moodtree_k22_names_and_refusals.Holds := by
 w_on; o_law; k_head; (case hw => w_witness2)
 k_fill
 refine Law.walk (l := PySem.Challenge.rw_moodtree_k22_names_and_refusals) rfl rfl (λw h Y => PySem.W.kIn_of Y) ?F
 case F =>
   intro w mg fa h KX G hmg
   apply Law.all_mk KX G hmg
   all_goals first | exact L3.Wq.mk (n := 1) rfl | (refine L3.Wq.mk (n := 2) ?_; kernel_rfl) | (refine L3.Wq.mk (n := 3) ?_; decide) | (refine L3.Wq.mk (n := 4) ?_; repeat' (first | exact L3.adF | apply L3.YD | exact L3.adG | apply L3.YF | apply L2.jW.mk | kit_is | kts_exm | k_is | decide +kernel)) | (refine L3.Wq.mk (n := 6) ?_; k_keys) | (apply L3.fnX <;> k_is) | (apply L3.fn1 <;> k_is) | (apply L3.adE <;> first | k_is | kernel_rfl) | (apply L3.xj <;> first | (apply L3.fn2 <;> k_is) | k_is | kernel_rfl) | (apply L3.fn2 <;> k_is) | (apply L2.Hw.mk <;> k_is) | ((try delta L3.Hf); (try delta L2.cu); (try delta L3.Ij); (try delta L3.sF); k_is)
