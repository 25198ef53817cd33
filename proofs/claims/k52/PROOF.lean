import PyProof.Rows.All
import Wide.All
import OpenK.AllK
import Wide.FinOn
import Lean
import PyProof.EqAt
import PyProof.EqKinds
import PyProof.TupleCall
import PySem.Challenge.RW_moodtree_k52_whole_table_walked
set_option Elab.async false
set_option linter.all false
set_option maxRecDepth 100000
set_option maxHeartbeats 4000000
open PySem.W (instObj hideAll Frag lookIn plainGet hasDictIn findIn handedIn plainGet_of isFn plainOver takerIn any_some makesIn emptyDict keepIn methodCall_KW cellsFrom_some fnOf codeIn kla_obj CodeHd envX kla_fn codeHdIn codeHd_of_K tabObj nsOkIn nsIn tailIn exmOne mroIn kas_item kas_range kas_cmp)
theorem We{p:Prop}(h:p:=by lia):p:=h
def Wi{p:Prop}(h:p:=by decide +kernel):p:=h
def Wl{p:Prop}(h:p:=by decide):p:=h
def Wp{p:Prop}(h:p:=by simp):p:=h
theorem WA{p:Prop}(h:p:=by simp_all):p:=h
theorem WE{p:Prop}(h:p:=by grind):p:=h
theorem WF{p:Prop}(h:p:=by simp;lia):p:=h
open Lean in
def qqM (k:Name) (x:List Syntax):Syntax:=.node .none k x.toArray
open Lean in
def qqL (x:String):Syntax:=.atom .none x
open Lean in
def qqN (x:String):Syntax:=mkIdent x.toName
open Lean in
def qqC (x:List Syntax):Syntax:=qqM nullKind (x.intersperse (qqL ","))
open Lean in
def qqS (q:List Syntax) (t:String):List Syntax:=
 let r:=(t.drop 1).toString;let n:=r.toNat?.getD 1;let s:=q.drop n;let a:=(q.take n).reverse;let y:=q.headD .missing;let o:=q.tail;let x:=o.headD .missing;let w:=o.tail;let p:=qqM ``Parser.Term.hygienicLParen [qqL "(",qqM hygieneInfoKind [mkIdent .anonymous]]
 match t.front with
 | '@'=>qqM ``Parser.Term.app [s.headD .missing,qqM nullKind a]::s.tail
 | '['=>qqM `«term[_]» [qqL "[",qqC a,qqL "]"]::s
 | '<'=>qqM ``Parser.Term.anonymousCtor [qqL "⟨",qqC a,qqL "⟩"]::s
 | ','=>qqM ``Parser.Term.tuple [p,qqM nullKind [a.headD .missing,qqL ",",qqC a.tail],qqL ")"]::s
 | '.'=>qqM ``Parser.Term.dotIdent [qqL ".",qqN r]::q
 | '!'=>qqM ``Parser.Term.explicit [qqL "@",qqN r]::q
 | '\''=>Syntax.mkStrLit r::q
 | '_'=>(if r.isEmpty then qqM ``Parser.Term.hole [qqL t] else qqN t)::q
 | '='=>qqM ``Parser.Term.namedArgument [qqL "(",qqN r,qqL ":=",y,qqL ")"]::o
 | '>'=>qqM ``Parser.Term.proj [y,qqL ".",if r.isNat then Syntax.mkLit fieldIdxKind r else qqN r]::o
 | '~'=>qqM (.mkSimple s!"term{r}_") [qqL r,y]::o
 | '^'=>qqM ``Parser.Term.arrow [x,qqL "→",y]::w
 | '`'=>qqM (.mkSimple s!"term_{r}_") [x,qqL r,y]::w
 | ':'=>qqM ``Parser.Term.typeAscription [p,x,qqL ":",qqM nullKind [y],qqL ")"]::w
 | '?'=>qqM `termIfThenElse [qqL "if",w.headD .missing,qqL "then",x,qqL "else",y]::w.tail
 | '\\'=>qqM ``Parser.Term.fun [qqL "fun",qqM ``Parser.Term.basicFun [qqM nullKind [if r=="_" then qqM ``Parser.Term.hole [qqL r] else qqN r],qqM nullKind [],qqL "=>",y]]::o
 | _=>(if t.isNat then Syntax.mkNumLit t else if t=="Prop" then qqM ``Parser.Term.prop [qqL t] else qqN t)::q
def qqT:Array String:=("
Shared

E.gg 0 @













model X.prog X.w @2








.refl _ @



Inv X pins Y H s @5










av E.ll 0 @ @

av E.ll 1 @ @


j 1 `+






E.gg 1 @
av E.ll 2 @ @
es.length 1 `-
au ks @

List bN @



E.gg 2 @
A Prop ^
av E.ll 5 @ @
av E.ll 3 @ @
.ref f @
QJs
.ref a @
QJt
av E.ll 4 @ @
.inl rfl @
E.gg 3 @
E.ll 4 @
E.ll 2 @
trivial \\_ \\_ \\_
k1.trans k2 @
e es `::
AC X e es @3
.ref C @
E.ll 3 @
QJu
E.ll 5 @
QJv
QJw
trivial \\_ \\_ \\_ \\_
model prog w @2
QJx
bD K CL b H Z U Y ts vs @9
.inr rfl @
n 1 `+
.Name x pos @2
AL X pos es @3
i5 rfl @
bK ks @
v_ E.ll 0 @ >1 @
dD I q Wp @3
jZ ws a @2
some t @
E.gg 4 @
v_ E.ll 2 @ >1 @
eu au ks @ es ch Q3 @4
.cons h r @2 \\r \\h \\_ \\_
qu c a >2 @2
bX cQ dY hs @3
E.ll 6 @
av QaR @
aX ks @
QJy
QJz
.Name x pp @2
bU X CL b e U t δ1 @7
v vs `::
k 1 `+
QJA
.nil \\_
ws.map f7 @
.ins c fs @2
d7 aF isAll es ss mem @5
X.A.units 64 `+ cLine `<
ao st @
.int i @
dF bM kx _ @ @2
ig ks es w @3
dP ks es ss @3
.sh d @
some v @
i 1 `+
QJB
aD QP ai rfl @3
EP X pins Y Q @4
jZ ws some @2
QJC
L2.Inv X pins Y H s @5
trivial \\_
.str x @
s.heap.objs.size 1 `+
es.map .int @
.Call QaW Qap [0 pos @4
.lst xs @
E.gg 6 @
.tup xs @
.int _ @
QJD
QJE
cN X CL b e1 U .int i @ δ1 @7
v_ E.ll 3 @ >1 @
v_ E.ll 1 @ >1 @
False \\_ \\_
vL E.ll 3 @ >1 @
X.i4 XE X W @2 @
tK X.stack @
upd H a o @3
.dT gs en @2
.dK kvs @
E.gg 5 @
QJF
QJG
QJH
.cons h k a kq _ b @2 @2 \\b \\a @ r k a jN _ b @2 @2 \\b \\a @ @2 \\k \\r \\h \\_ \\_
i8.mp b @ >elim h a @ r a @ @2 \\b \\a \\r \\h \\_ \\_
dO X scope Nc C s H fp @7
absurd b lL @2 \\b \\a
es.getD src.toNat 0 @2
List fB List gk @ `× @
v_ E.ll 5 @ >1 @
toN c p QaP @3
.sh .int n @ @
E.ll 7 @
res a @
.ref p @
bG st @
QJI
QJJ
QJK
QJL
QJM
QJN
cN X CL b e2 δ1 .int j @ U2 @7
ds.map T.sh @
ops.map .int @
l.map .int @
.bl true @
.ref it @
.ref e @
some t0 @
gB ws @
t ts `::
QJO
QJP
QJQ
QJR
fj X.env scope.names [0 @3
cO E.ll 0 @ >1 rfl @2
bD K CL b H Z U Y t ts `:: v vs `:: @9
.ref s.heap.objs.size @
he pins s Y H _ I h @7
GC cd mo fl pl rs s @6
absurd a Wl @2 \\a
Bu s es es.length @3
s.map .int @
vL E.ll 4 @ >1 @
.lst ds @
a sysModules `==
rfl \\_ \\_
ns.map V.int @
ks.map .str @
jd ks es ws @3
k1.trans c @
arg a @
ps.zip us @
model P w @2
gB ws i @2
Y4 es ws @2
some v0 @
k 1 `+ j `+
QJS
QJT
QJU
QJV
QJW
kU aX ks @ au ks @ es ss mem false es.length false p @9 \\p
decide p cT es u tg @3 `∈ @ ~! \\p
aD Qai ai gA @3
ah QP ah ai aA @2 @2
mem.map .int @
j9 _ rfl <2 @
rfl \\_
q \\q \\_
c.trans a @
.tabs p >2 @
aL q hn @2
.Xr q @
QJX
QJY
QJZ
QJ0
QJ1
QJ2
QJ3
.Compare e1 .NotEq [1 e2 [1 pos @4
cN X CL b e U .lst ds @ δ1 @7
decide x u `≠ @ \\x
.Subscript e1 e2 pos @3
bV E.bY E.cZ QP fQ @4
absurd q lL @2 \\q
I.cV.fresh js _ @ @
trivial \\_ \\_
vL E.ll 2 @ >1 @
some Qae @
ss.map .int @
.sh c.d @
1 j Int : `+
0 i Int : `+
fW P w @2
I.tok _ @
.kT kvs @
.ref x @
g1 g2 `++
.int n @
E.gg 7 @
c 4 `/
nU ws @
f e `++
QJ4
QJ5
QJ6
QJ7
QJ8
QJ9
QKa
QKb
QKc
QKd
QKe
QKf
swapsWith e some .Name x pos' @2 @ pos.line X.env @4 pure false @ `=
.ListComp elt tg iter ifs 0 <4 [1 scope pos @4
backToKw pos keywordEach [0 X.env @2 @2
e _ _ h @3
decide x m `= @ ~! \\x
.sh .tup ds @ @
s.fl.map jT @
Nk ks es ss mem @4
GB X.prog X.w @2
us.reverse vs `++
au ks s @2 \\s
some Qbb @
U.set i none @2
.lst Qb3 @
jg s.rs @
vL E.ll 6 @ >1 @
v_ E.ll 7 @ >1 @
ah Q2 aA @2
c.bs.map k9 @
ak iD ai @ @
CL 'Growth @
E.ll 8 @
CL 'Chart @
CL exc a @ @
X.pinned p @
.inl w @
.dct kvs @
f.trans c @
fZ We We @2
n 1 `-
.inl z @
cR rfl @
.tup ds @
qJ j sg @2
es x [1 `++
kv >1 k `=
.int x @
fp gp `++
i3 _ a @2
rN p w @2
Rb s j @2
g i j @2
.bl b @
QKg
QKh
QKi
QKj
QKk
QKl
QKm
QKn
QKo
QKp
E.ll 1 @
dO X scope Nc s3.heap.objs.size s3 upd H s.heap.objs.size .lst [0 @ @3 fp @7
r k a i3 _ b @2 @2 \\b \\a @
dg X.prog X.w X.K X.mg X.base CX k f fd ps sp @11
.Call .Attribute QaW m apos @3 Qap [0 pos @4
kvs.any decide kv >1 k `= @ \\kv @
ay keep a kq _ c @2 @2 @ \\c \\a
List.replicate es.length 1 ~- @2
.Compare e1 .NotIn [1 e2 [1 pos @4
Bt ws ops sg es Wm ks ops @2 @5
c.es.length 1 `-
j4 n.hi n.hv n.hd n.jO @4
.Name 'isinstance pp @2
CL 'TooWide @
tX E.bY E.dQ QaH gj @4
c a b i @3 \\i \\_ \\b \\a
starEach Qap X.env @2
ah QP ah QR aA @2 @2
eu isAll es ch Q3 @4
ah Qad aA @2
s.fl.getD n [0 [0 ,2 @2
.lst p >1 >map .int @ @
.lst p >2 >map .int @ @
.ins C dx fs @3
0 i `≤ i ws.length `< `∧
.sh .lst Qco @ @
.ins CL c @ dx gs @3
.lst tl @
z.elim \\z \\_
.builtin id @
.Dict [0 [0 pos @3
Y.set i Qbc @2
aD Q2 ai rfl @3
aD Qac ai tM @3
.sh Qcq @
.str sg @
TP X pins Y Q @4
.pin y QhU @2
vM E.ll 2 @ >1 @
v_ E.ll 4 @ >1 @
R.drop i 1 `+ @
es.length 1 `+
es.getD x 0 @2
f1 f2 d `++ `++
jZ c.ws b @2
CL 'Table @
.dT kvs en @2
.ref p @ vs `::
.lst us @
X7 ps @ δc `++
some QeU @
.sh Qe2 @
i3 _ hz @2
r2 c mo @2
D.kg ds @
l.map f @
.ref Dd @
.tup ks @
aL e hn @2
.bl _ @
.inl h @
.ref l @
.ref c @
.ref D @
.lst _ @
.lst l @
aj rfl @
lr _ e @2
GB P w @2
pz _ _ @2
lg a n @2
iS a 8 @2
out a @
l r `::
u 1 ~- `=
QCG r `::
QKq
QKr
QKs
QKt
QKu
QKv
QKw
QKx
QKy
QKz
QKA
QKB
QKC
QKD
QKE
QKF
QKG
QKH
QKI
QKJ
QKK
fnOf x qual fX st @ bG st @ ao st @ .none kV doc pm an ez ct @12
envOfC qual ao st @ s.heap.objs.size f ez @5
.dct Rd.mono e h @2 r @2 \\r \\_ \\h
.tup aC.N5 e h @2 r @2 \\r \\_ \\h
N9 X.K CL n arg Pre res @6
.lst e.seq h @ r @2 \\r \\_ \\h
.lH QdF r q @3 \\q \\r \\_ \\_ \\h
seqObj 'list us.toArray 0 @3
.lst ds.filter p @ >map g @ @
some .lst tl t [1 `++ @ @
Cv X A q scope Nc f c s H @9
bh.getD m.toNat 0 @2
.ins QdF r @2 \\r \\_ \\h
.kT QdF r @2 \\r \\_ \\h
200 12 j Int : `* `+
.BinOp e1 .Add e2 pos @4
ah QP ah Qai aA @2 @2
iS s most @2
CU Addr Value `× `×
g pins s Y H _ I h @7
f pins s Y H _ I h @7
.Subscript o i pos @3
.Attribute e f pos @3
1 aG s 62 @2 3 `% `+
es.getD m.toNat 0 @2
Nk ks es ss mem w @5
.sh .lst Qbn @ @
v_ E.ll 6 @ >1 @
some Qbb @ δc `::
.type 'list @
.sh t.fC @
eval e X.env @2
.bool true @
j4 hi hv hd jO @4
binaryOp .Add @
.sh .int mo @ @
vM E.ll 3 @ >1 @
vM E.ll 4 @ >1 @
CU α `×
.sh .int m @ @
.int i t @2
.ref CL c @ @
.ref QeG @
some Qdd @
.lH w ds es @3
GB l.prog w @2
.ref D' @
a.map .int @
Addr Prop ^
mi bZ WF @ @
.own x @
i3 _ he @2
truthy v @
Cy kz xs @2
.val v @
vs Ij `++
some t1 @
.fC o u @2
qJ 0 sg @2
ds d [1 `++
.own a @
.ref b @
a y ys @2
zy R s @2
sub e @
h k >1 @
r k >2 @
QKL
QKM
QKN
QKO
QKP
QKQ
QKR
QKS
QKT
QKU
QKV
QKW
QKX
QKY
QKZ
QK0
QK1
QK2
QK3
QK4
QK5
QK6
QK7
QK8
QK9
QLa
QLb
QLc
QLd
QLe
QLf
QLg
QLh
QLi
QLj
QLk
QLl
upd H s.heap.objs.size .lst [0 @ @3
gK fE cH aD Qai ai gA @3 bH @2 >1 eN cH aD Qai ai gA @3 bH @2 >1 @ \\_ @2 @
.lH k _ iB @2 >trans h @ aB.mono e f @2 aB.mono e g @2 @3 \\k \\g \\f \\h
some .Name x pos' @2 @
kU aX ks @ Q4 es ss mem e7 mode @ es.length false @8
A7 X CL scope Nc xs.length tg parts ifs elt δc ds p g @13
.kT k _ iB @2 >trans h @ cB.mono e f @2 @2 \\k \\f \\h
Y3 nU ws @ ig ks es gB ws k @2 @3 \\k K0 es @ @3
PySem.revObj l its.toArray.size Int : 1 `- @2
.lst k _ iB @2 >trans h @ Qev @2 \\k \\r \\_ \\h
.ins k _ iB @2 >trans h @ Qev @2 \\k \\r \\_ \\h
.dct k _ iB @2 >trans h @ Qev @2 \\k \\r \\_ \\h
.ins 'Growth fs @2
e7 mode @ true `= 'far 'new ?
.Call .Attribute o m apos @3 Qap [0 pos @4
0 gB ws i @2 >src `≤ gB ws i @2 >src es.length `< `∧
gs.any GV es Qa9 x @3 \\w @ ~! \\x
cj .cons E.ll 0 @ >1 .inl E.kK @ .nil @3 Wi @2
GA X CL b Qap U arg a @ >map T.sh @ δ1 @7
ml.mpr keep p h rfl @3 \\h nd <2 @
b X.ex `∈ X.jj.heap.objs.size b `≤ `∨
eL xk E.aS E.wR Qd Q1 QR @5 @
bV E.cY E.cu Q2 dX @4
vz s.rs pM iA c @ s.fl.length 0 @3 @2
a f2 `∈ H a @ Z a @ ?
Kl .inl w @ E.u Qad Qac rfl @5
.tup QdF r k @ @2 \\k \\r \\_ \\h
.Call .Name x p @2 Qap [0 pos @4
.Assign .Name x pos' @2 [1 e pos @3 fD `::
mem.getD m.toNat 0 @2
.lst p >1 >map .int @ >map T.sh @ @
.lst p >2 >map .int @ >map T.sh @ @
Lies X pins Y H s H' e C a0 B s' @11
.sh pP bs es ks ss is os ws @7 @
bU X CL b e U .sh .bl p @ @ δ1 @7
scope.names.lookup x @ some .local @ `=
.lst x >2 >map CG @ >map T.sh @ @
tT b fx r fs w WA @6 \\hw \\w
aq dJ aq dJ aV @2 @2
.Compare e1 .Eq [1 e2 [1 pos @4
.Compare e1 .In [1 e2 [1 pos @4
behindInMarks .NotIn e2 @2 false `=
U.set i some .sh t.fC @ @ @2
wQ ws w @2 [0 `= gO h w @2 some true @ `= `∨
v_ E.ll 8 @ >1 @
.tup k.map kV @ @
.Compare e1 op [1 e2 [1 pos @4
congrArg _ i @2 \\i \\_ \\_
aG s 200 12 j Int : `* `+ 7 `+ @2
trivial \\_ \\_ \\_ \\_ \\_
qr X.K CL n arg Pre exc @6
.Compare a op [1 b [1 pos @4
eu Q4 es ch n 1 `- @4
d7 QaT Q4 es ss mem @5
.pin r k @ @ \\k \\r \\_
.Name y py @2
some T.sh d @ @ \\d
bU X CL b e U Qbb δ1 @7
x '__debug__ Str : `==
behindInMarks op b @2 false `=
xs.map x >2 >2 \\x @
bV E.jh E.gS QP k7 @4
cN X CL b e2 δ1 d2 U2 @7
keys.zip us.toArray @
SJ c p QaP @3
hi pins s Y H _ I h @7
h H Z Y ts vs _ S k @8
Str Option NameKind @ ^
cN X CL b e1 U d1 δ1 @7
lr _ q @2 \\q \\_ \\_
upd H p .dT [0 0 @2 @3
qB.trans vA Wl hn @2 @
.builtin 'sorted @
ig ks es gB ws k @2 @3
cK [0 =ds aV aN @3
c.cV.fresh js _ @ @
X.mg 'reversed @ none `=
.Tuple elts kk pt @3
0 x `≤ x es.length `< `∧
vL E.ll 5 @ >1 @
aD Qai ai mh @3
ch.length es.length `=
upd H p .dK [0 @ @3
getMethod I m pl @3
Nat Heap Prop ^ ^
some .lst tl0 @ @
.Tuple es j pos @3
X.mg 'sorted @ none `=
gB ws k @2
gs.Pairwise QkJ @
x '__name__ `≠
d.mem_iff.mp c @
lg s Qgj @2
X.mg 'range @ none `=
entry N Qcx @2
arg a @ >length 1 `+ n `=
X.env X.outer `::
r \\r \\_ \\_
True \\_
.ins c QbT @2
Gl X 'reversed @2
q 6 k Int : `* `+
.sh .int k @ @
Recv U i c fs g @5
zm QaG es ch @3
.Name x pos' @2
r \\r \\_
aG s k @2 13 `/ k `+
kvs k t ,2 [1 `++
k2.trans a2 @
SP X pins D @3
H a @ some QeQ @ `=
nS N Qcx @2
GF f.heap H @2
zy R Wx _ @ @2
zy R nC _ @ @2
aq QaM aV @2
D Option At @ ^
Gl X 'sorted @2
PE X value tv @3
mX X pins H a @4
gs k v ,2 [1 `++
K w.params @
vn r ta tb @3
Zf s q m n @4
Gl X 'range @2
f1 g d `++ `++
m ops `∈
CL 'Tree @
l1 kr e @ @
.lst ys @
e.trans s @
.sh Qa7 @
e.trans c @
.ok .next @
j.trans i @
.lst [0 @
g.trans f @
d.trans u @
av QbS @
g b o e a @4
m.toNat 1 `+
.Name y A @2
h.mono e @
some e @
Hp Prop ^
ji kvs k @2
q5 s n j @3
Jl s q n @3
x l `∈
.type T @
.tup ys @
e7 mode @
rE H gp @2
q0 ws R @2
vs v [1 `++
ds k [1 `++
c 16 `/
X.i4 E @
.inl e @
us ws `++
kq _ a @2
f1 f2 `++
i3 _ d @2
CM _ n @2
d.wL i `=
vl c s @2
mj _ Wl @2
mm _ Wl @2
.sh r @
.bl p @
FR sc @
.sh _ @
q qs `::
d ds `::
QLm
QLn
QLo
QLp
QLq
QLr
QLs
QLt
QLu
QLv
QLw
.pin y .ins 'Growth GC c.d mo .lst x >1 >map jT @ >map T.sh @ @ .lH w x >1 >map jT @ EZ x >1 >length @ @3 .dct fS jg s.rs @ @ @ .sh .int s.sp @ @ @6 @2 @2
Ap es ig ks es a @3 ig ks es c @3 @3 \\c \\a
fnOf x x fX st @ bG st @ ao st @ .ref tp @ kV doc pm an ez ct @12
.lst List.range j @ >map G7 s es n k mw s es.length @2 >getD k 0 @2 @5 \\k @ >map f7 @ >map T.sh @ @
keywordEach [0 X.env @2
fB List gk @ `×
.Call .Attribute QaW 'append pa @3 e [1 [0 pb @4
ju f6 E.bf E.eU Qch rfl rfl fH @6 rfl iQ fH @ bT _ @ @4
.builtin 'type.__call__ .ref C @ us `:: kw <2 @2
attributeBase QaW 'append X.env eval QaW X.env @2 @4 eval QaW X.env @2 `=
.ExceptHandler some .Name x np @2 @ none b₀ suite `:: pos @4 rest `::
W.fnOf x x fX st @ bG st @ Qa6 .ref tp @ kV doc pm an ez ct @12
fnOf x x fX st @ bG st @ Qa6 .none kV doc pm an ez ct @12
.ListComp elt .Name y px @2 iter ifs 0 <4 [1 scope pc @4
ju f6 E.bf E.iR Qch rfl rfl mq @6 rfl iQ mq @ rfl @4
.cons E.ll 0 @ >1 .inl E.uw @ .nil @3
[0 List Keyword @ : >isEmpty 0 1 ?
.ListComp elt tg iter ifs 0 <4 [1 scope pc @4
a f2 `∈ H a @ Z a @ ? \\a
.Compare e1 .Is [1 .Constant .none kj p2 @3 [1 pos @4
decide x jJ ks es ops QaJ @4 `∈ @ ~! \\x
swapsWith QkO none pos.line X.env @4 pure false @ `=
200 12 k Int : `* `+ 7 `+
fY aq iD ai @ aV @2 aN @2
eu au c.ks @ c.es ch QeD @4
_ 1 ~- Int : Fw es src _ @3 ?
envOfC qual scope s.heap.objs.size f cd @5
.ext x4 f q params body scope Qcg c @7 @
.ins 'Table tN bs hs bg pr .dct kv @ @5 @2
.lst Bu s es j @3 >map .str @ >map T.sh @ @
ah QR aA @2
swapsWith e none pos.line X.env @4 pure false @ `=
scope.names.lookup x @ some .globalImplicit @ `=
.Assign .Subscript e0 e2 ps @3 [1 e pos @3 fD `::
ak fh av E.ll 8 @ @ ai @2 @
i j rfl rfl q <5 \\q \\_ \\_
.Call .Name 'list pp @2 e [1 [0 pos @4
eL xm E.aS E.Je Qd Qaa QR @5 @
.Call .Name 'len pp @2 e [1 [0 pos @4
decide p cT es u t @3 `∈ @ ~! \\p
l1 my kr e @ I.ok.ub x c C f @4 @2 @
vs.map some @ List.replicate n none @2 `++
upd H p .ext JV w p [0 [0 [0 @5 @ @3
oR hs.i i hi @2 >1 >1 hs.i i hi @2 >1 >2 @2
t 'bool `== n 'int `== `&&
c7 X CL b fD δ1.set i QaK @2 D @6
ak yR E.wR Q1 QR a >2 @4 @
.ins 'Growth Nn c.d mo w s @4 @2
.lst ch.map .int @ >map T.sh @ @
.lst ds.filter p @ >map g @ @ ts `::
cN X CL b e U .lst Qb5 @ δ1 @7
.builtin 'object.__class__ @
.ins 'Growth Nn cd mo w s @4 @2
Option T @
Str Addr `×
.Name 'reversed q @2
V Co Co Hp VK Prop ^ ^ ^ ^ ^
PySem.call f vs @2 \\vs \\f
ws.length 63 `≤ EJ ws @ SK ws @ `∧ `∧
.Assign .Name x pos' @2 [1 e pos @3
PassesOwn Qr X.A X.env X.xe @4
scope.names.lookup x @ some .free @ `=
j4 nm.hi nm.hv nm.hd nm.jO @4
.ins CL c @ dx oF f v gs @3 @3
.ins 'Tree Eo ks es ss @3 @2
Nm ks es ws mem ops Qbh @6
ak v_ Kp 1 =i rfl Wi @3 @ @
cO E.ll 4 @ >1 rfl @2
.sh .tup a >2 >map .int @ @ @
.sh .bl decide i j `= @ ~! @ @
ds.length Ka.length `+ sizeLine `≤
lookup_relabel_local h2 @
h k a kq _ b @2 @2 \\b \\a @
r k a jN _ b @2 @2 \\b \\a @
dO X scope Nc C s0 a f0 @7
kk c i3 _ n @2 @2 \\n \\c
T.sh .int z @ @ \\z
aj _ rfl <2 @
fq Str.empty We We @3
.ext JV w a ds vs us @5 @
cN X CL b e1 U Qcq δ1 @7
bU X CL b e1 U QdH δ1 @7
m pos pins s Y H _ I h @8
Fm X CL x k n arg Pre res @8
sT X CL x k n arg Pre exc @8
behindInMarks .In e2 @2 false `=
aq QaH aq Qbx aV @2 @2
nsIn K mainGlobals x @3 some Qdb @ `=
handleBy Qb8 X.env hs @3
.Constant Qbl j pos @3
cN X CL b e1 U Qbl δ1 @7
I.base.free b o e n a @5
.Constant Qa7 j pos @3
j pins s1 Y H1 _ m q1 @7
bU X CL b e U QdP δ1 @7
bU X CL b e U Qe1 δ1 @7
hideAll s.heap QbB @2
V V Hp VK Prop ^ ^ ^ ^
tl.reverse ts `++
bV E.jh E.jm QP oO @4
bV E.cY E.cu QP dX @4
x >1 >isSome \\x
V.ref x >2 >1 @ \\x
.tup us @
Bool Shared Prop ^ ^
.Name 'reversed pq @2
pm.nodup_iff.mpr nd @
kvs.take j @
hm b _ q z \\z @4
h pins s Y H _ I hw @7
hv pins s Y H _ I h @7
sysModules h.objs.size `<
Unit Shared Prop ^ ^
f QgG .int j u @2 @2
.done .ret .none @ @
Flow Shared Prop ^ ^
vE E.ll 7 @ >1 rfl o @3
vE E.ll 9 @ >1 rfl o @3
n pins s Y H _ I h @7
lr _ e @2 \\e \\u \\b
GA X CL b es U tl δ1 @7
cN X CL b e2 δ1 d U2 @7
rawInt i Int : 1 `+ @
av E.ll 12 @ @
B0 Hp VK Prop ^ ^ ^
I.cV.fresh ox _ @ @
World Heap Prop ^ ^
ks.map kV @
putK kvs k v @3
pv n3 _ @ xc _ _ @2 @2
decide i j `= @
ForInStep.yield r @
X.mg 'enumerate @ none `=
.Name 'sorted pp @2
fS QdQ @
.sh .int qN s @ @ @
.sh .int Fv s @ @ @
.sh .int Qgp @ @
.sh .lst QcN @ @
d.params.defaults [0 `=
Ys X CL b e0 δ1 i p @7
FG N P G X.env.scope @4
tupleKind Qdg @
V Hp VK Prop ^ ^ ^
codeIn K ez qual @3 true `=
isAll s @ \\s
a.free c d q n e @5
tO X.prog X.w H' h' @4
Rn s.heap x dx C mA @5
us.length tl.length `=
k NameKind.free `==
putK gs k v @3
List Key L3.D `× @
upd H p .dK gs @ @3
kz.length us.length `=
y t `= y bP es t @2 `∈ `∨
ah Qac aA @2
ys.length sizeLine `≤
tl.length sizeLine `≤
.sh r.mono ww @ @
T.jX p t0 @2 some QeU @ `=
.sh .int s.sp @ @
T.sh d @ \\d
Un fs ex H H1 h h1 @6
h1.trans z @
gu K CL H Z U Y fp @7
d.trans s' @
List CU L3.D `× @
aG s 60 @2 3 `/ 26 `%
ak fh QR ai @2 @
Bi Heap Prop ^ ^
res a @ >clean true `=
tl.length 1000000 `≤
execs st X.env @2
U.set i QaK @2
upd Z p Qmn @3
upd H p Qmn @3
upd H p Qff @3
upd H a Qbp @3
U.set i QdN @2
Passes QdK X W @3
ah QP QdT @2
cR 4 =j rfl @2
Int Int Int ^ ^
pyNext Qb7 @
X.mg 'tuple @ none `=
Gl X 'enumerate @2
some .ref y @ @
call Qae u [1 @2
PySem.W.OpenLaw
codeIn K ez x @3 true `=
x >1 ~! \\x
AP X pins Y Q @4
sy X.env.scope x @2
fW X.prog X.w @2
.type 'dict @
gV K CL Z kvs gs @5
.lH X.w ds es @3
q a b c d e f @6
h w false ,2 [1 `++
vM E.ll 5 @ >1 @
vL E.ll 7 @ >1 @
aD QR ai mh @3
α β Prop ^ ^
decide j i `≤ @
Array DictEntry @
a.zh.trans s @
u bP es x @2 `∈
instObj C dx @2
decide i j `< @
decide j i `< @
.type 'str @
.List es pos @2
.cons r .nil @2
aB K CL Z ds us @5
h w true ,2 [1 `++
List fB T `× @
fs.lookup f @
X.mg 'len @ none `=
l.map D.int @
s1.trans s2 @
some Qql @
0 \\_
X.i4 Qqg @
c.ws.map f7 @
q >2 >map T.sh @
aq j6 aV @2
.int Qgg @
.str w.sign @
.tup w.asks @
is.map .tup @
os.map .tup @
some QqZ @
bX cQ JW hs @3
i l `∈
.lH c ds es @3
jv K x st f fd @5
aG s Qk4 @2
h.objs.size a `≤
some Qag @
newList [0 @
.sh Qb6 @
T.jX p t0 @2 some u @ `=
some items @
.sh Qqt @
.sh K3 s @ @
.sh QqK @
I.nI x c e @3
H b @ some Qir @ `=
H a @ some QbE @ `=
notStar e @ true `=
Vy U is ps @3
.Name x px @2
l.getD i z @2
Nl a gs en @3
Str Int `×
r4 c p x a @4
n s.fl.length `<
l1 Qqu @
nf l1 a @ @
d.trans a @
f1 g b `++ `++
Gl X 'tuple @2
h.trans g @
e.trans d @
ks.map C7 @
f1 q s `++ `++
x bP es m @2 `∈
some 1 ~- @
av QdX @
.tup w.jc @
bR Qk5 @
.inl E.kK @
q >2 >map CG @
upd H x o @3
l.most some n @ `=
Key D `×
nR f t fs @3
.ref D @ vs `::
CD ks es mem @3
jZ c.ws a @2
qI kvs @
fB α `×
.sh .non @
ds.map g @
X.hand e @
.sh .any @
l.map Br @
q wQ ws w @2 `++
.own rfl @
R.map CG @
made rfl @
.str x t @2
ne b o e @3
qG h d b @3
qG h g f @3
e es.length `<
zm bw es ch @3
mU iF bh @2
jU _ _ _ @3
cj .nil Wi @2
oR k0 k1 @2
V1 0 rfl @2
PA X a [1 ta @3
Gl X 'len @2
.type n @
.lst Q8 @
BY Prop ^
.tabs q @
.ref kS @
.ref tp @
α Bool ^
ops m [1 `++
iE mode @
au c.ks @
Y5 s.hl @
nR f u fs @3 gs `=
E.ll 13 @
E.gg 10 @
.dct kv @
Vals vs us @2
xD H a y o @4
P [0 [0 [0 @3
X.fn x @ true `=
aL r hn @2
k ds `∈
i3 _ hv @2
i3 _ hl @2
c 12 `/
c 48 `/
e x `= H e @ some QgQ @ `= `∨
.tup QmL @
.dct QmS @
yE X Qrp r @3
gK fE xG ak xl E.aS E.cI Qd E.gg 4 @ QR @5 @ ak xl E.aS E.cI Qd E.gg 4 @ QP @5 @ @2 >1 eN xG ak o6 E.aS E.dz Qd E.gg 5 @ QR @5 @ ak o6 E.aS E.dz Qd E.gg 5 @ QP @5 @ @2 >1 @ \\_ @2 @
ig ks es gB ws k @2 @3 \\k
e Int : u `= jf es u t e @4 e Int : t `≠ `∧ `∨ st e @ zo es u e @3 kD ss mem fl e @ e @4 ch.getD e 0 @2 ? ?
k' NameKind.free `== env.scope.kind .function `== `&& env.kindOf n @ some _ @ `== `&& true `= n NameKind.cell ,2 n k' ,2 ?
Do List gk @ `×
dF aH cF n7 s w @2 E.kL Qak aq cF s w ,2 E.uS E.gg 6 @ aq QaM aq Qbw aV @2 @2 m @5 aV @2 trivial @5 bM @2 aN @2
.lst tl t [1 `++ @
kv >1 k `= kv >1 v ,2 kv ? \\kv
kv >1 k `= kv >1 d ,2 kv ? \\kv
.sh .tup .lst SJ c p QaP @3 @ .lst toN c p QaP @3 >1 >map .int @ @ .lst toN c p QaP @3 >2 >map .int @ @ [3 @ @
Kv X CL b Z δ1 ts vs CL c @ @8
kla_obj '<lambda> q params body scope Qcg X.mg '__name__ @ >getD .none @ g i @9
newFunctionEnv scope X.env.globals Qcg [0 X.env.qual none .none some X.env @ @8
r .ok .ret .bool true @ @ @ `= OldK f.heap s'.heap @2 s'.os f.os `= AllBare s'.gens @ `∧ `∧ `∧ \\s' \\r
h2 rfl H1 Z1 Y ts vs _ a.pop k v H2 Z2 c.trans d @ Qao f @6 \\f \\k2 \\d \\Z2 \\H2 \\v @9
assign .Name y py @2 X.env @2
h2 rfl H1 Z1 Y ts vs _ c k H2 Z2 a.trans d @ Qao f @5 \\f \\k2 \\d \\Z2 \\H2 @9
Option V @
dg X.prog X.w X.K X.mg X.base oG k f fd ps rq X.K CL c n arg Pre res @7 @11
y c.d mo w x >1 s.rs s.sp <3 GS : toN c p QaP @3 ,6 \\y
far decide e kU aF isAll es ss mem far es.length near t @9 `∈ @ `&&
KO g f I h e pins s2 Y H2 x y v u Q i d c q @13 \\q \\c \\d \\i \\H2 \\y \\x \\s2 \\u \\v @5
swapsWith value some .Subscript o i pos' @3 @ pos.line X.env @4 pure false @ `=
.int es.length Nat : @
my kr e @ I.ok.above @2
k.map kV @
kvs.map kv >1 k `= kv >1 y ,2 kv ? \\kv @
f6 E.bf E.jw Qch rfl rfl iu @6
xs.isEmpty ~! Builtin.List.listTooLong xs.size ys.size `+ @ `&& true `= ~¬
swapsWith e some .Subscript e0 e2 ps @3 @ pos.line X.env @4 pure false @ `=
.Subscript e0 e2 ps @3
fnOf name qual params body scope dV kV doc pm an ez ct @12
.ListComp elt .Name y px @2 iter ifs 0 <4 [1 scope pos @4
isAll es.getD k 0 @2 @ true `= ch.getD es.getD k 0 @2 >toNat 0 @2 k Int : `= `∨
.ins 'Growth Nn cd mo w AW s.fl p @2 s.rs s.sp <3 @4 @2
ak aM E.ud Qaa @2 @
n 'int 'str 'list 'tuple 'bool 'dict [6 `∈
kla_fn '<lambda> q params body scope cl pm cd ct @9
G.all sc.names.lookup x @ some .globalImplicit @ `== \\x @
ak aM E.Jf Qd @2 @
.tup a >1 >map wB @ @
HT.GK xs.length xs.length hi @3 HT.GK xs.length 0 lo @3 `-
starEach e1 e2 [2 X.env @2 false eval e1 X.env @2 ,2 starEach e2 [1 X.env @2 `:: `=
H a @ >isSome true `= Z a @ W' a @ ?
wpAny_updateSeq hl rfl b =hz hz =_hz' @4
.Call .Attribute QaW 'extend pa @3 e [1 [0 pb @4
R.map T.lst l.map D.int @ >map T.sh @ @ \\l @
dg X.prog X.w X.K X.mg X.base oG k f fd ps Qf6 @11
X.env.kindOf y >1 @ some .cell @ `= X.env.kindOf y >1 @ some .free @ `= `∨
a.contains y >1 @ scope.names.lookup y >1 @ some .free @ `== `&&
x4 h'.objs.size q params body scope Qcg g @7
nK yI f hm PySem.boot_len QaQ hs =he @6
.Call .Attribute e0 'append pa @3 e [1 [0 pb @4
decide x jJ ks es ops Qbh @4 `∈ @ ~! \\x
Eb E.g E.cI E.xT Qbz bu _ @ Q1 Qaa @7
.sh .lst QdI @ @
ig ks es QcA @3 1 ~- `= ig ks es QcA @3 bP es gB ws i @2 >kf >toNat @2 `∈ `∨
K4 QdU iA c @ >map .str @ W7 c @ QdI QdQ @5
aH cy Qiq ai mh @3 aH cy Qiq ai tM @3 bM @2 @2
its.toArray.size 1 `-
N.all sc.names.lookup x @ some .local @ `== \\x @
decide x jJ ks es QaN gs @4 `∈ @ ~! \\x
ah Q2 QeM @2
spliced backTo pos starEach es X.env @2 @2 @
typeOf QeW @ pure .type 'method_descriptor @ @ `=
scope.names.lookup y @ some .free @ `== \\y
tN bs hs bg pr .dct fS kvs.take j @ @ @ @5
dZ C4 s' >1 >map .int @ =ds E.ll 2 @ >1 rfl @3 @
.int j i `> j i ? @
some .builtin 'object.__setattr__ @ @
.Call .Attribute e m apos @3 args [0 pos @4
.Subscript e .Slice lo hi none p2 @4 pos @3
p2 f _ z @2 >2 >2 >elim .inl .inr @2 @ \\z
dO X scope Nc s.heap.objs.size s H fp @7
.Call .Name 'enumerate pr @2 e [1 [0 pc @4
List.range keys.zip us.toArray @ >size @
cj .cons E.ll 6 @ >1 .inl E.WY @ QkX @3 Wi @2
.lst cT es u tg @3 >map .int @ >map T.sh @ @
Value Addr Result Shared Prop ^ ^ ^ ^
GA X CL b Qap QdO dl.map T.sh @ δ1 @7
d.JU.toS 'open 'shut [2 BA : `∈
compareOp op @
K.lookup f @ some oc od .func Qf2 @ GH <4 @ `=
.Assign .Subscript o i pos' @3 [1 value pos @3
K.lookup f @ some oc od .func QkK @ GH <4 @ `=
back p q ?
Nm c.ks c.es c.ws mem Qk6 Qfb @6
cj .cons E.ll 4 @ >1 .inl E.Pc @ .nil @3 Wi @2
.Call .Name 'tuple pp @2 e [1 [0 pos @4
bR cL E.cI Qbf bu _ @ Qak aZ @5 @
GD c9 'tuple 'len 'TooWide [3 X CL @4
cy QaM ak aM E.vK E.gg 8 @ @2 @ tM @3
cy QaM ak aM E.qL E.gg 9 @ @2 @ Kz @3
aD Q2 ak aM E.uf Q1 @2 @ Qd7 @3
SP X pins E .next s' @5 \\s' \\_
Block X CL scope Nc ifs elt δc ds p g @10
.ins 'Table K4 bs hs bg pr kvs @5 @2
aD Q2 ak aM E.SY Qd @2 @ Qd7 @3
.call .ref R @ .ref a @ [1 [0 <2 @2
.cons E.ll 1 @ >1 .inl E.S8 @ .nil @3
.sh .tup .tup Qb4 @ .tup QcN @ [2 @ @
its.toArray.size c.toArray.size `+
bU X CL b e2 δ1 .sh .tup Ka @ @ U2 @7
ql X CL b .Name y px @2 iter U ds δ1 @8
d pm.mem_iff.mp z @ @ \\z
oT aF isAll es ss mem far near u t x @10
decide x gone `∈ @ ~! \\x
List.replicate c.es.length 1 ~- @2
yQ QiZ bu _ @ Dp Dq QdV @ @4
0 gB ws i @2 >kf `≤ gB ws i @2 >kf es.length `< `∧
Ds E.g.nd E.g.calm QaR QbS @4
tN bs hs bg pr t @5
jP yJ i hm hv QaQ hs =he @6
.type 'list_reverseiterator @
ks.getD x.toNat Str.empty @2 'leaf `=
fh bz Qcp QaS Qd4 @3 ai @2
f6 E.bf E.eU QlN rfl rfl fH @6
ak oM Qi0 Qda rfl rfl @4 >2 @
l .sh .tup .tup [0 @ .tup [0 @ .int 0 @ [3 @ @ [1 `++
z >2 b f @2 >trans e @ \\e \\f \\o \\b
v .non `= Q Qdj H2 @2 `∧ \\H2 \\v
bD K CL b H Z U Y tl ts `++ us vs `++ @9
N9 K CL ps.length arg Pre res @6
c7 X CL b fD δ1.set i Qgb @2 DD @6
List.replicate xs.length none @2
Turn X.prog X.w X.K tg J fp it tn @8
bD K CL b H Z U Y .sh d @ ts `:: QaY @9
al.map some @ List.replicate n none @2 `++
ks.getD x.toNat Str.empty @2 'all `=
.lst s.fl.map jT @ >map T.sh @ @
aq QbP aq Qbw aq oK aV @2 @2 @2
AV zy R b @2 @ AV zy R a @2 @ `< \\b \\a
f6 E.bf E.gC Qch rfl rfl uc @6
PySem.F.args_tuple_add_2 _ _ @2
sortedAll_old \\_ \\_
List.sublist_append_left _ _ @2
hideAll s.heap QbB @2 >StaysIn h @
.Try body h0 hs `:: [0 [0 pos @5 fD `::
seqObj 'tuple us.toArray 0 @3
R.map D.lst Qb5 @ \\l @
bz QR aD Q2 QqF gA @3 G @3
.lst l.map .int @ >map T.sh @ @
bK ks x @2 decide x bP es c @2 `∈ @ `&&
letOwnedTupleGo tg Qb7 u @3
bD K CL b H Z U Y Qmi QdL @9
vu X.K CL n arg Pre res out @7
ak bS r E.cJ Qda Qaa @4 @
ak bS n E.cJ Qh4 Qaa @4 @
h pins s Y H Q I.i4 _ @ hw @7
instObj C s.heap.objs.size @2
bU X CL b e U .sh Qd2 @ δ1 @7
e Int : eu isAll es ch Q3 @4 `∈
.sh .lst row.map .int @ @ @
x '__classdict__ Str : `==
.BoolOp .And b rest `:: pos @3
a b rest `:: `::
Value B1 `× Shared Prop ^ ^
d pos pins s1 Y H1 _ i q1 @8
nF X.K H p ys @4 tP X.K H p ys @4 `∨
.Compare e1 .GtE [1 e2 [1 pos @4
.lst xs zs `++ @
.inr .inr z @ @ \\z
Obj.mapSeq x ys `++ \\x @
.cons u rfl <2 .nil @2
true true true `&& `&&
T.sh .tup z @ @ \\z
cK aq dJ aq Qbw aV @2 @2 aN @2
ju Qqx rfl iQ iu @ rfl @4
Nat.mul_le_mul_right _ h1 @2
.sh .tup xs.map It.d @ @ @
.BoolOp .Or b rest `:: pos @3
Rr P w K mg base A outer s H @9
cN X CL b e2 δ1 .str j @ U2 @7
.Compare e1 .Lt [1 e2 [1 pos @4
.Compare e1 .Gt [1 e2 [1 pos @4
.BoolOp .And e2 es `:: pos @3
.BoolOp .And e e2 es `:: `:: pos @3
bootBuiltins 'list @ some Qgv @ `=
dO X scope Nc C s0 H0 f0 @7
g.at RW it o q @3 \\q \\o @
F.args_list_extend_2 _ _ @2
PySem.Fin Shared Prop ^ ^
bR fY aq dJ Qik @2 aN @2 @
ah ak fh ai jR 0 @ @2 @ aA @2
ak v_ Xt 0 =i rfl Wi @3 @ @
ak yN E.cJ QR Qbq @3 @
ak m5 E.cJ QR Qbq @3 @
I.base.keep b o e n D g @6
D b o f e @4 \\e \\f \\o \\b
apos.endLine C5.line `== true `=
.Pass 0 0 0 0 <4 @
cN X CL b e1 U .str i @ δ1 @7
.BoolOp .Or e2 es `:: pos @3
.BoolOp .Or e e2 es `:: `:: pos @3
dO X scope Nc C s0 b f0 @7
.inr Qd6 @ \\z
some .kT Ct kvs k d @3 @ @
defaultsOf params X.env @2 [0 [0 ,2 `=
xt X CL x k n arg Pre exc i @9
no _ _ d b x0 e he.symm @7
QyR os.getD m.toNat [0 @2 `++
nC i j a b h' <5 @
ak m5 E.cJ Qai Q1 @3 @
ah jR 0 @ aA @2
aH QbP aH Qgt bM @2 @2
List.range s.fl.length @
Value Value Sem Value @ ^ ^
h pos pins s Y H _ I c @8
f pos pins s Y H _ I h @8
.Attribute o name apos @3
.BinOp e1 .Mult e2 pos @4
upd H a .lst us v [1 `++ @ @3
cN X CL b e U .int k @ δ1 @7
k1.trans k2.trans c @ @
f.trans s3.trans s' @ @
ys.map some @
some QgM @
.inl rfl rfl <2 @
.ok .ret Value.none @ @
pr.map T.sh @
.lst iA c @ >map .str @ @
eO Mq p @ \\p _ @2
isTrue e X.env Qgx @3
.Constant .none j pos @3
Result Shared Prop ^ ^
.inr o e _ _ h @3 <2 @
.sh .int ds.length @ @
PySem.revObj l Qq3 @2
.Call QlB x [1 [0 pq @4
seqObj 'list keys e @3
Value.ref d @ Value.none `==
l.trans s.trans s' @ @
p2 Qd6 @ \\z
t8 QaT QaG Q4 es @4
ah QP ah Qlg aA @2 @2
.sh .tup iG _ _ _ @3 @ @
.str EE d.wL.toNat @ @
ak v_ E.ll 0 @ >1 >pin @ @
aj QlX @ \\_
bz Qbf Qad QlY @3
bz Qh4 Qac B l @ @3
.Name '_law_copy p1 @2
bV E.cY E.cu Qad dX @4
isTrue e X.env whole @3
.ins C dx oF f y fs @3 @3
HT.GK xs.length 0 lo @3
Meets K CL b Z ts vs D E @8
GA X CL b es U Qb3 δ1 @7
bU X CL b e U QdH δ1 @7
List.cons_ne_nil _ _ @2
XW X CL b Qap U ds δ1 @7
.lst tl ds.map T.sh @ `++ @
cN X CL b e U .int w @ U @7
seqObj 'list out c @3
x t `= t Int : bP es x @2 `∈ `∨
GX iF os mem bh gone @5
K9 c mo p l.take j @ y @5 some x @ `=
k9 q7 s d.wL.toNat @2 @
bV E.bY E.dQ QP gj @4
ak cy Qiq ai gA @3 @
bV E.cY E.iX Q2 xR @4
n \\n \\_ \\_ \\_ \\_
storeName X.env x u @3
h pins s Y H Q I hw @7
.UnaryOp .Not a pos @3
hl pins s Y H _ I h @7
intBits_le_64 h1 h2 @2
lr _ q @2 \\q \\u \\b
Nat.lt_succ_self _ @
starEach args X.env @2
.int b @ \\_ \\b
.str b @ \\_ \\b
.val b @ \\_ \\b
.cons g.mono k2 @ f @2
.UnaryOp .Not e pos @3
D.nx δ1.set i QaK @2 @
ForInStep.yield ok @
.bl t n `== Qlq `|| @
s1.heap.objs.size 1 `+
.Constant Qa7 k p @3
.sh .tup ds Ka `++ @ @
scope.isCoroutine false `=
scope.isGenerator false `=
false \\_
1 k s.length Nat : `/ `+
t9 bs nm t is os ws @6
es.getD d.wL.toNat 0 @2 m `=
c n Int : 1 `+ `% 1 `-
Pu _ _ _ @3 \\k
Jm _ _ _ @3 \\k
bz QR Q2 Qd4 @3
ak aM E.Le QaL @2 @
.hit Q1 E.rO E.jL Wl @4
e \\e \\_ \\_ \\_
c pins s Y H _ I h @7
b pins s Y H Q I h @7
d pins s Y H _ I h @7
jN _ jN _ kW k e @2 @2 @2
k pins s Y H _ I h @7
.str toString i @ @
x.above y c rh h @ @3
call QeW v us `:: @2
.bl b @ \\_ \\b
behindInMarks op e2 @2 false `=
XW X CL b es δ1 ds U2 @7
Ri d hi c cQ hs hf @6
jN _ jN _ kW a e @2 @2 @2
q \\_ \\q \\_ \\_
a.cV.fresh ox _ @ @
Ni n r >2 @2 \\r
no _ _ x0 e d b he @7
gs.flatMap QdJ @
jJ ks es ops Qbh @4
pL ks es ws QaN some @5
.int Fw es src c @3 @
Bu s Qjc Qgj @3
.int iS s most @2 Nat : @
eo E.e9 Q2 We QbF @4
.int oe s.fl p @2 Nat : @
ak aM E.ud Q1 @2 @
cy QaM QqF gA @3
cy QaM QqJ mh @3
ak aM E.uf Qaa @2 @
e \\e \\_ \\_
starEach e [1 X.env @2
compareOp .NotEq @
getMethod ov m pl @3
ns.map WData.int @
List Key Value `× @
.Name 'range pr @2
q \\q \\_ \\_
.Expr QkO pos @2 fD `::
.ins CL c @ dx [0 @3
.pin y .ins c [0 @2 @2
starEach [0 X.env @2
Kr sc inner h1 h2 @4
.lst tl.set j t @2 @
pm.mem_iff.mpr d @
o1 K C x qual st f fd @7
kz.getD i 0 @2 kz.getD j 0 @2 `<
zy R Wx n7 _ w @2 @ @2
.ins 'Growth gs @2
bR fY Qik aN @2 @
1 aG s 0 @2 most Int : `% `+
ak aM E.ud Qd @2 @
aD Q2 QqJ mh @3
bz QkP QR Dt @3
K4 _ _ _ _ QdQ @5
ak cH QcL bH @2 >2 @
.tup p >1 >map kV @ @
eval QaD X.env @2
Zl X pins Y tg R @5
.Name 'range p @2
yE X binaryOp op @ r @3
.builtin 'max @
h1.symm.trans e @
l.getD k.toNat z @2
L2.St Hp Prop ^ ^
.builtin 'sum @
.lst xs.reverse @
bX cQ JW bq hs @ @3
.builtin 'any @
xs.size ys.size `+ sizeLine 1 `+ `≤
U.set i some n @ @2
Nat.succ.inj hl @
eval QaW X.env @2
pm.mem_iff.mp d @
L3.D.tup ks @ ds `∈
List Str L3.D `× @
es.getD QU 0 @2
es.getD QcD 0 @2
h z >1 @ \\z
a z >2 @ \\z
xw bs hs bg pr R @5
o \\o \\b
c 6 `/ m Int : `%
vw s c 4 `/ 4 `% @2
.sh .str mode @ @
VX E.ll 6 @ >1 rfl @2
kvs.take QU @
cO E.ll 3 @ >1 rfl @2
cO E.ll 7 @ >1 rfl @2
.tbl ps more `++ @
op CmpOp.NotIn `==
eval iter X.env @2
Int Int Prop ^ ^
binaryOp .Mult @
plainGet K C name @3 true `=
A.under QkQ @
.type 'tuple @
A.deeper Qf3 @
kvs.length sizeLine `<
ro X CL b e U p δ1 @7
l.deeper Qf3 @
z3 X CL tg is parts @5
List.range' 0 n @2
kvs.map Qqe @
A.frames some X.stack @ `=
xf X CL b e U c δ1 @7
kk c WE @2 \\z \\c
h.Ns mainGlobals mg @2
Nat Nat Bool ^ ^
kz.length xs.length `=
0 k `≤ k c.ws.length `< `∧
ak pG Q2 ai @2 @
aG s 60 @2 78 `/ 26 `%
ak cD Qac ai Wl @3 @
.sh .int src @ @
ig ks es QcA @3
ah Qbf QeM @2
aD iH 1 @ ai mh @3
s.heap.objs.size a `≤
.Continue pos @
Value Sem Value @ ^
ns.length sizeLine `≤
.int i j `- @
compareOp .In @
upd H p QbE @3
aU K CL H Z t v fp @7
cS K CL H Z t v fp @7
dH K CL H Z t v fp @7
k H1 Z1 a k1 c @5
NS YA cQ cQ hs @4
NS Vp cQ cQ hs @4
g.push Qbs @
.If e a c pos @4 fD `::
vq mY cQ cQ hm @4
yF mY cQ cQ hm @4
.lst acc y [1 `++ @
.lst Q8 yv [1 `++ @
gs.map Qqd @
Nat.le_refl _ @
kvs.length 1000000 `≤
hd.keeps I.bk @
upd H g QcU @3
iV X scope x Nc ix @5
A5 Y ix Qbc @3
U.set i Qfh @2
f1 Qdk f `++ `++
X.pinned pins @
Ys X CL b e0 U i p @7
aB.mZ d.tp c a @3
c.is.map .tup @
c.os.map .tup @
aG s q 1 `+ k Int : `+ @2
200 12 k Int : `* `+ 4 `+
200 12 k Int : `* `+ 8 `+
vL E.ll 14 @ >1 @
.sh .val tv @ @
ah QR Qq6 @2
ah QP Qq6 @2
gs.map Qca @
.sh .int tg @ @
gone.map .int @
cy QaM ai mh @3
cy QaM ai tM @3
cy QaM ai gA @3
d.wL ops `∈
aD Qac ai gA @3
aD Qac ai mh @3
aG s Qk4 @2 4 `/
v_ E.ll 2 @ >1 h @2
.Name 'len B @2
I.ok.Rf b o e @3
exec st X.env @2
bootBuiltins x @ some u @ `=
St Hp Prop ^ ^
.type 'int @
Co Hp Prop ^ ^
bO K CL H Z t v g @7
a.pop.push f @
bs.map D.int @
ns.map D.int @
PyData.strOk x @ true `=
.ins x QbT @2
L3.D Option At @ ^
s.trans c.zh @
Loc X.env.scope y @2
.int j Int : @
a g f [0 `++ `++ `::
eval e0 X.env @2
.sh .int z @ @
List α @ Prop ^
tP X.K H b Qqv @4
.sh .int 0 @ @
List.range n @
jb QcB row @2
leaf bP es leaf @2 `::
Np c mo s n sg @5 some s' @ `=
.sh .int j @ @
.sh .int c @ @
vM E.ll 6 @ >1 @
vM E.ll 8 @ >1 @
vL E.ll 1 @ >1 @
vM E.ll 1 @ >1 @
d.wL bP es d.wL @2 `::
.sh .int u @ @
aD QR ai gA @3
jg Ld c mo iA c @ @3 >getD Qfk @ >rs @
gs.any decide Qeb @ \\kv @
.BoolOp .And QsB pos @3
.BoolOp .Or QsB pos @3
h z Qfj @2 \\hz \\z
h e QgR @2 \\he \\e
e Qnm @ \\z
upd H a .dK Qm9 @ @3
.ins 'Table QrT @2
.Return Qj2 pos @2
.int Qeh s.toks @2
.sh .bl QmO @ @
ah iH 1 @ Qtn @2
a f .sh QgU @ ,2 fs2 `:: `++
ak cD QmH ai Wl @3 @
upd H l QjO @3
f.trans Qno @
decide Qou @
upd H D QjU @3
X6 Y ix Qtz @3
Y.set i QtA @2
upd H l QsG @3
m.push Qfq @
j.push Qfq @
ah QP Qne @2
.ref x @ QgV `::
.dT QmM en @2
.dct Qpf @
fY Qom aN @2
.lst QtD @
qW X CL b e U p δ1 @7
ds.length sizeLine `≤
AC X e [0 @3
cN X CL b e U d δ1 @7
arg a @ >length n `=
List κ V `× @
List α @
X.calm true `=
cN X CL b e2 δ1 .int k @ U2 @7
Program
Rw K x qual st f fd @6
R1 X CL b e U t δ1 @7
XW X CL b Qap U arg a @ δ1 @7
QyI
X.env.frame some X.env.locals @ `=
iF m @ true `= D.tup .str 'keep @ .int m @ .int mem.getD m.toNat 0 @2 @ .int bh.getD m.toNat 0 @2 @ [4 @ [1 [0 ?
kG ks es ss is os ws @6
A At ^
X.xe False \\_ \\_ `=
FuncData
List fB At `× @
rB X scope xs Nc ix @5
List.lookup f fs @2 some t @ `=
X.mg 'isinstance @ none `=
List κ Value `× @
sR X CL b tg iter U ds δ1 @8
pa.endLine pb.line `== true `=
Vn X i x @3
Fc X CL x k n arg Pre res @8
bD X.K CL b H Z U Y ts vs @9
t es.length `<
QyL
tO P w H h @4
Around
Loc X.env.scope x @2
Gl X x @2
QyE
k es.length `<
keepIn K Qae @2 true `=
X.N.Nodup
Binds X.K fd ps ds @4
iV X scope y Nc ix @5
X.stack X.env X.outer `:: `=
i δ1.length `<
dH K CL H Z kvs gs fp @7
x es.length `<
Gl X 'isinstance @2
cW N ps Qa6 @3
bL K CL Z d v @5
keepIn X.K Qae @2 true `=
PE X a ta @3
Ln X i x @3
X.mg 'list @ none `=
m es.length `<
u 1 ~- `= u bP es t @2 `∈ `∨
D.bC ds @ true `=
PE X e te @3
bO K CL H Z t v fp @7
aB K CL Z ds vs @5
Binds X.K fd ps [0 @4
Vals xs us @2
Ys X CL b e U i p @7
t8 aF bw isAll es @4
RelV y u @2
Int Int Bool ^ ^
AN X iter @2
X.A.units 1 `+ cLine `<
X.mg x @ some Qae @ `=
cB K CL Z kvs gs @5
QyJ
Nat BB Prop ^ ^
fs.lookup m @ none `=
Passes CX X E @3
yG X.K CL c @ @2
String
bF X.K CL c @ f @3
C8 H v0 p w @4
It Hp Prop ^ ^
A Str ^
PA X Qap t @3
A.units 1 `+ cLine `<
A.handled none `=
aC Z Z' @2
QyP
QyT
Qy7
Qy9
Qzb
Qzc
QyV
Qy3
QzJ
QzO
KV kvs vs @2
PE X o td @3
PE X i ty @3
Qzr
A Bz ^
Gl X 'list @2
A T ^
RelV v u @2
fc QaZ X.A @2
0 es.length `<
Qy8
Qzf
QyH
wg ds k @2 some d @ `=
QzX
QzY
QzZ
Qz0
Qz1
Qz2
Qz3
QAd
Qz4
Qz5
Qz6
QAa
QAb
QAh
QAi
QAj
QAl
QAm
QAn
QAo
QAp
QAq
QAr
QAs
QAt
QAu
QAv
QAw
QAx
QAy
QAz
QAA
QAB
QAC
QAD
QAE
QAF
QAG
QAH
QAI
QAJ
QAK
QAL
QAM
QAN
QAO
QAP
QAQ
QAR
QAS
QAT
QAU
QAV
QAW
QAX
QAY
QAZ
QA0
QA1
QA2
QA3
QA4
QA5
QA6
Option Value @
List AQ @
Da AT `×
Qzq
QzD
QzW
QyG
sX d @ some t @ `=
QzS
Qy6
fc k X.A @2
Vals Ij ds @2
List Qqn @
Qzw
Option Expr @
H p @ none `=
QyD
QyC
Qzd
aC H H' @2
PE X b tb @3
QzF
QyF
Qzl
Qqa
Operator
QzA
QAe
Int Int ^
Qzj
Qlz
Qzt
QyW
K.In s.heap @
List QlA @
List Bool @
List QgE @
Array Nat @
PT X a tA @3
Qz7
QyM
Qzn
KT H kvs xs @3
Qz8
Qz9
Qzo
Qzv
AB X pb e @3
A BS ^
QyN
D Bool ^
l.Nodup
X.mg x @ none `=
AT AT `×
Qza
Qy0
Sem Bool @
Arguments
Qqn
QyU
QyX
QzQ
QyS
List _ @
AM X x @2
Qzg
QzM
QzT
Qze
Qzy
QyK
Qzs
QAc
QyZ
Qzm
QzN
Qzh
α Int ^
QAg
Gd c p @2
QyY
w l `::
RelV x v @2
QzR
QzE
yG X.K C @2
QzL
AS X e f @3
QzH
Qzp
QAf
QzV
QzU
QzG
Qzx
QAk
Qzz
QyO
Qy2
Qy4
QzP
QzK
aC Z H @2
Qy1
Qy5
QzI
Qzk
Qzi
QyQ
QzB
NV h d v @3
Ni n p @2
Qzu
QzC
QA7
QA8
QA9
QBa
QBb
QBc
QBd
QBe
QBf
QBg
QBh
QBi
QBj
QBk
QBl
QBm
QBq
QBr
QBs
QBt
QBv
QBw
QBQ
QBR
QBS
QBT
QBA
QBD
QBE
QBF
QB0
QB1
QB2
QB4
QB5
QB6
QB7
QB9
QCa
QBI
QBJ
QBo
QBK
QBL
QBN
QCf
QBO
QCp
QCg
QCo
QBG
QCj
QCk
QCl
QCm
QCn
QCE
QBx
QBC
QBp
QCq
QCr
QCs
QCt
QCu
QCv
QCw
QCx
QCy
QCz
QCA
QC1
QCB
QDa
QCD
QCc
QCF
QBZ
QCI
QCJ
QBP
QCh
QCL
QCN
QCO
QCP
QCQ
QCR
QCS
QCT
QCU
QCV
QCW
QB8
QCX
QCb
QCY
QCZ
QC0
QC2
QC3
QC4
QBW
QC5
QC6
QC7
QC8
QBY
QDb
QDc
QCe
QBH
QBM
QBy
QBu
QBz
QCd
QCH
QBU
QBn
QCK
QCM
QCi
QBB
QB3
QBV
QCC
QBX
QC9
QDd
QDe
QDf
QDg
QDh
QDi
QDj
QDk
QDl
QDm
QDn
QDo
QDp
QDq
QDr
QDs
QDt
QDu
QDv
QDw
QDx
QDy
QDD
QDE
QDF
QDG
QDQ
QDR
QDS
QDT
QDU
QDV
QDX
QD1
QDz
QDA
QDB
QDC
QDH
QD8
QDI
QDJ
QDK
QDL
QDM
QD9
QDN
QDO
QDP
QEa
QDW
QDY
QDZ
QD0
QD2
QD3
QD4
QD5
QD6
QD7
QE0
QE1
QEb
QE2
QEc
QEd
QEe
QEf
QEg
QEh
QEi
QEj
QEk
QE3
QEl
QEm
QEn
QEo
QEp
QEq
QEr
QE4
QEs
QEt
QEu
QEv
QEw
QE8
QEx
QEy
QEz
QEA
QEB
QFc
QEC
QED
QEE
QEF
QEG
QEH
QEI
QEJ
QEK
QEL
QEM
QEN
QEO
QEP
QEQ
QER
QES
QET
QEU
QEV
QEW
QEX
QEY
QEZ
QE5
QE6
QE7
QE9
QFa
QFb
QFd
QFe
QFf
QFg
QFh
QFi
QFj
QFk
QFl
QFm
QFn
QFo
QFp
QFq
QFr
QFs
QFt
QFu
QFv
QFw
QFx
QFy
QFz
QFA
QFB
QFC
QFD
QFE
QFF
QFG
QFH
QFI
QFJ
QFK
QFL
QFM
QFN
QFO
QFP
QFQ
QFR
QFS
QFT
QFU
QFV
QFW
QFX
QFY
QFZ
QF0
QF1
QF2
QF3
QF4
QF5
QF6
QF7
QF8
QF9
QGa
QGb
QGc
QGd
QGe
QGf
QGg
QGh
QGi
QGj
QGk
QGl
QGm
QGn
QGo
QGp
QGq
QGr
QGs
QGt
QGu
QGv
QGw
QGx
QGy
QGz
QGA
QGB
QGC
QGD
QGE
QGF
QGG
QGH
QGI
QGJ
QGK
QGL
QGM
QGN
QGO
QGP
QGQ
QGR
QGS
QGT
QGU
QGV
QGW
QGX
QGY
QGZ
QG0
QG1
QG2
QG3
QG4
QG5
QG6
QG7
QG8
QG9
QHa
QHb
QHc
QHd
QHe
QHf
QHg
QHh
QHi
QHj
QHk
QHl
QHm
QHn
QHo
QHp
QHq
QHr
QHs
QHt
QHu
QHv
QHw
QHx
QHy
QHz
QHA
QHB
QHC
QHD
QHE
QHF
QHG
QHH
QHI
QHJ
QHK
QHL
QHM
QHN
QHO
QHP
QHQ
QHR
QHS
QHT
QHU
QHV
QHW
QHX
QHY
QHZ
QH0
QH1
QH2
QH3
QH4
QH5
QH6
QH7
QH8
QH9
QIa
QIb
QIc
QId
QIe
QIf
QIg
QIh
QIi
QIj
QIk
QIl
QIm
QIn
QIo
QIp
QIq
QIr
QIs
QIt
QIu
QIv
QIw
QIx
QIy
QIz
QIA
QIB
QIC
QID
QIE
QIF
QIG
QIH
QII
QIJ
QIK
QIL
QIM
QIN
QIO
QIP
QIQ
QIR
QIS
QIT
QIU
QIV
QIW
QIX
QIY
QIZ
QI0
QI1
QI2
QI3
QI4
QI5
QI6
QI7
QI8
QI9
QJa
QJb
QJc
QJd
QJe
QJf
QJg
QJh
QJi
QJj
QJk
QJl
QJm
QJn
QJo
QJp
QJq
QJr".splitOn "\n").toArray
def qqI (c:Char):Nat:=if 'a'<=c then c.toNat-97 else if 'A'<=c then c.toNat-39 else c.toNat+4
local macro_rules | `($x:ident)=>let u:=Lean.Macro.throwUnsupported;match x.getId with
 | .str .anonymous s=>let f:=fun n=>match qqT[n]? with
   | some t=>if t.isEmpty then u else pure ((t.splitOn " ").foldl qqS []).head!
   | _=>u
  match s.toList with
  | ['Q',a]=>f (qqI a)
  | ['Q',a,c]=>f (62+62*qqI a+qqI c)
  | _=>u
 | _=>u
local macro_rules | `(#[$a,*])=>if a.getElems.isEmpty then Lean.Macro.throwUnsupported else `(⟨$a,*⟩)
noncomputable section
namespace L2
open PySem PySem.Spec PyProof.Rows
abbrev cM:=@List.length_map
abbrev iB:=@List.mem_cons_self
abbrev i3:=@List.mem_cons_of_mem
abbrev i5:=@Nat.le_of_ble_eq_true
abbrev fL:=@List.mem_cons
abbrev km:=@List.getD_eq_getElem?_getD
abbrev bW:=@if_neg
abbrev i8:=@List.mem_append
abbrev ec:=@wpAny_bind
abbrev jN:=@List.mem_append_right
abbrev kA:=@List.getElem?_eq_getElem
abbrev kq:=@List.mem_append_left
abbrev cq:=@if_pos
abbrev ka:=@List.append_assoc
abbrev i9:=@List.mem_map
abbrev ke:=@Int.toNat_natCast
abbrev lr:=@Heap.get?_push_of_some
abbrev js:=@Nat.le_refl
abbrev ko:=@List.append_nil
abbrev k4:=@List.getElem?_map
abbrev lh:=@List.mem_singleton
abbrev lj:=@List.length_append
abbrev md:=@List.getElem?_eq_some_iff
abbrev ky:=@List.map_append
abbrev l4:=@List.mem_of_getElem?
abbrev kc:=@List.map_map
abbrev la:=@decide_eq_false
abbrev lL:=@List.not_mem_nil
abbrev j3:=@wpAny_pure
abbrev kr:=@Heap.lt_size
abbrev l3:=@of_decide_eq_true
abbrev l0:=@List.mem_filter
abbrev kx:=@Nat.zero_le
abbrev mf:=@Heap.get?_push_size
abbrev lx:=@List.map_cons
abbrev ma:=@List.nodup_append
abbrev l5:=@decide_eq_true
abbrev l9:=@Bool.and_eq_true
abbrev mn:=@Bool.false_ne_true
abbrev mm:=@Int.emod_lt_of_pos
abbrev l1:=@Nat.ne_of_lt
abbrev mj:=@Int.emod_nonneg
abbrev l8:=@PySem.W.mg_of
abbrev l6:=@Nat.le_trans
abbrev ml:=@List.nodup_cons
abbrev my:=@Nat.lt_of_lt_of_le
abbrev mv:=@List.take_length
abbrev l7:=@sizeLine_eq
abbrev mN:=@List.pairwise_cons
abbrev mx:=@List.lookup_cons
abbrev mu:=@Option.some.inj
abbrev nh:=@List.perm_append_comm
abbrev mi:=@Nat.le_of_lt
abbrev mM:=@List.length_cons
abbrev mI:=@List.mem_flatMap
abbrev nq:=@Option.map_eq_some_iff
abbrev nZ:=@List.pairwise_singleton
abbrev m4:=@PySem.W.mg_none_of
abbrev m3:=@List.length_range
abbrev me:=@wpAny_mono
abbrev nz:=@List.filterMap_cons
abbrev nv:=@List.map_congr_left
abbrev nc:=@List.cons_append
abbrev nt:=@of_decide_eq_false
abbrev oP:=@List.length_singleton
abbrev pE:=@List.Perm.append_left
abbrev pz:=@List.length_filter_le
abbrev nr:=@List.all_eq_true
abbrev n3:=@List.Sublist.refl
abbrev oI:=@Nat.lt_of_le_of_lt
abbrev nk:=@List.mem_range
abbrev mT:=@Int.zero_add
abbrev pw:=@beq_eq_false_iff_ne
abbrev pv:=@List.Sublist.append
abbrev pj:=@List.getElem?_range
abbrev va:=@PyProof.Rows.callWith_type1
abbrev oD:=@List.size_toArray
abbrev ph:=@List.filter_append
abbrev oC:=@List.length_take
abbrev u7:=@List.drop_eq_getElem_cons
abbrev rh:=@PySem.mem_of_lookup
abbrev pf:=@decide_eq_true_eq
abbrev sk:=@List.length_replicate
abbrev rg:=@wpAny_Call_Name_kw
abbrev oy:=@List.nodup_nil
abbrev rf:=@List.reverse_cons
abbrev sx:=@List.length_reverse
abbrev p5:=@List.find?_cons
abbrev xc:=@List.sublist_append_right
abbrev p4:=@List.length_set
abbrev p3:=@List.filter_map
abbrev sv:=@Bool.false_eq_true
abbrev rk:=@List.perm_middle
abbrev ri:=@List.getElem_mem
abbrev so:=@wpAny_truthy_bool
abbrev sm:=@List.take_add_one
abbrev rb:=@List.range_succ
abbrev u4:=@List.perm_iff_count
abbrev wx:=@List.getElem?_set_self
abbrev wt:=@Heap.get?_update_other
abbrev pd:=@List.any_cons
abbrev y5:=@List.getElem?_append_right
abbrev wq:=@Heap.get?_update_self
abbrev wj:=@List.take_append_drop
abbrev y4:=@List.getElem?_append_left
abbrev ox:=@Nat.le_succ
abbrev wi:=@List.getElem?_set_ne
abbrev u3:=@Bool.not_eq_true'
abbrev HH:=@List.eq_nil_of_length_eq_zero
abbrev y3:=@PySem.F.plainAttrs_list
abbrev y2:=@List.filter_cons_of_neg
abbrev y1:=@List.filter_cons_of_pos
abbrev we:=@PySem.W.hideAll_get
abbrev uu:=@wpAny_passesOwn
abbrev uk:=@wpAny_specialOf
abbrev uj:=@List.filter_nil
abbrev ui:=@List.nil_append
abbrev r8:=@Nat.lt_irrefl
abbrev wd:=@List.count_append
abbrev y0:=@List.mem_of_mem_take
abbrev yY:=@List.pairwise_append
abbrev nf:=@Ne.symm
abbrev w8:=@List.length_drop
abbrev w4:=@beq_self_eq_true
abbrev w1:=@List.mem_reverse
abbrev zt:=@Array.length_toList
abbrev zr:=@Heap.SameBut.update
abbrev zp:=@List.getElem_of_mem
abbrev zi:=@List.flatMap_append
abbrev ze:=@List.length_pos_iff
abbrev u6:=@Paired.length
abbrev u5:=@wpAny_holding
abbrev wH:=@Bool.eq_iff_iff
abbrev zd:=@tupleKind_room_in1
abbrev wG:=@PySem.W.kia_one
abbrev za:=@List.find?_eq_none
abbrev MO:=@List.eq_nil_iff_forall_not_mem
abbrev Ii:=@List.takeWhile_sublist
abbrev MM:=@wpAny_typeNameOfWhole_keyiter
abbrev y8:=@F.slot_tuple_hash
abbrev y6:=@List.flatMap_cons
abbrev HU:=@List.getElem?_eq_none
abbrev wz:=@Bool.and_false
abbrev MI:=@List.takeWhile_append_of_pos
abbrev si:=@beq_iff_eq
abbrev HI:=@List.Pairwise.filter
abbrev wy:=@Bool.or_false
abbrev xb:=@Bool.and_true
abbrev xa:=@List.map_take
abbrev zv:=@List.foldl_cons
abbrev Na:=@PySem.F.slot_dict_getitem
abbrev M1:=@List.mem_of_find?_eq_some
abbrev ID:=@PySem.W.of_hideAll
abbrev Iy:=@PySem.W.callWith_K
abbrev aB7:=@PySem.F.args_tuple_add_2
abbrev MW:=@PySem.F.slot_list_append
abbrev MU:=@PySem.F.type_list_append
abbrev ME:=@wpAny_comprehension_free
abbrev HE:=@Obj.data_mapFields
abbrev Mo:=@List.Pairwise.imp_of_mem
abbrev HA:=@Bool.not_eq_false'
abbrev wb:=@List.map_set
abbrev ue:=@call_meets
abbrev Mn:=@List.getElem?_replicate
abbrev aCh:=@PySem.F.entry_tuple_add
abbrev Me:=@List.length_eq_zero_iff
abbrev Md:=@List.getElem?_cons_succ
abbrev Hn:=@List.ext_getElem?
abbrev Hm:=@eqIsQuiet_byValue
abbrev Hk:=@List.getElem?_inj
abbrev Key:=Sum Int Str
noncomputable def Ih:Key->Value->Bool
 | .inl k,v=>Value.isInt k v
 | .inr x,v=>Value.isStrOf x v
noncomputable def asC(w:World):Key->Int
 | .inl k=>hashInt k
 | .inr x=>hashStr w x
theorem fJ:∀{k:Key} {v:Value},Ih k v=true->(∃i t,k=Sum.inl i/\v=Value.int i t)\/(∃x t,k=Sum.inr x/\v=Value.str x t)
 | .inl i,v,h=>by
  obtain⟨t,e⟩:=Value.isInt_shape h;exact .inl #[i,t,rfl,e]
 | .inr x,v,h=>by
  obtain⟨t,e⟩:=Value.isStrOf_shape h;exact .inr #[x,t,rfl,e]
def Xp(i:Int)(t:Tok):Ih (.inl i) QgG=true:=by simp[Ih,Value.isInt]
def Xq(x:Str)(t:Tok):Ih (.inr x) Qpq=true:=by simp[Ih,Value.isStrOf]
theorem akk(a b:Int):decide ((Sum.inl a:Key)=Sum.inl b)=(a==b):=by
 by_cases e:a=b
 .subst e;simp
 simp_all
def akl(a b:Str):decide ((Sum.inr a:Key)=Sum.inr b)=decide (a=b):=by simp
def akm(a:Int)(b:Str):decide ((Sum.inl a:Key)=Sum.inr b)=false:=la (λq=>nomatch q)
def akn(a:Str)(b:Int):decide ((Sum.inr a:Key)=Sum.inl b)=false:=la (λq=>nomatch q)
def fW(prog:Qat)(w:World):PySem.KeyKind prog w Key where
 is:=Ih
 hash:=asC w
 inj:=λv a b f c=>by
  obtain⟨i,t,rfl,rfl⟩|⟨x,t,rfl,rfl⟩:=fJ f
  .obtain⟨j,u,rfl,e⟩|⟨y,u,rfl,e⟩:=fJ c
   .injection e with e1 _;rw[e1]
   .exact nomatch e
  .obtain⟨j,u,rfl,e⟩|⟨y,u,rfl,e⟩:=fJ c
   .exact nomatch e
   .injection e with e1 _;rw[e1]
 byValue:=λk v h=>by
  obtain⟨i,t,rfl,rfl⟩|⟨x,t,rfl,rfl⟩:=fJ h<;>rfl
 pyHash:=λhv h=>by
  obtain⟨i,t,rfl,rfl⟩|⟨x,t,rfl,rfl⟩:=fJ hv
  .exact wpAny_pyHash_int h
  .exact wpAny_pyHash_str h
 eqBool:=λd hv h=>by
  obtain⟨i,t,rfl,rfl⟩|⟨x,t,rfl,rfl⟩:=fJ d
  .obtain⟨j,u,rfl,rfl⟩|⟨y,u,rfl,rfl⟩:=fJ hv
   .rw[akk]at h;exact wpAny_eqBool_int h
   .rw[akm]at h;exact SeqAt.EqAt.int_str i t y u _ _ _ _ h
  .obtain⟨j,u,rfl,rfl⟩|⟨y,u,rfl,rfl⟩:=fJ hv
   .rw[akn]at h;exact SeqAt.EqAt.str_int x t j u _ _ _ _ h
   .rw[akl]at h;exact wpAny_eqBool_str h
 «strs»:=λk x t v h=>by
  obtain⟨i,u,rfl,e⟩|⟨y,u,rfl,e⟩:=fJ h
  .exact nomatch e
  .injection e with e1 _;subst e1;cases v<;>rfl
def Nq(prog:Qat)(w:World)(i:Int)(t:Tok):(fW prog w).is (.inl i) QgG=true:=Xp i t
def Nr(prog:Qat)(w:World)(x:Str)(t:Tok):(fW prog w).is (.inr x) Qpq=true:=Xq x t
inductive V where
 | non|bl (b:Bool)|int (i:Int)|str (x:Str)|Rc (b:Array UInt8)|flt (b:UInt64)|ref (a:Addr)|ty (n:Qbi)
 deriving DecidableEq
def RelV:V->Value->Prop
 | .non,u=>u=Value.none
 | .bl b,u=>u=Value.bool b
 | .int i,u=>∃t,u=Value.int i t
 | .str x, u => ∃ t, u = Value.str x t
 | .Rc b,u=>∃t,u=Value.bytes b t
 | .flt b,u=>∃t,u=Value.float b t
 | .ref a,u=>u=Value.ref a
 | .ty n,u=>u=Value.type n
abbrev _root_.B0:=List V
abbrev _root_.B1:=List Value
abbrev Vals:B0->B1->Prop:=Paired RelV
variable{xs:B0}{us:B1}
theorem Vals.length(r:QcV):xs.length=us.length:=u6 r
theorem Vals.get:∀{xs:B0} {us:B1} {i:Nat} {x:V},Vals xs us->xs[i]? = some x->∃u,us[i]? = some u/\RelV x u
 | _,_,_,_,.nil,e=>by simp at e
 | _,_,0,_,.cons r _,e=>by simp_all
 | _,_,i+1,x,.cons _ t,e=>by
  obtain⟨u,h1,h2⟩:=Vals.get t (‹_›);exact#[u,‹_›,h2]
theorem Vals.set{x:V}{u:Value}(r:RelV x u):∀{xs:B0} {us:B1} (i:Nat),Vals xs us->Vals (xs.set i x) (us.set i u)
 | _,_,_,.nil=>.nil
 | _,_,0,.cons _ t=>.cons r t
 | _,_,i+1,.cons q t=>.cons q (Vals.set r i t)
theorem Vals.append:∀{xs ys:B0} {us ws:B1},Vals xs us->Vals ys ws->Vals (xs++ys) Qki
 | _,_,_,_,.nil,s=>s
 | _,_,_,_,.cons r t,s=>.cons r (Vals.append t s)
theorem Vals.take:∀{xs:B0} {us:B1} (n:Nat),Vals xs us->Vals (xs.take n) (us.take n)
 | _,_,0,_=>.nil
 | _,_,_+1,.nil=>.nil
 | _,_,n+1,.cons r t=>.cons r (Vals.take n t)
theorem Vals.drop:∀{xs:B0} {us:B1} (n:Nat),Vals xs us->Vals (xs.drop n) (us.drop n)
 | _,_,0,r=>r
 | _,_,_+1,.nil=>.nil
 | _,_,n+1,.cons _ t=>Vals.drop n t
def tH:Option V->Option Value->Prop
 | some v,some u=>RelV v u
 | none,none=>True
 | _,_=>False
def KV{κ:Type}:List (κ×V)->List (κ×Value)->Prop:=Paired λ(p:κ×V) (q:κ×Value)=>p.1=q.1/\RelV p.2 q.2
noncomputable def kV:Key->V
 | .inl i=>.int i
 | .inr x=>.str x
abbrev _root_.CU:=List Key
abbrev _root_.B2:=List (CU×V)
abbrev _root_.Bn:=Int->Bool
abbrev _root_.CA:=List (Str×V)
abbrev _root_.Cc:=Array Value
abbrev _root_.Cl:=List (Key×V)
inductive HO where
 | lst (xs:B0)
 | tup (xs:B0)
 | dK (kvs:Cl)|dT (kvs:B2) (ep:Nat)
 | set (S:Bn) (n:Nat)
 | ins (C dx:Addr) (fs:CA)
 | own (x:Addr)
 | xd (fs:CA)
 | met (f x:Addr)
 | rng (lo hi:Int)
 | fC (o:Obj) (u:HO)
 | tbl (ps:Cc)
 | tabs (q:Str)
 | Xr (q:Str)
 | ext (φ:Heap->Prop)
abbrev Hp:=Addr->Option HO
noncomputable def upd(H:Hp)(a:Addr)(o:HO):Hp:=λb=>if b=a then some o else H b
variable{H:Hp}{a:Addr}{o:HO}
theorem aO:upd H a o a=some o:=by unfold upd;simp_all
variable{b:Addr}
def ay(h:b≠a):upd H a o b=H b:=by unfold upd;rw[bW h]
def apn{u:HO}(h:H a=some o)(h':H b=some u)(d:o≠u):a≠b:=by
 intro e;subst e;rw[h]at h';exact d (mu h')
theorem aL(h:H a=some o)(h':H b=none):a≠b:=by
 intro e;simp_all
section
variable(P:Qat)(w:World)
def fK(H:Hp)(h:Heap)(a:Addr):HO->Prop
 | .lst xs=>xs.length<=sizeLine/\∃(its:B1) (n:Nat),Vals xs its/\h.get? a=some {cls:=.type "list",data:=.seq its.toArray n}
 | .tup xs=>xs.length<=sizeLine/\∃its:B1,Vals xs its/\IsTup h a its.toArray
 | .dK kvs=>kvs.length<=sizeLine/\Qcr=false/\∃vs,KV kvs vs/\h.DictOf Qdg a vs
 | .dT kvs en=>kvs.length<=sizeLine/\Qcr=false/\∃xs:List Qgk,
   Paired (λ(p:CU×V) (q:Qgk)=>p.1=q.1/\H q.2.1=some QvJ/\RelV p.2 q.2.2) kvs xs ∧
   ∃o es ep,h.get? a=some o/\o.ExactDict/\o.data=.dict es ep/\es.toList=xs.map (entryOfKey Qm0)/\(xs.map (·.1)).Nodup/\ep=en
 | .set S n=>h.SetOf (intKind P w) a S n
 | .ins C dx fs=>H dx=some Qg0/\fs.length<=1000/\dx≠a/\h.get? a=some Qn4 ∧
   ∃mA,h.Ns1 dx mA/\(∀f,tH Qod (mA f))/\PySem.Within mA (fs.map (·.1))
 | .own _=>∃o,h.get? a=some o
 | .xd fs=>∃mA,h.Ns1 a mA/\∀f,tH Qod (mA f)
 | .rng lo hi=>∃t u v,h.get? a=some {cls:=.type "range",data:=.fields (List.toArray [.int lo t,.int hi u,.int 1 v])}
 | .fC o u=>h.get? a=some o/\fK H h a u
 | .tbl ps=>h.get? a=some {cls:=.none,data:=.fields ps}
 | .tabs q=>∃ps:Cc,h.get? a=some {cls:=.none,data:=.fields ps}/\TriplesOk ps.toList/\∀pos b,codeAmong pos ps.toList=some b->∃c,b=.ref c/\H c=some QcU
 | .Xr q=>∃o vs t,h.get? a=some o/\o.data=.fields vs/\vs[1]? = some (.str q t)
 | .met f x=>h.get? a=some (PySem.W.methodObj Qae Qdj)
 | .ext φ=>φ h/\(∃o,h.get? a=some o)/\∀h1 h2:Heap,φ h1->(∀o,h1.get? a=some o->h2.get? a=some o)->φ h2
def tO(H:Hp)(h:Heap):Prop:=∀a o,H a=some o->fK P w H h a o
end
variable{P:Qat}{w:World}{H':Hp}{h h':Heap}
theorem fK.lt(x:fK P w H h a o):a<h.objs.size:=by
 cases o with
 | lst xs=>obtain⟨_,_,_,_,e⟩:=x;exact kr e
 | tup xs=>obtain⟨_,_,_,p⟩:=x;exact p.lt
 | dK kvs=>obtain⟨_,_,_,_,o,_,_,e,_⟩:=x;exact kr e
 | dT kvs ep=>obtain⟨_,_,_,_,o,_,_,e,_⟩:=x;exact kr e
 | set S n=>obtain⟨o,_,_,_,e,_⟩:=x;exact kr e
 | ins C dx fs=>obtain⟨_,_,_,e,_⟩:=x;exact kr e
 | own y=>obtain⟨_,e⟩:=x;exact kr e
 | xd fs=>obtain⟨_,⟨_,_,_,e,_⟩,_⟩:=x;exact kr e
 | rng lo hi=>obtain⟨_,_,_,e⟩:=x;exact kr e
 | fC b u=>obtain⟨e,_⟩:=x;exact kr e
 | tbl ps=>exact kr (x)
 | tabs q=>obtain⟨_,e,_⟩:=x;exact kr e
 | Xr q=>obtain⟨_,_,_,e,_⟩:=x;exact kr e
 | met f y=>exact kr (x)
 | ext φ=>obtain⟨_,⟨_,e⟩,_⟩:=x;exact kr e
theorem Paired.KA{α β:Type}{F G:QnZ}:∀{l₁:Qaf} {l₂:List β},Paired F l₁ l₂->(∀a b,F a b->G a b)->Paired G l₁ l₂
 | _,_,.nil,_=>.nil
 | _,_,.cons r t,f=>.cons (f _ _ r) (Paired.KA t f)
theorem fK.C3(x:fK P w H h a o)(k:∀b u,(b=a\/H b=some Qg0)->h.get? b=some u->h'.get? b=some u)
  (l:∀b,H b=some Qg0->H' b=some Qg0) (j:∀b xs,H b=some Qbr->H' b=some Qbr) (jO:∀b q,H b=some QcU->H' b=some QcU:=by intro _ _ q;exact q):fK P w H' h' a o:=by
 induction o with
 | lst xs=>obtain⟨z,its,n,r,e⟩:=x;exact#[z,its,n,r,k _ _ Qaj e]
 | tup xs=>obtain⟨z,its,r,g,e,c⟩:=x;exact#[z,its,r,g,k _ _ Qaj e,c]
 | dK kvs=>obtain⟨z,y,vs,r,g,es,ep,e,c⟩:=x;exact#[z,y,vs,r,g,es,ep,k _ _ Qaj e,c]
 | dT kvs ep=>
  obtain⟨z,y,xs,r,g,es,ep,e,c⟩:=x;exact#[z,y,xs,Paired.KA r λp q z=>#[z.1,j _ _ z.2.1,z.2.2],g,es,ep,k _ _ Qaj e,c]
 | set S n=>obtain⟨g,es,ep,t,e,c⟩:=x;exact#[g,es,ep,t,k _ _ Qaj e,c]
 | ins C dx fs=>
  obtain⟨d,z,ne,e,mA,⟨od,es,ep,e2,c⟩,r⟩:=x;exact#[l _ d,z,ne,k _ _ Qaj e,mA,#[od,es,ep,k _ _ (.inr d) e2,c],r]
 | own y=>obtain⟨g,e⟩:=x;exact#[g,k _ _ Qaj e]
 | xd fs=>obtain⟨mA,⟨od,es,ep,e,c⟩,r⟩:=x;exact#[mA,#[od,es,ep,k _ _ Qaj e,c],r]
 | rng lo hi=>obtain⟨t,u,v,e⟩:=x;exact#[t,u,v,k _ _ Qaj e]
 | fC g u i=>obtain⟨e,q⟩:=x;exact#[k _ _ Qaj e,i q]
 | tbl ps=>
  have e:=x;exact k a _ Qaj e
 | met f y=>
  have e:=x;exact k a _ Qaj e
 | tabs q=>obtain⟨ps,e,tr,cs⟩:=x;exact#[ps,k _ _ Qaj e,tr,λpos m z=>let ⟨c,e1,e2⟩:=cs pos m z;#[c,e1,jO _ _ e2]]
 | Xr q=>obtain⟨g,vs,t,e,r⟩:=x;exact#[g,vs,t,k _ _ Qaj e,r]
 | ext φ=>obtain⟨p,⟨o,e⟩,st⟩:=x;exact#[st _ _ p λo q=>k _ _ Qaj q,#[o,k _ _ Qaj e],st]
theorem tO.lt(x:QbG)(e:H a=some o):a<h.objs.size:=(x a o e).lt
theorem tO.fresh(x:QbG)(e:Qoy):H a=none:=by
 cases q:H a with
 | none=>rfl
 | some u=>exact absurd (my (x.lt q) e) (r8 _)
theorem tO.kept(x:QbG)(k:∀b u,h.get? b=some u->h'.get? b=some u):tO P w H h':=λa o e=>
 (x a o e).C3 (λb u _ q=>k b u q) QcQ λ_ _ q=>q
theorem tO.laid(x:QbG)(k:∀b u,h.get? b=some u->h'.get? b=some u)(f:Qoy)(new:fK P w QbC h' a o):tO P w QbC h':=λb u e=>by
 have hn:=x.fresh f;by_cases d:b=a
 .subst d;rw[aO]at e;grind
 .rw[ay d]at e;exact(x b u e).C3 (λc v _ q=>k c v q) (λc q=>ay QcT▸q) (λc xs q=>ay QcT▸q) λc z q=>ay QcT▸q
def Rd(H:Hp)(a:Addr)(u:HO):Prop:=H a=some u\/∃o,H a=some QgX
theorem Rd.of{u:HO}(h:H a=some u):Rd H a u:=.inl h
theorem Rd.ok{u:HO}(r:Rd H a u)(x:QbG):fK P w H h a u:=by
 obtain r|⟨o,r⟩:=r
 .exact x a u r
 .obtain⟨_,q⟩:=x a _ r;exact q
def z4:Option HO->Prop
 | some (.lst _)=>True
 | some (.dK _)=>True
 | some (.dT _ _)=>True
 | some (.set _ _)=>True
 | some (.ins _ _ _)=>True
 | some (.ext _)=>True
 | some (.tabs _)=>True
 | _=>False
variable{x e:Addr}{o':HO}
theorem tO.write(ok:QbG)(d:z4 (H x))(he:Qp2)(k:∀b u,b≠e->h.get? b=some u->h'.get? b=some u)(f:∃u,h'.get? e=some u)
  (new:fK P w (upd H x o') h' x o'):tO P w (upd H x o') h':=λb u q=>by
 have l:∀c y,H c=some (.own y)->c≠x:=λc y r z=>by subst z;rw[r]at d;exact d
 have j:∀c xs,H c=some Qbr->c≠x:=λc xs r z=>by subst z;rw[r]at d;exact d
 have i:∀c q,H c=some QcU->c≠x:=λc q r z=>by subst z;rw[r]at d;exact d
 by_cases g:b=x
 .subst g;rw[aO]at q;grind
 .rw[ay g]at q;by_cases a:b=e
  .have m:H b=some QgQ:=by
    obtain z|z:=he
    .exact absurd (a.trans z) g
    .rw[a];exact z
   rw[q]at m;cases m;obtain⟨v,hv⟩:=f;exact#[v,a▸hv ]
  .refine(ok b u q).C3 (λc v n r=>k c v ?_ r) (λc r=>ay (l c b r)▸r) (λc xs r=>ay (j c xs r)▸r) λc z r=>ay (i c z r)▸r;grind
abbrev _root_.BY:=List Addr
structure Un(fs ex:BY)(H H':Hp)(h h':Heap):Prop where
 keep:∀b o,h.get? b=some o->H b=none->b∉fs->b∉ex->h'.get? b=some o
 slot:∀b o,h.get? b=some o->H b=none->b∈fs->b∉ex->∃sl,h'.get? b=some {o with slots:=sl}
 free:∀b o,h.get? b=some o->H b=none->b∉ex->H' b=none
 there:∀b o,h.get? b=some o->b∉ex->∃o',h'.get? b=some o'
 yx:∀b xs,H b=some Qbr->H' b=some Qbr
 dB:∀b o u,H b=some QgX->H' b=some QgX
 yy:∀b ps,H b=some (.tbl ps)->∃more,H' b=some Qwg
section
variable{fs fs' ex ex':BY}{H1 H2:Hp}{h1 h2:Heap}
theorem Un.any(u:Qnl){a:Obj}(q:h.get? b=some a)(n:H b=none)(c:b∉ex):∃sl,h1.get? b=some {a with slots:=sl}:=by
 by_cases d:b∈fs
 .exact u.slot b a q n d c
 .exact#[ _,u.keep b a q n d c]
theorem Un.trans(a:Qnl)(b:Un fs ex H1 H2 h1 h2):Un fs ex H H2 h h2 where
 keep:=λc d q n f e=>b.keep c d (a.keep c d q n f e) Qm4 f e
 slot:=λc d q n f e=>by
  obtain⟨sl,e1⟩:=a.slot c d q n f e;obtain⟨g,e2⟩:=b.slot c _ e1 Qm4 f e;exact#[g,e2]
 free:=λc d q n e=>by
  obtain⟨o',e1⟩:=a.there c d q e;exact b.free c o' e1 Qm4 e
 there:=λc d q e=>by
  obtain⟨o',e1⟩:=a.there c d q e;exact b.there c o' e1 e
 yx:=λc xs q=>b.yx c xs (a.yx c xs q)
 dB:=λc d xs q=>b.dB c d xs (a.dB c d xs q)
 yy:=λc ps q=>by
  obtain⟨m1,e1⟩:=a.yy c ps q;obtain⟨m2,e2⟩:=b.yy c _ e1;exact#[m1++m2,by simp_all ]
theorem Un.kept(k:∀b u,h.get? b=some u->h'.get? b=some u):Un fs ex H H h h':=
 #[λb a q _ _ _=>k b a q,λb a q _ _ _=>#[ _,k b a q],λ_ _ _ n _=>n,λb a q _=>#[a,k b a q],λ_ _ q=>q,λ_ _ _ q=>q,λ_ ps q=>#[#[],‹_› ]]
theorem Un.refl:Un fs ex H H h h:=Un.kept λ_ _ q=>q
theorem Un.laid(k:∀b u,h.get? b=some u->h'.get? b=some u)(c:Qoy)(hn:H a=none):Un fs ex H QbC h h' where
 keep:=λb u q _ _ _=>k b u q
 slot:=λb u q _ _ _=>#[ _,k b u q]
 free:=λb u q n _=>ay (l1 (my (kr q) c))▸n
 there:=λb u q _=>#[u,k b u q]
 yx:=λb xs q=>ay QcT▸q
 dB:=λb u xs q=>ay QcT▸q
 yy:=λb ps q=>#[#[],by rw[ay QcT,q];simp]
theorem Un.write(d:z4 (H x))(he:Qp2)(k:∀b u,b≠e->h.get? b=some u->h'.get? b=some u)(c:∃u,h'.get? e=some u):Un fs ex H Qo8 h h':=by
 have g:∀b,H b=none->b≠x:=λb n z=>by subst z;rw[n]at d;exact d
 have f:∀b,H b=none->b≠e:=λb n z=>by simp_all
 have hm:∀b u,H b=some u->¬ z4 (some u)->b≠x:=λb u q nm z=>by simp_all
 refine#[λb u q n _ _=>k b u (f b n) q,λb u q n _ _=>#[ _,k b u (f b n) q],λb u q n _=>ay (g b n)▸n,λb u q _=>?_,
  λb xs q=>ay Qms▸q,λb u xs q=>ay Qms▸q,λb ps q=>#[#[],by rw[ay Qms,q];simp]]
 by_cases a:b=e
 .subst a;exact c
 .exact#[u,k b u a q]
theorem Un.mono(u:Qnl)(hs:∀b∈fs,b∈fs')(c:∀b∈ex,b∈ex'):Un fs' ex' H H1 h h1:=
 #[λb a q n d he=>u.keep b a q n (λz=>d (hs b z)) λz=>he (c b z),λ_ _ q n _ he=>u.any q n λz=>he (c _ z),λb a q n he=>u.free b a q n λz=>he (c b z),λb a q he=>u.there b a q λz=>he (c b z),u.yx,u.dB,u.yy]
end
noncomputable def NA(h:Heap)(H:Hp):BY:=(List.range h.objs.size).filter λa=>(H a).isSome
def GF(h:Heap)(H:Hp):Heap:=hideAll h (NA h H)
def Xs(h:Heap)(H:Hp):(GF h H).objs.size=h.objs.size:=PySem.W.hideAll_size _ _
theorem aaj{o:Obj}(e:h.get? b=some o)(n:H b=none):(GF h H).get? b=some o:=
 we _ e λhm=>by
  have q:=(l0.1 hm).2;simp_all
theorem ae5{o:Obj}(e:(GF h H).get? b=some o):h.get? b=some o/\H b=none:=by
 have a:=ID _ e;refine#[a,?_];cases q:H b with
 | none=>rfl
 | some x=>
  have hm:b∈NA h H:=l0.2 #[nk.2 (kr a),by simp[q]];have z:(GF h H).get? b=none:=PySem.W.hideAll_none _ hm;simp_all
abbrev _root_.BC:=List (Addr×Obj)
noncomputable def ae6(g h:Heap)(L:Addr):BC:=(List.range h.objs.size).filterMap λa=>if a=L\/(g.get? a).isSome=true then none else(h.get? a).map λo=>(a,o)
def rest(g h:Heap)(L d:Addr):BC:=(ae6 g h L).filter λp=>decide (p.1≠d)
abbrev _root_.Bi:=Str->Option Value
structure Mod(K:Frag)(mg:Bi)(base:Heap):Prop where
 vx:K.In base
 glob:base.Ns mainGlobals mg
 blt:∃mb,base.Ns builtinsNs mb/\∀x:Str,x≠"__name__"->mb x=bootBuiltins x
 nolimit:base.NoLimit
abbrev _root_.BA:=List Str
abbrev _root_.BN:=Value->Shared->Prop
abbrev _root_.D2:=List Env
structure Cx where
 prog:Program
 w:World
 K:Frag
 mg:Str->Option Value
 base:Heap
 A:Around
 N:BA
 jj:Shared
 mB:Hp
 env:Env
 outer:D2
 stack:D2
 ex:BY
 fn:Str->Bool
 calm:Bool
 pn:BC
 xe:Value->Shared->Prop
noncomputable def tK(l:D2):BY:=l.filterMap (·.frame)
abbrev Cx.fs(X:Cx):BY:=tK X.outer
def sy(sc:Scope)(x:Str):Prop:=sc.names.lookup x=some .local\/sc.names.lookup x=some .cell\/sc.names.lookup x=some .free
def Loc(sc:Scope)(x:Str):Prop:=sc.names.lookup x=some .local\/sc.names.lookup x=some .cell
def Look(env:Env)(h:Heap)(m:Bi)(x:Str)(u:Value):Prop:=
 (env.kindOf x=some .local/\m x=some u)\/((env.kindOf x=some .cell\/env.kindOf x=some .free)/\∃c,env.cells.lookup x=some c/\h.IsCell c (some u))
structure Cx.Ok(X:Cx):Prop where
 mod:Mod X.K X.mg X.base
 kind:X.env.scope.kind=.function
 glob:X.env.globals=mainGlobals
 blt:X.env.builtins=builtinsNs
 above:X.jj.heap.objs.size<=X.env.locals
 inj:∀x y c,X.env.cells.lookup x=some c->X.env.cells.lookup y=some c->x=y
 has:∀x,(X.env.kindOf x=some .cell\/X.env.kindOf x=some .free)->∃c,X.env.cells.lookup x=some c
 ub:∀x c,X.fn x=true->X.env.cells.lookup x=some c->X.jj.heap.objs.size<=c
 hd:X.calm=true->X.A.handled=none
 frames:X.A.frames=some X.stack
 vr:X.stack=X.outer\/(X.stack=X.env::X.outer/\X.env.frame=some X.env.locals)
 Fn:∀b∈X.ex,b≠X.env.locals/\∀x c,X.env.cells.lookup x=some c->c≠b
 bs:∀b o,X.base.get? b=some o->X.jj.heap.get? b=some o/\X.mB b=none
 ZZ:X.base.objs.size<=X.jj.heap.objs.size
 Rf:∀b o,X.base.get? b=some o->b∉X.ex
 Xu:∀b∈X.ex,b∉X.fs
 xB:X.jj.heap.FunFrames X.base X.outer
 o8:∀b∈X.fs,X.mB b=none
structure Inv(X:Cx)(pins:BC)(Y:Qg7)(H:Hp)(s:Qb):Prop where
 ok:X.Ok
 os:s.os=X.jj.os
 bare:AllBare s.gens
 base:Un X.fs X.ex X.mB H X.jj.heap s.heap
 loc:∃m,s.heap.Ns X.env.locals m/\∀(i:Nat) (x:Str) (v:V),X.N[i]? = some x->Y[i]? = some Qbc->sy X.env.scope x->∃u,RelV v u/\Look X.env s.heap m x u
 cell:∀x c,X.env.cells.lookup x=some c->∃v,s.heap.IsCell c v
 free:H X.env.locals=none
 nI:∀x c,X.env.cells.lookup x=some c->H c=none
 pin:∀p∈X.pn++pins,s.heap.get? p.1=some p.2/\H p.1=none/\p.1≠X.env.locals/\p.1∉X.fs/\∀v,p.2.data ≠ .cell v
 cV:tO X.prog X.w H s.heap
 len:Y.length=X.N.length
variable{X:Cx}{pins:BC}{Y:Qg7}{s:Qb}
theorem Cx.Ok.asI(ok:X.Ok){o:Obj}(e:X.base.get? b=some o):b∉X.fs:=λa=>by
 have:=(ok.xB.mem a).1;grind
theorem Inv.bs(I:QE):∀b o,X.base.get? b=some o->s.heap.get? b=some o/\H b=none:=λb o e=>
 #[I.base.keep b o (I.ok.bs b o e).1 (I.ok.bs b o e).2 (I.ok.asI e) Qxz,I.base.free b o (I.ok.bs b o e).1 (I.ok.bs b o e).2 Qxz]
theorem Inv.bk(I:QE):∀b o,X.base.get? b=some o->s.heap.get? b=some o:=λb o e=>(I.bs b o e).1
theorem Inv.mod(I:QE):Mod X.K X.mg X.base:=I.ok.mod
theorem Inv.AX(I:QE):X.K.In s.heap:=I.ok.mod.vx.keeps I.bk
theorem Inv.nolimit(I:QE):s.heap.NoLimit:=I.ok.mod.nolimit.keeps I.bk
theorem Inv.lt(I:QE):X.env.locals<s.heap.objs.size:=let ⟨_,hn,_⟩:=I.loc;hn.lt
theorem Inv.sz(I:QE):X.jj.heap.objs.size<=s.heap.objs.size:=l6 I.ok.above (mi I.lt)
theorem Inv.asJ(I:QE)(h:QwJ):a∉X.fs:=λc=>by
 obtain⟨_,o,b,_⟩:=I.ok.xB.mem c;exact absurd (my (kr b) (l6 I.sz h)) (r8 _)
theorem Inv.t5(I:QE):∀x c,X.env.cells.lookup x=some c->c≠X.env.locals:=λx c e z=>by
 obtain⟨v,o,b,hd⟩:=I.cell x c e;obtain⟨m,⟨o',es,ep,d,a,_⟩,_⟩:=I.loc;grind
theorem Inv.xB(I:QE):s.heap.FunFrames X.base X.outer:=by
 have all:∀(l:D2),(∀b∈tK l,b∈X.fs)->X.jj.heap.FunFrames X.base l->s.heap.FunFrames X.base l:=by
  intro l
  induction l with
  | nil=>intro _ _;trivial
  | cons env r d=>
   intro hs hl;obtain⟨h,⟨L,o,hf,hn,g,hd⟩,f⟩:=hl;have c:=hs L (by unfold tK;rw[nz,hf];exact iB);obtain⟨sl,e⟩:=I.base.slot L o g (I.ok.o8 L c) c λz=>I.ok.Xu L z c;exact#[h,#[L,_,hf,hn,e,hd],d (λb a=>hs b (by unfold tK;rw[nz,hf];exact i3 _ a)) f]
 exact all _ (λ_ a=>a) I.ok.xB
theorem Inv.stack(I:QE):s.heap.FunFrames X.base X.stack:=by
 obtain e|⟨e,hf⟩:=I.ok.vr
 .rw[e];exact I.xB
 .rw[e];obtain⟨m,hn,_⟩:=I.loc;refine .cons (by rw[I.ok.kind];decide) hf hn ?_ I.xB;exact Heap.get?_none_of_le (l6 I.ok.ZZ I.ok.above)
theorem Inv.JD(I:QE):∀b∈tK X.stack,b∈X.env.locals::X.fs:=λb a=>by
 obtain e|⟨e,hf⟩:=I.ok.vr
 .rw[e]at a;exact i3 _ a
 .rw[e]at a;unfold tK at a;rw[nz,hf]at a;exact a
theorem Inv.Di(I:QE):∀b∈tK X.stack,H b=none:=λb a=>by
 obtain e|a:=fL.1 (I.JD b a)
 .rw[e];exact I.free
 .obtain⟨_,o,c,_⟩:=I.ok.xB.mem a;exact I.base.free b o c (I.ok.o8 b a) λz=>I.ok.Xu b z a
variable{t':Nat}
theorem Inv.step{E:Array GenState}{d':Drawn}{ch:BY}(I:QE)
  (y:∀b∈ch,Qh2/\b≠X.env.locals/\(∀x c,X.env.cells.lookup x=some c->c≠b)/\∀p∈X.pn++pins,p.1≠b)
  (keep:∀b o,b≠X.env.locals->b∉X.fs->b∉ch->s.heap.get? b=some o->H b=none->h'.get? b=some o)
  (slot:∀b o,b≠X.env.locals->b∈X.fs->b∉ch->s.heap.get? b=some o->H b=none->∃sl,h'.get? b=some {o with slots:=sl}) (free:∀b o,b∉ch->s.heap.get? b=some o->H b=none->H' b=none)
  (there:∀b o,b∉ch->s.heap.get? b=some o->∃o',h'.get? b=some o')
  (yx:∀b xs,H b=some Qbr->H' b=some Qbr) (dB:∀b o u,H b=some QgX->H' b=some QgX) (yy:∀b ps,H b=some (.tbl ps)->∃more,H' b=some Qwg)
  (ns:∀m,s.heap.Ns X.env.locals m->h'.Ns X.env.locals m) (cV:Qm5) (F:AllBare E) :
  Inv X pins Y H' {s with heap:=h',gens:=E,drawn:=d',toks:=t'}:=by
 have t:∀b o,X.jj.heap.get? b=some o->b≠X.env.locals:=λb o e=>l1 Qqu;have g:∀b o,X.jj.heap.get? b=some o->b∉X.ex->b∉ch:=λb o e a h=>by
  rcases(y b h).1 with z|z
  .exact a z
  .exact absurd (my (kr e) z) (r8 _)
 have cellK:∀x c,X.env.cells.lookup x=some c->∀v,s.heap.IsCell c v->h'.IsCell c v:=λx c e v ⟨o,j,hd⟩=>by
  have f:c∉ch:=λz=>(y c z).2.2.1 x c e rfl;by_cases D:c∈X.fs
  .obtain⟨sl,q⟩:=slot c o (I.t5 x c e) D f j QoH;exact#[_,q,hd]
  .exact#[o,keep c o (I.t5 x c e) D f j QoH,hd]
 refine#[I.ok,I.os,F,#[λb o e n h a=>?_,λb o e n h a=>?_,λb o e n a=>?_,λb o e a=>?_,λb xs e=>yx b xs (I.base.yx b xs e),λb o xs e=>dB b o xs (I.base.dB b o xs e),λb ps e=>?_],?_,λx c e=>?_,?_,λx c e=>?_,λp C=>?_,cV,I.len]
 .exact keep b o (t b o e) h QjY (I.base.keep b o e n h a) Qmb
 .obtain⟨sl,e1⟩:=I.base.slot b o e n h a;obtain⟨A,e2⟩:=slot b _ (t b o e) h QjY e1 Qmb;exact#[A,e2]
 .obtain⟨o',e1⟩:=I.base.there b o e a;exact free b o' QjY e1 Qmb
 .obtain⟨o',e1⟩:=I.base.there b o e a;exact there b o' QjY e1
 .obtain⟨m1,e1⟩:=I.base.yy b ps e;obtain⟨m2,e2⟩:=yy b _ e1;exact#[m1++m2,by rw[e2,Array.append_assoc]]
 .obtain⟨m,hn,hl⟩:=I.loc;refine#[m,ns m hn,λi x v e1 e2 G=>?_];obtain⟨u,r,l⟩:=hl i x v e1 e2 G;refine#[u,r,?_];obtain l|⟨k,c,e,z⟩:=l
  .exact .inl l
  .exact .inr #[k,c,e,cellK x c e _ z]
 .obtain⟨v,z⟩:=I.cell x c e;exact#[v,cellK x c e v z]
 .obtain⟨m,⟨o,_,_,j,_⟩,_⟩:=I.loc;exact free _ o (λz=>(y _ z).2.1 rfl) j I.free
 .obtain⟨v,o,j,hd⟩:=I.cell x c e;exact free c o (λz=>(y c z).2.2.1 x c e rfl) j QoH
 .obtain⟨e,n,ne,B,d⟩:=I.pin p C;have f:p.1∉ch:=λz=>(y p.1 z).2.2.2 p C rfl;exact#[keep p.1 p.2 ne B f e n,free p.1 p.2 f e n,ne,B,d]
theorem Inv.un(I:QE)(u:Un X.fs [] H H' s.heap h')(cV:Qm5):Inv X pins Y H' {s with heap:=h',toks:=t'}:=by
 obtain⟨m,⟨o,es,ep,f,r⟩,_⟩:=id I.loc;obtain⟨sl,i⟩:=u.any f I.free Wp;exact I.step (ch:=[]) (λ_ z=>nomatch z) (λb o _ a _ e n=>u.keep b o e n a Wp) (λb o _ a _ e n=>u.slot b o e n a Wp) (λb o _ e n=>u.free b o e n Wp) (λb o _ e=>u.there b o e Wp) u.yx u.dB u.yy (λj hm=>by
  obtain⟨o',c,d,g,h⟩:=hm;rw[f]at g;cases g;exact#[_,c,d,i,h]) cV I.bare
theorem Inv.call{i:Array GenState}{d':Drawn}{ch:BY}(I:QE)(u:Un QbB ch H H' s.heap h')(cV:Qm5)(q:AllBare i)
  (k:∀b∈ch,Qh2/\b≠X.env.locals/\(∀x c,X.env.cells.lookup x=some c->c≠b)/\∀p∈X.pn++pins,p.1≠b) :
  Inv X pins Y H' {s with heap:=h',gens:=i,drawn:=d',toks:=t'}:=by
 obtain⟨m,⟨o,es,ep,h,r⟩,_⟩:=id I.loc;obtain⟨sl,d⟩:=u.any h I.free λz=>(k _ z).2.1 rfl;exact I.step k (λb o d t a e n=>u.keep b o e n (λz=>(fL.1 (I.JD b z)).elim d t) a) (λb o _ _ a e n=>u.any e n a) (λb o a e n=>u.free b o e n a) (λb o a e=>u.there b o e a) u.yx u.dB u.yy (λv hm=>by
  obtain⟨o',f,g,j,l⟩:=hm;rw[h]at j;cases j;exact#[_,f,g,d,l]) cV q
theorem Inv.turned{it:Addr}(I:QE)(k:∀b o,b≠it->s.heap.get? b=some o->h'.get? b=some o)(hn:H it=none)(f:it≠X.env.locals)
  (h1:it∈X.ex\/X.jj.heap.objs.size<=it) (h2:∀x c,X.env.cells.lookup x=some c->c≠it) (i:∀p∈X.pn++pins,p.1≠it):Inv X pins Y H {s with heap:=h',toks:=t'}:=by
 have d:∀b u,H b=some u->b≠it:=λb u e z=>by grind
 refine I.step (ch:=[it]) (λb h=>?_) (λb o _ _ a e _=>k b o (λz=>a (by simp[z])) e) (λb o _ _ a e _=>#[ _,k b o (λz=>a (by simp[z])) e]) Quj
  (λb o a e=>#[o,k b o (λz=>a (by simp[z])) e]) Qvj QuP (λb ps e=>#[#[],‹_› ]) (λm hm=>?_) (λb u e=>?_) I.bare
 .have e:=by simpa using h
  subst e;exact#[h1,f,h2,i]
 .obtain⟨o,es,ep,g,r⟩:=hm;exact#[o,es,ep,k _ o (nf f) g,r]
 .refine(I.cV b u e).C3 (λc v a q=>k c v ?_ q) QcQ λ_ _ q=>q;obtain z|z:=a
  .rw[z];exact d b u e
  .exact d c _ z
theorem Inv.tok(I:QE)(t:Nat):Inv X pins Y H {s with toks:=t}:=I.un Un.refl I.cV
theorem Inv.kept(I:QE)(k:∀b u,s.heap.get? b=some u->h'.get? b=some u):Inv X pins Y H {s with heap:=h',toks:=t'}:=I.un (Un.kept k) (I.cV.kept k)
theorem Inv.laid(I:QE)(k:∀b u,s.heap.get? b=some u->h'.get? b=some u)(c:QwJ)(new:fK X.prog X.w QbC h' a o) :
  Inv X pins Y QbC {s with heap:=h',toks:=t'}:=I.un (Un.laid k c (I.cV.fresh c)) (I.cV.laid k c new)
theorem Inv.write(I:QE)(c:z4 (H x))(he:Qp2)(k:∀b u,b≠e->s.heap.get? b=some u->h'.get? b=some u)(a:∃u,h'.get? e=some u)
  (new:fK X.prog X.w Qo8 h' x o):Inv X pins Y Qo8 {s with heap:=h',toks:=t'}:=I.un (Un.write c he k a) (I.cV.write c he k a new)
theorem Inv.Dj{a:BC}(I:QE)(h:∀p∈a,s.heap.get? p.1=some p.2/\H p.1=none/\p.1≠X.env.locals/\p.1∉X.fs/\∀v,p.2.data ≠ .cell v):Inv X a Y H s:=
 #[I.ok,I.os,I.bare,I.base,I.loc,I.cell,I.free,I.nI,λp b=>(i8.1 b).elim (λz=>I.pin p (kq _ z)) (h p),I.cV,I.len]
variable{i:Nat}
def Nt{N:BA}(c:N.Nodup){j:Nat}{x:Str}(a:N[i]? = some x)(b:N[j]? = some x):i=j:=by
 obtain⟨h1,e1⟩:=md.1 a;obtain⟨h2,e2⟩:=md.1 b;exact(List.getElem_inj c).1 (e1.trans e2.symm)
variable{M:Model}{A:Qav}{E:BN}{v:V}{u:Value}{Q:Qmw}
abbrev _root_.AB(X:Cx)(p:Pos)(e:Expr):Prop:=((backTo p Qvk).all QnN&&(backToKw p QkM).all Qml&&decide ([e].length+([]:List Keyword).length+QkY<30))=true
abbrev _root_.Cf:=List Expr
abbrev _root_.AC(X:Cx)(e:Expr)(es:Cf):Prop:=starEach Qap X.env=(false,eval e X.env)::starEach es X.env
abbrev _root_.AD(x:Str):Prop:=QiE=false
abbrev _root_.AE(x:Str):Prop:=Qsz=false
abbrev _root_.AL(X:Cx)(p:Pos)(es:Cf):Prop:=(backTo p (starEach es X.env)).any (·.1)=false
abbrev _root_.AM(X:Cx)(y:Str):Prop:=X.fn y=true\/X.env.scope.names.lookup y=some .local
abbrev _root_.AN(X:Cx)(e:Expr):Prop:=∀x,foldedSetIterable e X.env x=pure x
abbrev _root_.AR(X:Cx)(e d:Expr):Prop:=starEach [e,d] X.env=[(false,eval e X.env),(false,eval d X.env)]
abbrev _root_.AS(X:Cx)(e:Expr)(f:Str):Prop:=attributeBase e f X.env Qgx=eval e X.env
def Xw{x:Str}(I:QE)(hN:QbH)(hi:X.N[i]? = some x)(g:Qej)(r:QcW)
  (h:∀s',Inv X pins QeY H s'->(∃a,Heap.SameBut a s.heap s'.heap/\(a=X.env.locals\/X.env.cells.lookup x=some a))->Q () s') (hf:Qek:=by first|exact .inl rfl|exact .inr rfl|assumption):wpAny M A Quk Q E s:=by
 obtain⟨m,hn,hl⟩:=id I.loc;have Z:(X.env.scope.kind == .class || (X.env.scope.kind == .module&&X.env.locals != X.env.globals))=false:=by rw[I.ok.kind];rfl
 have t:i<Y.length:=by rw[I.len];exact(md.1 hi).1
 have t5:=I.t5;have tracked:∀{a:Addr} {h':Heap},(∃o,s.heap.get? a=some o/\H a=none)->Heap.SameBut a s.heap h'->tO X.prog X.w H h':=λ{a h'} ha hs b ob e=>by
  obtain⟨_,_,Nu⟩:=ha;refine(I.cV b ob e).C3 (λc K f q=>(hs.2 c ?_).trans q) QcQ λ_ _ q=>q;rintro rfl;obtain rfl|f:=f
  .rw[Nu]at e;cases e
  .rw[Nu]at f;cases f
 obtain l|l:=g
 .refine wpAny_storeName_local l hn (λh' U hs=>?_) Z;obtain⟨oL,_,_,T,_⟩:=id hn;refine h _ #[I.ok,I.os,I.bare,#[λb o e n D g=>?_,λb o e n D g=>?_,I.base.free,λb o e g=>?_,I.base.yx,I.base.dB,I.base.yy],#[_,U,λj y v' e1 e2 V=>?_],λy c e=>?_,I.free,I.nI,λp S=>?_,tracked #[oL,T,I.free] hs,by simpa using I.len] #[_,hs,.inl rfl]
  .exact(hs.2 b QoS).trans Qs7
  .obtain⟨sl,e1⟩:=I.base.slot b o e n D g;exact#[sl,(hs.2 b QoS).trans e1]
  .obtain⟨o',e1⟩:=I.base.there b o e g;exact#[o',(hs.2 b QoS).trans e1]
  .by_cases B:j=i
   .subst B;rw[hi]at e1;cases e1;rw[wx t]at e2;cases e2;exact#[u,r,.inl #[l,Wp]]
   .rw[wi (nf B)]at e2;obtain⟨O,P,q⟩:=hl j y v' e1 e2 V;refine#[O,P,?_];obtain⟨k,e⟩|⟨k,c,e,z⟩:=q
    .refine .inl #[k,?_];have:y≠x:=λe=>B (Nt hN e1 (e▸hi));simp[this,e]
    .exact .inr #[k,c,e,z.sameBut hs (t5 y c e)]
  .obtain⟨K,z⟩:=I.cell y c e;exact#[K,z.sameBut hs (t5 y c e)]
  .obtain⟨e,n,ne,R,d⟩:=I.pin p S;exact#[(hs.2 p.1 ne).trans e,n,ne,R,d]
 .have C:X.fn x=true:=by
   obtain z|z:=hf
   .exact z
   .rw[z]at l;cases l
  obtain⟨c,f⟩:=I.ok.has x (.inl l);obtain⟨K,z⟩:=I.cell x c f;refine wpAny_storeName_cell I.ok.kind l f z (λh' J hs=>?_);obtain⟨oc,F,W⟩:=id z;refine h {s with heap:=h'} #[I.ok,I.os,I.bare,#[λb o e n D g=>?_,λb o e n D g=>?_,I.base.free,λb o e g=>?_,I.base.yx,I.base.dB,I.base.yy],#[m,hn.sameBut hs (Ne.symm (t5 x c f)),λj y v' e1 e2 V=>?_],λy L e=>?_,I.free,I.nI,λp S=>?_,tracked #[oc,F,I.nI x c f] hs,by simpa using I.len] #[c,hs,.inr f]
  .exact(hs.2 b Qlm).trans Qs7
  .obtain⟨sl,e1⟩:=I.base.slot b o e n D g;exact#[sl,(hs.2 b Qlm).trans e1]
  .obtain⟨o',e1⟩:=I.base.there b o e g;exact#[o',(hs.2 b Qlm).trans e1]
  .by_cases B:j=i
   .subst B;rw[hi]at e1;cases e1;rw[wx t]at e2;cases e2;exact#[u,r,.inr #[.inl l,c,f,J]]
   .rw[wi (nf B)]at e2;obtain⟨O,P,q⟩:=hl j y v' e1 e2 V;refine#[O,P,?_];obtain q|⟨k,L,e,z'⟩:=q
    .exact .inl q
    .refine .inr #[k,L,e,z'.sameBut hs ?_];rintro rfl;exact B (Nt hN e1 (I.ok.inj _ _ _ e f▸hi))
  .by_cases G:L=c
   .subst G;exact#[_,J]
   .obtain⟨w2,z2⟩:=I.cell y L e;exact#[w2,z2.sameBut hs G]
  .obtain⟨e,n,ne,R,d⟩:=I.pin p S;refine#[(hs.2 p.1 ?_).trans e,n,ne,R,d];intro q;rw[q,F]at e;have q':oc=p.2:=mu e;exact d K (by rw[<- q'];exact W)
def DN{x:Str}(I:QE)(b:QbH)(hi:X.N[i]? = some x)(a:Qej)(r:QcW)
  (h:∀s',Inv X pins QeY H s'->Q () s') (hf:Qek:=by first|exact .inl rfl|exact .inr rfl|assumption):wpAny M A Quk Q E s:=
 Xw I b hi a r (λs' c _=>h s' c) hf
theorem Inv.PM{s':Qb}{ch:BY}(I:QE)(a:s'.os=s.os)(u:Un QbB ch H H' s.heap s'.heap)(cV:tO X.prog X.w H' s'.heap)(d:AllBare s'.gens)
  (f:∀b∈ch,Qh2/\b≠X.env.locals/\(∀x c,X.env.cells.lookup x=some c->c≠b)/\∀p∈X.pn++pins,p.1≠b):Inv X pins Y H' s':=by
 obtain⟨h',g,d',t',o'⟩:=s';have e:=a;subst e;exact I.call u cV d f
abbrev _root_.Db:=Option Addr
abbrev XK:=Value->Db->Hp->Prop
abbrev St:=List (Option V)
abbrev VK:=V->Hp->Prop
abbrev TE:=St->Hp->VK->Prop
abbrev _root_.EM:=Bool->Hp->Prop
abbrev TT:=St->Hp->EM->Prop
abbrev _root_.EN:=B0->Hp->Prop
abbrev TA:=St->Hp->EN->Prop
structure Ends where
 nx:St->Hp->Prop
 rt:VK
 bk:St->Hp->Prop:=λ_ _=>False
 ct:St->Hp->Prop:=λ_ _=>False
abbrev TS:=Ends->St->Hp->Prop
def EP(X:Cx)(pins:BC)(Y:St)(Q:VK)(u:Value)(s':Qb):Prop:=∃v H',Inv X pins Y H' s'/\RelV v u/\Q v H'
def TP(X:Cx)(pins:BC)(Y:St)(Q:EM)(b:Bool)(s':Qb):Prop:=∃H',Inv X pins Y H' s'/\Q b H'
def AP(X:Cx)(pins:BC)(Y:St)(Q:EN)(us:B1)(s':Qb):Prop:=∃vs H',Inv X pins Y H' s'/\Vals vs us/\Q vs H'
def SP(X:Cx)(pins:BC)(D:Ends)(f:Flow)(s':Qb):Prop:=
 match f with
 | .next=>∃Y' H',Inv X pins Y' H' s'/\D.nx Y' H'
 | .brk=>∃Y' H',Inv X pins Y' H' s'/\D.bk Y' H'
 | .cont=>∃Y' H',Inv X pins Y' H' s'/\D.ct Y' H'
 | .ret u=>∃v Y' H',Inv X pins Y' H' s'/\RelV v u/\D.rt v H'
def PE(X:Cx)(e:Expr)(t:TE):Prop:=
 ∀(pins:BC) (s:Qb) (Y:St) (H:Hp) (Q:VK),Inv X pins Y H s->t Y H Q->wpAny Qr X.A Qgx Qbg X.xe s
def PT(X:Cx)(e:Expr)(t:TT):Prop:=
 ∀(pins:BC) (s:Qb) (Y:St) (H:Hp) (Q:EM),Inv X pins Y H s->t Y H Q->wpAny Qr X.A QtG Qe3 X.xe s
def PW(X:Cx)(e:Expr)(t:TT):Prop:=
 ∀(whole:Sem Value) (pins:BC) (s:Qb) (Y:St) (H:Hp) (Q:EM),Inv X pins Y H s->t Y H Q->wpAny Qr X.A Qt1 Qe3 X.xe s
def PA(X:Cx)(es:Cf)(t:TA):Prop:=
 ∀(pos:Pos) (pins:BC) (s:Qb) (Y:St) (H:Hp) (Q:EN),Inv X pins Y H s->t Y H Q->wpAny Qr X.A Qq7 QnO X.xe s
def PS(X:Cx)(st:Stmt)(t:TS):Prop:=
 ∀(pins:BC) (s:Qb) (Y:St) (H:Hp) (D:Ends),Inv X pins Y H s->t D Y H->wpAny Qr X.A QxA Qju X.xe s
abbrev _root_.CO:=List Stmt
def Rg(X:Cx)(st:CO)(t:TS):Prop:=
 ∀(pins:BC) (s:Qb) (Y:St) (H:Hp) (D:Ends),Inv X pins Y H s->t D Y H->wpAny Qr X.A Qnv Qju X.xe s
noncomputable def d9{α:Type}{t:Sem α}{Q b:α->Shared->Prop}(h:wpAny M A t Q E s)(hQ:∀a s,Q a s->b a s):wpAny M A t b E s:=me h hQ λ_ _ x=>x
section
noncomputable def asN(i:Nat):TE:=λY H Q=>∃v,Y[i]? = some Qbc/\Q v H
noncomputable def tC(v:V):TE:=λ_ H Q=>Q v H
def j4{x:Str}{pos:Pos}(f:X.N[i]? = some x)(hv:QnP)(hd:AD x:=by decide)(jO:AE x:=by decide):PE X QaD (asN i):=by
 intro pins s Y H Q I h;obtain⟨v,e,h⟩:=h;obtain⟨m,hn,hl⟩:=I.loc;obtain⟨u,r,l⟩:=hl i x v f e hv;have fin:EP X pins Y Q u s:=#[v,H,I,r,h];obtain⟨a,hm⟩|⟨a,c,d,b⟩:=l
 .exact wpAny_Name (wpAny_loadName_local I.ok.kind a hn hm fin) hd
 .obtain a|a:=a
  .exact wpAny_Name (wpAny_loadName_cell I.ok.kind a d b fin) hd
  .exact wpAny_Name (wpAny_loadName_free I.ok.kind a d b fin jO) hd
noncomputable def aku{i j pos}:PE X Qmc (tC Qa7):=λ_ _ _ H _ I h=>wpAny_Constant_int #[.int i,H,I.tok _,#[_,rfl],h]
noncomputable def PH{b j pos}:PE X (.Constant (.bool b) j pos) (tC Qei):=λ_ _ _ H _ I h=>Constant_bool #[.bl b,H,I,rfl,h]
noncomputable def akv{j pos}:PE X QtH (tC .non):=λ_ _ _ H _ I h=>Constant_none #[.non,H,I,rfl,h]
noncomputable def akw{x j pos}:PE X Ql9 (tC Qbl):=λ_ _ _ H _ I h=>Calls.Constant_str #[.str x,H,I.tok _,#[_,rfl],h]
def Gl(X:Cx)(x:Str):Prop:=X.env.kindOf x=some .globalImplicit
def qX{Y:St}{x:Str}{pos:Pos}{Q:BN}(I:QE)(a:Qaw)(hm:X.mg x=some u)(h:Q u s)
  (hd:AD x:=by decide):wpAny Qr X.A QvK Q E s:=
 Calls.Name_function_global I.ok.kind a (Calls.loadGlobal_global (I.ok.glob▸I.mod.glob.keeps I.bk) hm h) hd
def nJ{Y:St}{x:Str}{pos:Pos}{Q:BN}(I:QE)(a:Qaw)(hm:Qkx)(hv:QxB)(h:Q u s)
  (hn:Qja:=by decide) (hd:AD x:=by decide):wpAny Qr X.A QvK Q E s:=by
 obtain⟨mb,h1,h2⟩:=I.mod.blt;exact Calls.Name_function_global I.ok.kind a (Calls.loadGlobal_builtin (I.ok.glob▸I.mod.glob.keeps I.bk) hm (I.ok.blt▸h1.keeps I.bk) ((h2 x hn).trans hv) h) hd
def ae7{x:Str}{pos:Pos}(a:Qaw)(hm:X.mg x=some u)(r:QcW)(hd:AD x:=by decide):PE X QaD (tC v):=
 λ_ _ _ H _ I h=>qX I a hm #[v,H,I,r,h] hd
def ae8{x:Str}{pos:Pos}(a:Qaw)(hm:Qkx)(hv:QxB)(r:QcW)(hn:Qja:=by decide)(hd:AD x:=by decide):PE X QaD (tC v):=
 λ_ _ _ H _ I h=>nJ I a hm hv #[v,H,I,r,h] hn hd
variable{a b:Expr}{ta tb:TE}{pos:Pos}
def PC(X:Cx)(op:CmpOp)(a b:Expr)(t:TE):Prop:=
 ∀(pins:BC) (s:Qb) (Y:St) (H:Hp) (Q:VK),Inv X pins Y H s->t Y H Q →
  wpAny Qr X.A (eval a X.env) (λv d=>wpAny Qr X.A (eval b X.env) (λu c=>wpAny Qr X.A (compareOp op v u) Qbg X.xe c) X.xe d) X.xe s
theorem Nv(b:Expr){op:CmpOp}(h:op ≠ .In)(h2:op ≠ .NotIn):behindInMarks op b=false:=by
 have e1:(op==CmpOp.In)=false:=by grind
 have e2:Qwh=false:=by grind
 cases b<;>simp[behindInMarks,e1,e2]
noncomputable def asO(ta:TE):TE:=λY H Q=>ta Y H λx H1=>Q (.bl (decide (x=.non))) H1
theorem RelV.aal{x:V}{v:Value}(r:Qky):(v==Value.none)=decide (x=.non):=by
 cases x with
 | non=>cases r;rfl
 | bl _=>cases r;rfl
 | int _=>obtain⟨t,rfl⟩:=r;rfl
 | str _=>obtain⟨t,rfl⟩:=r;rfl
 | Rc _=>obtain⟨t,rfl⟩:=r;rfl
 | flt _=>obtain⟨t,rfl⟩:=r;rfl
 | ref _=>cases r;rfl
 | ty _=>cases r;rfl
def Rh{j pos'}(c:QbW):PC X .Is a (.Constant .none j pos') (asO ta):=by
 intro pins s Y H Q I h;refine d9 QuQ λv s1 zz=>?_;obtain⟨x,H1,d,b,q1⟩:=zz;exact Constant_none (is_none_gen #[.bl _,H1,d,by rw[b.aal];rfl,q1])
noncomputable def tB(t:TE):TT:=λY H Q=>t Y H λx H1=>∃c,x=.bl c/\Q c H1
def akx{op:CmpOp}{t:TE}(h:PC X op a b t)(h1:QiF:=by first|exact Nv _ Wl Wl|rfl):PE X Qix t:=λpins s Y H Q I hw=>wpAny_Compare1 Qul h1
def DP{op:CmpOp}{t:TE}(h:PC X op a b t)(h1:QiF:=by first|exact Nv _ Wl Wl|rfl):PT X Qix (tB t):=by
 intro pins s Y H Q I hw;refine wpAny_isTrue_Compare1 (d9 Qmt λv s1 h1=>d9 h1 λu s2 h2=>d9 h2 λc s3 zz=>?_) h1;obtain⟨x,H1,f,e,q1⟩:=zz;obtain⟨d,rfl,q⟩:=q1;cases e;exact so #[H1,f,q]
def aky{e:Expr}{t:TE}(h:PE X e t)(he:∀whole,isTrue e X.env whole=(do let v ← whole;standAt e.pos;holding [v] QgS):=by intro _;rfl):PT X e (tB t):=by
 intro pins s Y H Q I hw;refine isTrue_plain (d9 Qmt λv s1 zz=>?_) (he _);obtain⟨x,H1,b,a,q1⟩:=zz;obtain⟨d,rfl,q⟩:=q1;cases a;exact so #[H1,b,q]
variable{tA tB':TT}{rest:Cf}
noncomputable def asP(t u:TT):TT:=λY H Q=>t Y H λc H1=>if c=true then u Y H1 Q else Q false H1
noncomputable def tOr(t u:TT):TT:=λY H Q=>t Y H λc H1=>if c=true then Q true H1 else u Y H1 Q
noncomputable def asQ(t:TT):TT:=λY H Q=>t Y H λc H1=>Q (!c) H1
theorem ae9(b:Qg8):PW X (.BoolOp .And [a] pos) tA:=by
 intro d pins s Y H Q I h;refine isTrue_and (d9 QuR λc s1 e=>?_);cases c with
 | true=>exact isTrue_and_nil e
 | false=>exact e
theorem akz(b:Qg8):PW X (.BoolOp .Or [a] pos) tA:=by
 intro d pins s Y H Q I h;refine isTrue_or (d9 QuR λc s1 e=>?_);cases c with
 | false=>exact isTrue_or_nil e
 | true=>exact e
theorem akA(g:Qg8)(f:PW X QsA tB'):PW X Qya (asP tA tB'):=by
 intro e pins s Y H Q I h;refine isTrue_and (d9 Qgl λc s1 zz=>?_);obtain⟨H1,d,q1⟩:=zz;cases c with
 | true=>exact f e pins s1 Y H1 Q d q1
 | false=>exact#[H1,d,q1]
theorem aps(g:Qg8)(f:PW X QsQ tB'):PW X Qyb (tOr tA tB'):=by
 intro e pins s Y H Q I h;refine isTrue_or (d9 Qgl λc s1 zz=>?_);obtain⟨H1,d,q1⟩:=zz;cases c with
 | true=>exact#[H1,d,q1]
 | false=>exact f e pins s1 Y H1 Q d q1
noncomputable def akB(b:Qg8):PT X Qum (asQ tA):=λpins s Y H Q I h=>isTrue_not (b pins s Y H _ I h)
noncomputable def apt(ta tb:TE):TE:=λY H Q=>ta Y H λx H1=>∃c,x=.bl c/\if c=true then tb Y H1 Q else Q (.bl false) H1
noncomputable def asR(ta tb:TE):TE:=λY H Q=>ta Y H λx H1=>∃c,x=.bl c/\if c=true then Q Qb6 H1 else tb Y H1 Q
noncomputable def apu(ta:TE):TE:=λY H Q=>ta Y H λx H1=>∃c,x=.bl c/\Q (.bl (!c)) H1
noncomputable def akC{op}{t:TE}(h:PE X a t):PE X (.BoolOp op [a] pos) t:=λpins s Y H Q I hw=>BoolOp_one Qul
theorem akD(g:QbW)(f:PE X QsA tb):PE X Qya (apt ta tb):=by
 intro pins s Y H Q I h;refine BoolOp_and (d9 Qgl λv s1 zz=>?_);obtain⟨x,H1,d,e,q1⟩:=zz;obtain⟨c,rfl,q1⟩:=q1;cases e;refine so ?_;cases c with
 | true=>exact f pins s1 Y H1 Q d q1
 | false=>exact#[.bl _,H1,d,rfl,q1]
theorem apv(g:QbW)(f:PE X QsQ tb):PE X Qyb (asR ta tb):=by
 intro pins s Y H Q I h;refine BoolOp_or (d9 Qgl λv s1 zz=>?_);obtain⟨x,H1,d,e,q1⟩:=zz;obtain⟨c,rfl,q1⟩:=q1;cases e;refine so ?_;cases c with
 | false=>exact f pins s1 Y H1 Q d q1
 | true=>exact#[.bl true,H1,d,rfl,q1]
def akE(d:QbW):PE X Qum (apu ta):=by
 intro pins s Y H Q I h;refine UnaryOp_ (d9 QuS λv s1 zz=>?_);obtain⟨x,H1,e,b,q1⟩:=zz;obtain⟨c,rfl,q1⟩:=q1;cases b;exact not_of (so #[.bl (!c),H1,e,rfl,q1])
noncomputable def tIf(t:TT)(ta tb:TE):TE:=λY H Q=>t Y H λc H1=>if c=true then ta Y H1 Q else tb Y H1 Q
theorem aam{c:Expr}(f:PT X c tA)(i:QbW)(g:QfH):PE X (.IfExp c a b pos) (tIf tA ta tb):=by
 intro pins s Y H Q I h;refine wpAny_IfExp (d9 Qgm λd s1 zz=>?_);obtain⟨H1,e,q1⟩:=zz;cases d with
 | true=>exact i pins s1 Y H1 Q e q1
 | false=>exact g pins s1 Y H1 Q e q1
end
def nF(K:Frag)(H:Hp)(a:Addr)(xs:B0):Prop:=
 Rd H a Qbp ∨
  ∃(o:Obj) (its:Cc) (n:Nat),K.lookup a=some o/\o.cls=.type "list" /\ o.dict=none/\o.data=.seq its n/\its.size<=sizeLine/\Vals xs its.toList
def tP(K:Frag)(H:Hp)(a:Addr)(xs:B0):Prop:=
 Rd H a Qbr ∨
  ∃(o:Obj) (its:Cc) (n:Nat),K.lookup a=some o/\o.cls=.type "tuple" /\ o.data=.seq its n/\its.size<=sizeLine/\Vals xs its.toList
noncomputable def asS:Value->Option V
 | .none=>some .non
 | .bool b=>some Qei
 | .int i _=>some Qa7
 | .str x _ => some Qbl
 | .bytes b _=>some (.Rc b)
 | .float b _=>some (.flt b)
 | .ref a=>some Qag
 | .type n=>some (.ty n)
 | _=>none
theorem RelV.abs{x:V}(r:RelV x u):asS u=some x:=by
 cases x with
 | non=>cases r;rfl
 | bl _=>cases r;rfl
 | int _=>obtain⟨t,rfl⟩:=r;rfl
 | str _=>obtain⟨t,rfl⟩:=r;rfl
 | Rc _=>obtain⟨t,rfl⟩:=r;rfl
 | flt _=>obtain⟨t,rfl⟩:=r;rfl
 | ref _=>cases r;rfl
 | ty _=>cases r;rfl
theorem RelV.inj{x y:V}(r:RelV x u)(q:QbX):x=y:=mu (r.abs.symm.trans q.abs)
theorem Vals.inj{ys:B0}(h:QcV)(q:Vals ys us):xs=ys:=by
 induction h generalizing ys with
 | nil=>cases q;rfl
 | cons r _ i=>cases q with
  | cons a t'=>rw[r.inj a,i t']
variable{Y:St}{ys:B0}{K:Frag}
theorem nF.of(h:H a=some Qbp):nF K H a xs:=.inl Qfr
theorem tP.of(h:H a=some Qbr):tP K H a xs:=.inl Qfr
theorem Inv.list(I:QE)(h:nF X.K H a xs):∃its:B1,Vals xs its/\PlainL s.heap a its.toArray/\xs.length<=sizeLine:=by
 obtain h|⟨o,its,n,b,c,hd,hs,hz,r⟩:=h
 .obtain⟨z,its,n,r,e⟩:=h.ok I.cV;exact#[its,r,#[_,n,e,rfl,rfl,rfl],z]
 .refine#[ _,r,#[o,n,I.AX a o b,c,hd,‹_› ],?_];have e:=r.length;grind
theorem Inv.tuple(I:QE)(h:tP X.K H a xs):∃its:B1,Vals xs its/\IsTup s.heap a its.toArray/\xs.length<=sizeLine:=by
 obtain h|⟨o,its,n,b,c,hs,hz,r⟩:=h
 .obtain⟨z,its,r,p⟩:=h.ok I.cV;exact#[its,r,p,z]
 .refine#[ _,r,#[o,I.AX a o b,c,n,‹_› ],?_];have e:=r.length;grind
theorem Inv.DQ(I:QE)(h:nF X.K H a xs)(h':nF X.K H a ys):xs=ys:=by
 obtain⟨its,r,⟨o,n,e,_,_,d⟩,_⟩:=I.list h;obtain⟨f,c,⟨o',g,b,_,_,d'⟩,_⟩:=I.list h';rw[e]at b;cases b;rw[d]at d';injection d' with d1 _;have:its=f:=by simp_all
 subst this;exact r.inj c
theorem Inv.Xx(I:QE)(h:tP X.K H a xs)(h':tP X.K H a ys):xs=ys:=by
 obtain⟨its,r,⟨o,e,_,n,d⟩,_⟩:=I.tuple h;obtain⟨f,c,⟨o',b,_,g,d'⟩,_⟩:=I.tuple h';rw[e]at b;cases b;rw[d]at d';injection d' with d1 _;have:its=f:=by simp_all
 subst this;exact r.inj c
noncomputable abbrev Cx.i4(X:Cx)(E:BN):Cx:={X with xe:=E}
abbrev Cx.Q6(X:Cx):Cx:=X.i4 λ_ _=>False
theorem Cx.Ok.i4(ok:X.Ok)(E:BN):(X.i4 E).Ok:=
 #[ok.mod,ok.kind,ok.glob,ok.blt,ok.above,ok.inj,ok.has,ok.ub,ok.hd,ok.frames,ok.vr,ok.Fn,ok.bs,ok.ZZ,ok.Rf,ok.Xu,ok.xB,ok.o8]
theorem Cx.Ok.jG(ok:(X.i4 E).Ok):X.Ok:=
 #[ok.mod,ok.kind,ok.glob,ok.blt,ok.above,ok.inj,ok.has,ok.ub,ok.hd,ok.frames,ok.vr,ok.Fn,ok.bs,ok.ZZ,ok.Rf,ok.Xu,ok.xB,ok.o8]
theorem Inv.i4(I:QE)(E:BN):Inv Qkg pins Y H s:=#[I.ok.i4 E,I.os,I.bare,I.base,I.loc,I.cell,I.free,I.nI,I.pin,I.cV,I.len]
theorem Inv.jG(I:Inv Qkg pins Y H s):Inv X pins Y H s:=#[I.ok.jG,I.os,I.bare,I.base,I.loc,I.cell,I.free,I.nI,I.pin,I.cV,I.len]
theorem SP.jG{D:Ends}{f:Flow}{s':Qb}(h:SP Qkg pins D f s'):SP X pins D f s':=by
 cases f with
 | next=>obtain⟨Y',H',I,q⟩:=h;exact#[Y',H',I.jG,q]
 | brk=>obtain⟨Y',H',I,q⟩:=h;exact#[Y',H',I.jG,q]
 | cont=>obtain⟨Y',H',I,q⟩:=h;exact#[Y',H',I.jG,q]
 | ret u=>obtain⟨v,Y',H',I,r,q⟩:=h;exact#[v,Y',H',I.jG,r,q]
variable{t:TE}
theorem PE.Q6{e:Expr}(h:PE X.Q6 e t):PE X e t:=λpins s Y H Q I hw=>
 me Qsu (λ_ _ ⟨v,H',a,r,q⟩=>#[v,H',a.jG,r,q]) λ_ _ z=>False.elim z
theorem PT.Q6{e:Expr}{t:TT}(h:PT X.Q6 e t):PT X e t:=λpins s Y H Q I hw=>
 me Qsu (λ_ _ ⟨H',a,q⟩=>#[H',a.jG,q]) λ_ _ z=>False.elim z
theorem Rg.Q6{st:CO}{t:TS}(h:Rg X.Q6 st t):Rg X st t:=λpins s Y H D I hw=>
 me (h pins s Y H D (I.i4 _) hw) (λ_ _ q=>q.jG) λ_ _ z=>False.elim z
section
variable{st:Stmt}{rest:CO}{t u:TS}{e:Expr}{te:TE}{pos:Pos}
noncomputable def apw:TS:=λD Y H=>D.nx Y H
noncomputable def asT(t u:TS):TS:=λD Y H=>t {D with nx:=u D} Y H
noncomputable def afa:Rg X [] apw:=λ_ _ Y H _ I h=>wpAny_execs_nil #[Y,H,I,h]
theorem Nx(h1:PS X st t)(h2:Rg X rest u):Rg X (st::rest) (asT t u):=by
 intro pins s Y H D I h;refine wpAny_execs_cons (d9 (h1 pins s Y H _ I h) λf s1 q=>?_);cases f with
 | next=>
  obtain⟨Y',H',a,q⟩:=q;exact h2 pins s1 Y' H' D a q
 | ret v=>exact q
 | brk=>exact q
 | cont=>exact q
noncomputable def akF:TS:=λD Y H=>D.bk Y H
noncomputable def apx:TS:=λD Y H=>D.ct Y H
noncomputable def aan:PS X (.Break pos) akF:=λ_ _ Y H _ I h=>wpAny_Break #[Y,H,I,h]
noncomputable def Ny:PS X QwK apx:=λ_ _ Y H _ I h=>wpAny_Continue #[Y,H,I,h]
theorem Inv.quiet(I:QE):interactive X.env=false:=by simp[interactive,I.ok.kind]
noncomputable def apy(te:TE):TS:=λD Y H=>te Y H λ_ H1=>D.nx Y H1
def yz(he:Qcc)(hs:Qld:=by rfl):PS X (.Expr e pos) (apy te):=λpins s Y H D I h=>wpAny_Expr_any (d9 Qck λv s1 ⟨x,H1,a,b,q1⟩=>#[Y,H1,a,q1]) I.quiet hs
noncomputable def asU(te:TE):TS:=λD Y H=>te Y H D.rt
def akG(he:Qcc):PS X Qyh (asU te):=λpins s Y H D I h=>wpAny_Return_some (d9 Qck λv s1 ⟨x,H1,b,a,q1⟩=>#[x,Y,H1,b,a,q1])
noncomputable def asV(c:TT)(t u:TS):TS:=λD Y H=>c Y H λb H1=>if b=true then t D Y H1 else u D Y H1
theorem apz{c:Expr}{a b:CO}{e:TT}(g:PT X c e)(j:Rg X a t)(i:Rg X b u):PS X (.If c a b pos) (asV e t u):=by
 intro pins s Y H D I h;refine wpAny_If (d9 Qgl λd s1 zz=>?_);obtain⟨H1,f,q1⟩:=zz;cases d with
 | true=>exact j pins s1 Y H1 D f q1
 | false=>exact i pins s1 Y H1 D f q1
end
abbrev TG:=V->St->Hp->(St->Hp->Prop)->Prop
abbrev vb:=B0->St->Hp->(St->Hp->Prop)->Prop
def PG(X:Cx)(target:Expr)(t:TG):Prop:=
 ∀(pins:BC) (s:Qb) (Y:St) (H:Hp) (v:V) (u:Value) (Q:QxC),Inv X pins Y H s->RelV v u->t v Y H Q →
  wpAny Qr X.A (assign target X.env u) (λ_ s'=>∃Y' H',Inv X pins Y' H' s'/\Q Y' H') X.xe s
def IP(X:Cx)(ts:Cf)(t:vb):Prop:=
 ∀(pins:BC) (s:Qb) (Y:St) (H:Hp) (vs:B0) (us:B1) (Q:QxC),Inv X pins Y H s->Vals vs us->t vs Y H Q →
  wpAny Qr X.A (assignInOrder ((assignEach ts X.env).map (·.2)) us) (λ_ s'=>∃Y' H',Inv X pins Y' H' s'/\Q Y' H') X.xe s
abbrev KU:=V->V->V->Hp->(Hp->Prop)->Prop
def OP(X:Cx)(t:KU):Prop:=
 ∀(pins:BC) (s:Qb) (Y:St) (H:Hp) (o i v:V) (a b u:Value) (Q:Qj3),Inv X pins Y H s->RelV o a->RelV i b->RelV v u->t o i v H Q →
  wpAny Qr X.A (setItem a b u) (λ_ s'=>∃H',Inv X pins Y H' s'/\Q H') X.xe s
abbrev IM:=V->V->Hp->VK->Prop
def Y2(X:Cx)(op:QfI)(t:IM):Prop:=
 ∀(pins:BC) (s:Qb) (Y:St) (H:Hp) (x y:V) (v u:Value) (Q:VK),Inv X pins Y H s->RelV x v->RelV y u->t x y H Q →
  wpAny Qr X.A (inplaceOp op v u) Qbg X.xe s
variable{pos:Pos}
noncomputable def Nz(i:Nat):TG:=λv Y H Q=>Q QeY H
def yC{x:Str}(b:QbH)(hi:X.N[i]? = some x)(a:Qej)(hf:Qek:=by first|exact .inl rfl|exact .inr rfl|assumption):PG X QaD (Nz i):=λpins s Y H v u Q I r h=>wpAny_assign_Name (DN I b hi a r (λs' c=>#[_,H,c,h]) hf)
noncomputable def ON:vb:=λvs Y H Q=>vs=[]/\Q Y H
noncomputable def L4(t:TG)(u:vb):vb:=λvs Y H Q=>∃v r,vs=v::r/\t v Y H λY' H'=>u r Y' H' Q
def afb:IP X [] ON:=by
 intro pins s Y H vs us Q I r h;obtain⟨e,h⟩:=h;exact assignInOrder_nil #[Y,H,I,h]
variable{es:Cf}
def NB{e:Expr}{t:TG}{u:vb}(h1:PG X e t)(h2:IP X es u)
  (hs:(assignEach Qap X.env).map (·.2)=assign e X.env::(assignEach es X.env).map (·.2):=by rfl):IP X Qap (L4 t u):=by
 intro pins s Y H vs us Q I r h;obtain⟨v,d,e1,h⟩:=h;subst e1;cases r with
 | cons r a=>
  rw[hs];refine assignInOrder_cons (d9 (h1 pins s Y H _ _ _ I r h) λ_ s1 zz=>?_);obtain⟨b,H1,c,q1⟩:=zz;exact h2 pins s1 b H1 _ _ Q c a q1
noncomputable def OM(K:Frag)(n:Nat)(t:vb):TG:=λv Y H Q=>∃a xs,v=.ref a/\tP K H a xs/\xs.length=n/\t xs Y H Q
variable{k:Nat}
def akJ{t:vb}{n:Nat}(j:Qbe)(h:IP X es t)
  (hn:(assignEach es X.env).length=n:=by rfl) (d:(assignEach es X.env).findIdx? (·.1)=none:=by rfl):PG X (.Tuple es k pos) (OM X.K n t):=by
 intro pins s Y H v u Q I r hw;obtain⟨a,xs,e1,i,hl,hw⟩:=hw;subst e1;cases r;obtain⟨its,c,g,hz⟩:=I.tuple i;refine assign_Tuple_tuple (I.ok.hd j) g (by simp[hn,<- hl,c.length]) d λh' f=>?_;have l:=I.kept (t':=s.toks) λb o e=>f b o QjN e;exact h pins _ Y H xs _ Q l (‹_›) hw
noncomputable def asW(to a:TE)(t:KU):TG:=λv Y H Q=>to Y H λo H1=>a Y H1 λi H2=>t o i v H2 λb=>Q Y b
def akK{o i:Expr}{to a:TE}{t:KU}(f:PE X o to)(hi:PE X i a)(hs:OP X t)
  (m:∀v,assign Qgn X.env v=(do
   let ov ← holding [v] (eval o X.env)
   let iv ← holding [v,ov] (eval i X.env)
   standAt pos
   holding [v,ov,iv] (setItem ov iv v)
   release [v,ov,iv] []):=by intro _;rfl):PG X Qgn (asW to a t):=by
 intro pins s Y H v u Q I r h;refine ec (u5 (d9 Qgm λov s1 zz=>?_));obtain⟨x,H1,k,c,q1⟩:=zz;refine ec (u5 (d9 (hi pins s1 Y H1 _ k q1) λiv s2 zz=>?_));obtain⟨y,H2,j,b,e⟩:=zz;refine ec (wpAny_standAt (ec (u5 (d9 (hs pins s2 Y H2 x y v ov iv u _ j c b r e) λ_ s3 zz=>?_))));obtain⟨l,g,d⟩:=zz;exact wpAny_release #[Y,l,g,d]
noncomputable def OK(te:TE)(g:TG):TS:=λD Y H=>te Y H λx H1=>g x Y H1 D.nx
variable{tg:Expr}{te:TE}
def akL{e:Expr}{g:TG}(he:Qcc)(b:PG X tg g)(hs:swapsWithSole [tg] e pos.line X.env=pure false:=by rfl)(hw:swappedStores [tg] e X.env=pure none:=by rfl)
  (h1:(assignEach [tg] X.env).map (·.2)=[assign tg X.env]:=by rfl):PS X (.Assign [tg] e pos) (OK te g):=by
 intro pins s Y H D I h;refine wpAny_Assign_stores (d9 Qck λv s1 zz=>?_) hs hw;obtain⟨x,H1,c,a,q1⟩:=zz;rw[h1];exact d9 (b pins s1 Y H1 x v _ c a q1) λ_ s2 q=>q
def Ri{x:Str}{e:Expr}{pos':Pos}(c:QbH)(hi:X.N[i]? = some x)(b:Qej)(he:Qcc)(hs:QdC:=by rfl)(hf:Qek:=by first|exact .inl rfl|exact .inr rfl|assumption) :
  PS X QlF (OK te (Nz i)):=by
 intro pins s Y H D I h;refine wpAny_Assign_Name (d9 Qck λv s1 zz=>?_) hs;obtain⟨y,H1,f,a,q1⟩:=zz;exact DN f c hi b a (λs2 d=>#[_,H1,d,q1]) hf
noncomputable def asX(i:Nat)(te:TE)(a:IM):TS:=λD Y H=>∃x,Y[i]? = some (some x)/\te Y H λy H1=>a x y H1 λz H2=>D.nx (Y.set i (some z)) H2
theorem akM{x:Str}{e:Expr}{op:QfI}{j:IM}{pos':Pos}(C:QbH)(hi:X.N[i]? = some x)(g:Qej)(he:Qcc)(t:Y2 X op j)(hf:Qek:=by first|exact .inl rfl|exact .inr rfl|assumption) :
  PS X (.AugAssign Qjp op e pos) (asX i te j):=by
 intro pins s Y H D I h;obtain⟨v,e1,h⟩:=h;obtain⟨m,hn,hl⟩:=I.loc;have f:sy X.env.scope x:=by obtain k|k:=g;exact .inl k;exact .inr (.inl k)
 obtain⟨u,r,l⟩:=hl i x v hi e1 f;refine wpAny_AugAssign_Name ?_;have go:wpAny Qr X.A Qgx (λw d=>wpAny Qr X.A (inplaceOp op u w) (λr b=>wpAny Qr X.A (storeName X.env x r) (λ_=>SP X pins D .next) X.xe b) X.xe d) X.xe s:=by
  refine d9 Qck λw s1 zz=>?_;obtain⟨y,H1,G,p,q1⟩:=zz;refine d9 (t pins s1 Y H1 v y u w _ G r p q1) λz s2 zz=>?_;obtain⟨J,H2,F,o,q⟩:=zz;exact DN F C hi g o (λs3 E=>#[_,H2,E,q]) hf
 obtain⟨a,hm⟩|⟨a,c,B,n⟩:=l
 .exact wpAny_loadName_local I.ok.kind a hn hm go
 .obtain a|a:=a
  .exact wpAny_loadName_cell I.ok.kind a B n go
  .obtain k|k:=g
   .have:X.env.scope.names.lookup x=some _:=a;simp_all
   .have:X.env.scope.names.lookup x=some _:=a;simp_all
noncomputable def ipI(f:QnF):IM:=λx y H Q=>∃i j,x=.int i/\y=.int j/\Q (.int (f i j)) H
def akN:Y2 X .Add (ipI λi j=>i+j):=by
 intro pins s Y H x y v u Q I b a h;obtain⟨i,j,e1,e2,q⟩:=h;subst e1;subst e2;obtain⟨t,rfl⟩:=b;obtain⟨t',rfl⟩:=a;exact iadd_int #[.int _,H,I.tok _,#[_,rfl],q]
noncomputable def akO(c:TT)(tb:TS):TS:=λD Y H=>∃W:Nat->St->Hp->Prop,(∃m,W m Y H)/\∀m Y H,W m Y H →
 c Y H λb H1=>if b=true then ∃N:St->Hp->Prop,(∀Y' H',N Y' H'->∃a,a<m/\W a Y' H')/\tb {D with nx:=N,ct:=N,bk:=D.nx} Y H1 else D.nx Y H1
variable{c:Expr}
theorem aap{body:CO}{o:TT}{tb:TS}(p:QlG)(u:PT X c o)(x:Rg X body tb):PS X (.While c body [] pos) (akO o tb):=by
 intro pins s Y H D I h;obtain⟨W,⟨m0,w0⟩,turn⟩:=h;refine wpAny_While (codeAny_whileLoop (λn s'=>∃Y' H',Inv X pins Y' H' s'/\W n Y' H') ?_ m0 #[Y,H,I,w0]);rintro n s1 ⟨i,H1,y,t⟩;refine uu p (d9 (u pins s1 i H1 _ y (turn n i H1 t)) λb s2 zz=>?_);obtain⟨H2,r,g⟩:=zz;cases b with
 | true=>
  obtain⟨N,q,g⟩:=g;refine uu p (d9 (x pins s2 i H2 _ r g) λf s3 e=>?_);cases f with
  | next=>
   obtain⟨a,d,m,k⟩:=e;obtain⟨l,hm,j⟩:=q a d k;exact#[l,hm,a,d,m,j]
  | cont=>
   obtain⟨a,d,m,k⟩:=e;obtain⟨l,hm,j⟩:=q a d k;exact#[l,hm,a,d,m,j]
  | brk=>exact e
  | ret v=>exact e
 | false=>
  exact wpAny_execs_nil #[i,H2,r,g]
structure It where
 go:Nat->Hp->Prop
 o3:Nat->Hp->V->Hp->Prop
 stop:Nat->Hp->Prop
def mX(X:Cx)(pins:BC)(H:Hp)(b:Addr):Prop:=
 H b=none/\b≠X.env.locals/\b∉X.fs/\Qh2/\(∀x c,X.env.cells.lookup x=some c->c≠b)/\∀p∈X.pn++pins,p.1≠b
theorem Inv.DR(I:QE)(a:s.heap.objs.size<=b)(hn:H' b=none):mX X pins H' b:=by
 refine#[hn,Nat.ne_of_gt (my I.lt a),I.asJ a,.inr (l6 I.sz a),λx c e z=>?_,λp d z=>?_]
 .obtain⟨v,q⟩:=I.cell x c e;exact absurd (my q.lt (z▸a)) (r8 _)
 .exact absurd (my (kr (I.pin p d).1) (z▸a)) (r8 _)
structure Turn(P:Qat)(w:World)(K:Frag)(tg:Expr)(J:It)(fp:BY)(it:Addr)(tn:Qi4):Prop where
 mem:it∈fp
 obj:∀i h,tn i h->∀b∈fp,∃o,h.get? b=some o/\∀v,o.data ≠ .cell v
 keep:∀i h h',tn i h->(∀b∈fp,∀o,h.get? b=some o->h'.get? b=some o)->tn i h'
 item:∀(X:Cx),X.prog=P->X.w=w->X.K=K->X.calm=true->∀(i:Nat) (pins:BC) (s:Qb) (Y:St) (H:Hp) (E:BN),Inv X pins Y H s->(∀b∈fp,mX X pins H b)->tn i s.heap->J.go i H →
  wpAny Qcz X.A QnG (λr s1=>∃u,r=some u ∧
   wpAny Qcz X.A Qsp (λ_ s2=>∃x H',Inv X pins Y H' s2/\RelV x u/\J.o3 i H x H'/\tn Qbd s2.heap/\∀b∈fp,H' b=none) E s1) E s
 done:∀(X:Cx),X.prog=P->X.w=w->X.K=K->X.calm=true->∀(i:Nat) (pins:BC) (s:Qb) (Y:St) (H:Hp) (E:BN),Inv X pins Y H s->(∀b∈fp,mX X pins H b)->tn i s.heap->J.stop i H →
  wpAny Qcz X.A QnG (λr s1=>r=none/\Inv X pins Y H s1) E s
 self:∀(A:Qav) (i:Nat) (s:Qb) (Q:BN) (E:BN),tn i s.heap->Q Qb7 s->wpAny Qcz A (pyIter Qb7) Q E s
abbrev TI:=St->Hp->(It->Hp->Prop)->Prop
def Zl(X:Cx)(pins:BC)(Y:St)(tg:Expr)(R:Qg9)(a:Value)(s2:Qb):Prop:=
 ∃(it:Addr) (fp:BY) (tn:Qi4) (J:It) (H':Hp),a=.ref it/\Inv X pins Y H' s2/\Turn X.prog X.w X.K tg J fp it tn/\tn 0 s2.heap/\(∀b∈fp,mX X pins H' b)/\R J H'
def PI(X:Cx)(tg iter:Expr)(a:TI):Prop:=
 ∀(pins:BC) (s:Qb) (Y:St) (H:Hp) (R:Qg9),Inv X pins Y H s->a Y H R →
  wpAny Qr X.A Qwi (λv s1=>wpAny Qr X.A (pyIter v) QvL X.xe s1) X.xe s
def NC{it:Addr}{o:Obj}{n:Qbi}{vs:Cc}(a:s.heap.get? it=some o)(b:o.cls=.type n)(hd:o.data=.fields vs)
  (hn:["enumerate","zip","dict_itemiterator","dict_reverseitemiterator","odict_iterator","itertools.zip_longest","itertools.pairwise"].contains n=false) (hQ:Q () s):wpAny M A Qsp Q E s:=by
 cases tg<;>first
  | exact j3 hQ
  | (cases u<;>first
    | exact j3 hQ
    | (refine ec (wpAny_load a ?_)
       rw[b,hd];show wpAny M A (if (["enumerate","zip","dict_itemiterator","dict_reverseitemiterator","odict_iterator","itertools.zip_longest","itertools.pairwise"].contains n&&vs[0]? == some _)=true then _ else _) Q E s;rw[bW (by intro h;rw[hn]at h;cases h)];exact j3 hQ))
noncomputable def ZA(K:Frag)(a:Addr):It:=
 #[λi H=>∃xs x,nF K H a xs/\xs[i]? = some x,λi H x H'=>H'=H/\∀xs,nF K H a xs->xs[i]? = some x,λi H=>∃xs,nF K H a xs/\xs.length<=i]
noncomputable def Zs(K:Frag)(a:Addr):It:=
 #[λi H=>∃xs x,tP K H a xs/\xs[i]? = some x,λi H x H'=>H'=H/\∀xs,tP K H a xs->xs[i]? = some x,λi H=>∃xs,tP K H a xs/\xs.length<=i]
noncomputable def Jn(lo:Int)(n:Nat):It:=#[λi _=>i<n,λi H x H'=>H'=H/\x=.int (lo+i),λi _=>n<=i]
theorem Xy(a it:Addr):Turn P w K tg (ZA K a) [it] it (λi h=>h.IsListIter it a i) where
 mem:=by simp
 obj:=λi h st b f=>by
  have e:b=it:=by simpa using f
  subst e;obtain⟨o,e,c,d⟩:=st;simp_all
 keep:=λi h h' st k=>st.at λo e=>k it Wp o e
 item:=by
  intro X n hw q v i pins s Y H E I hf st m;subst n hw q;obtain⟨xs,x,g,l⟩:=m;obtain⟨its,j,p,hz⟩:=I.list g;obtain⟨u,C,A⟩:=j.get l;obtain⟨f0,f1,f2,t,f4,r⟩:=hf it Wp;refine wpAny_pyNext_list_item st p.isList (x:=u) (by simpa using C) λh' y z=>?_;have F:=I.turned (t':=s.toks) Qr1 f0 f1 t f4 r;obtain⟨o,e,c,d⟩:=id y;exact#[u,rfl,NC (s:={s with heap:=h'}) e c d Wl #[x,H,F,A,#[rfl,λys B=>by rw[I.DQ B g];exact l],y,λb f=>(hf b f).1]]
 done:=by
  intro X n hw q v i pins s Y H E I hf st m;subst n hw q;obtain⟨xs,g,l⟩:=m;obtain⟨its,j,p,hz⟩:=I.list g;obtain⟨f0,f1,f2,t,f4,r⟩:=hf it Wp;have hl:=j.length;exact wpAny_pyNext_list_end (I.ok.hd v) st p.isList WF λh' D=>#[rfl,I.turned (t':=s.toks) Qs8 f0 f1 t f4 r]
 self:=λ_ _ _ _ _ st h=>wpAny_pyIter_listiter st h
theorem Rj(a it:Addr):Turn P w K tg (Zs K a) [it] it (λi h=>h.IsTupleIter it a i) where
 mem:=by simp
 obj:=λi h st b f=>by
  have e:b=it:=by simpa using f
  subst e;obtain⟨o,e,c,d⟩:=st;simp_all
 keep:=λi h h' st k=>st.at λo e=>k it Wp o e
 item:=by
  intro X n hw q v i pins s Y H E I hf st m;subst n hw q;obtain⟨xs,x,g,l⟩:=m;obtain⟨its,j,p,hz⟩:=I.tuple g;obtain⟨u,C,A⟩:=j.get l;obtain⟨f0,f1,f2,t,f4,r⟩:=hf it Wp;refine wpAny_pyNext_tuple_item st (p) (x:=u) (by simpa using C) λh' y z=>?_;have F:=I.turned (t':=s.toks) Qr1 f0 f1 t f4 r;obtain⟨o,e,c,d⟩:=id y;exact#[u,rfl,NC (s:={s with heap:=h'}) e c d Wl #[x,H,F,A,#[rfl,λys B=>by rw[I.Xx B g];exact l],y,λb f=>(hf b f).1]]
 done:=by
  intro X n hw q v i pins s Y H E I hf st m;subst n hw q;obtain⟨xs,g,l⟩:=m;obtain⟨its,j,p,hz⟩:=I.tuple g;obtain⟨f0,f1,f2,t,f4,r⟩:=hf it Wp;have hl:=j.length;exact wpAny_pyNext_tuple_end (I.ok.hd v) st (p) WF λh' D=>#[rfl,I.turned (t':=s.toks) Qs8 f0 f1 t f4 r]
 self:=λ_ _ _ _ _ st h=>wpAny_pyIter_tupleiter st h
theorem Rk(it:Addr)(lo:Int)(n:Nat):Turn P w K tg (Jn lo n) [it] it (λi h=>IsRangeIter h it (lo+(i:Nat)*1) ((n:Int)-(i:Nat)) 1) where
 mem:=by simp
 obj:=λi h st b a=>by simp_all
 keep:=λi h h' st k=>k it Wp _ st
 item:=by
  intro X j hw l d i pins s Y H E I hf st c;subst j hw l;obtain⟨f0,f1,f2,g,f4,f⟩:=hf it Wp;have W:=Walks.range (prog:=X.prog) (w:=X.w) (I.ok.hd d) it lo 1 n;refine W.item i s _ _ c st λv h' tk hv m kk=>?_;obtain⟨t,rfl⟩:=hv;have q:Inv X pins Y H {s with heap:=h',toks:=tk}:=I.turned (λb o a e=>kk b o (by simpa using a) e) f0 f1 g f4 f;refine#[_,rfl,NC m rfl rfl Wl #[.int (lo+i),H,q,#[t,?_],#[rfl,rfl],m,λb a=>(hf b a).1]];rw[Int.mul_one]
 done:=by
  intro X j hw l d i pins s Y H E I hf st c;obtain⟨f0,f1,f2,g,f4,f⟩:=hf it Wp;exact wpAny_pyNext_range_end (I.ok.hd d) st (by have:n<=i:=c;lia) λh' p=>#[rfl,I.turned (p) f0 f1 g f4 f]
 self:=λ_ _ _ _ _ st h=>wpAny_pyIter_rangeiter st h
def apF(K:Frag)(tl:TE):TI:=λY H R=>tl Y H λx H1=>∃a,x=.ref a/\(∃xs,nF K H1 a xs)/\R (ZA K a) H1
def asY(K:Frag)(tl:TE):TI:=λY H R=>tl Y H λx H1=>∃a,x=.ref a/\(∃xs,tP K H1 a xs)/\R (Zs K a) H1
def Vi{l:Expr}{tl:TE}(hl:PE X l tl):PI X tg l (apF X.K tl):=by
 intro pins s Y H R I h;refine d9 Qun λv s1 zz=>?_;obtain⟨x,H1,c,d,q1⟩:=zz;obtain⟨a,e,⟨xs,f⟩,q⟩:=q1;subst e;cases d;obtain⟨its,i,p,hz⟩:=c.list f;refine wpAny_pyIter_list p.isList ?_;refine#[ _,_,_,_,H1,rfl,c.kept λb o e=>lr _ e,Xy a _,#[_,mf _ rfl,rfl,rfl],λb g=>?_,q];have e:=by simpa using g
 subst e;exact c.DR (js _) QiV
def akP{l:Expr}{tl:TE}(hl:PE X l tl):PI X tg l (asY X.K tl):=by
 intro pins s Y H R I h;refine d9 Qun λv s1 zz=>?_;obtain⟨x,H1,c,d,q1⟩:=zz;obtain⟨a,e,⟨xs,f⟩,q⟩:=q1;subst e;cases d;obtain⟨its,i,p,hz⟩:=c.tuple f;refine wpAny_pyIter_tuple (p) ?_;refine#[ _,_,_,_,H1,rfl,c.kept λb o e=>lr _ e,Rj a _,#[_,mf _ rfl,rfl,rfl],λb g=>?_,q];have e:=by simpa using g
 subst e;exact c.DR (js _) QiV
theorem NF{R:Qg9}{lo hi:Int}{t u v:Tok}{tk:Nat}(I:QE)(h1:-(2 ^ 62)<=lo)(h2:lo<2 ^ 62)(d:-(2 ^ 62)<=hi)(c:hi<2 ^ 62)
  (q:R (Jn lo (hi-lo).toNat) H):wpAny Qr X.A (pyIter Qcj) QvL E {s with heap:=s.heap.push {cls:=.type "range",data:=.fields (List.toArray [.int lo t,.int hi u,.int 1 v])},toks:=tk}:=by
 refine wpAny_pyIter_range (IsRange.new ..) (small_one h1 h2 d c) ?_;have a:Inv X pins Y H {s with heap:=s.heap.push {cls:=.type "range",data:=.fields (List.toArray [.int lo t,.int hi u,.int 1 v])},toks:=tk}:=I.kept λb o e=>lr _ e;refine#[ _,_,_,_,H,rfl,
  a.kept λb o e=>lr _ e,Rk _ lo _,?_,λb f=>?_,q]
 .have e1:lo+((0:Nat))*1=lo:=by simp
  have e2:(((hi-lo).toNat))-((0:Nat))=Builtin.Range.rangeSize lo hi 1:=by rw[rangeSize_one];grind
  rw[e1,e2];exact mf _ rfl
 .have e:b=(s.heap.push {cls:=.type "range",data:=.fields (List.toArray [.int lo t,.int hi u,.int 1 v])}).objs.size:=by simp_all
  subst e;exact a.DR (js _) (a.cV.fresh (js _))
def apG(ta:TA):TI:=λY H R=>ta Y H λvs H1=>∃j:Int,vs=[.int j] /\ -(2 ^ 62)<=j/\j<2 ^ 62/\R (Jn 0 j.toNat) H1
def apH(ta:TA):TI:=λY H R=>ta Y H λvs H1=>∃i j:Int,vs=[.int i,.int j]/\(-(2 ^ 62)<=i/\i<2 ^ 62 /\ -(2 ^ 62)<=j/\j<2 ^ 62)/\R (Jn i (j-i).toNat) H1
variable{p:Pos}
theorem Xz{a:Expr}{ta:TA}(f:QjJ)(hm:Qjd)(g:QpB)(hs:starEach [a] X.env=[(false,eval a X.env)]:=by rfl):PI X tg (.Call QvM [a] [] pos) (apG ta):=by
 intro pins s Y H R I h;refine Call_ (nJ I f hm boot_range (va (d9 (g pos pins s Y H _ I h) λus s1 zz=>?_) hs rfl));obtain⟨vs,H1,i,c,q1⟩:=zz;obtain⟨j,e,q1,d,q⟩:=q1;subst e;cases c with
 | cons r b=>
  cases b;obtain⟨t,rfl⟩:=r;exact call_range_1 (NF i We We q1 d WA)
theorem XA{a b:Expr}{ta:TA}(m:QjJ)(hm:Qjd)(n:PA X [a,b] ta)(hs:AR X a b:=by rfl)(o:starEach [b] X.env=[(false,eval b X.env)]:=by rfl) :
  PI X tg (.Call QvM [a,b] [] pos) (apH ta):=by
 intro pins s Y H R I h;refine Call_ (nJ I m hm boot_range (va (d9 (n pos pins s Y H _ I h) λus s1 zz=>?_) WA (by rw[o];rfl)));obtain⟨vs,H1,u,d,q1⟩:=zz;obtain⟨i,j,e,⟨q1,l,k,g⟩,q⟩:=q1;subst e;cases d with
 | cons r c=>
  cases c with
  | cons f c=>
   cases c;obtain⟨t,rfl⟩:=r;obtain⟨t',rfl⟩:=f;exact call_range_2 (NF u q1 l k g q)
noncomputable def asZ(b:TI)(g:TG)(tb:TS):TS:=λD Y H=>b Y H λJ H1=>∃W:Nat->Nat->St->Hp->Prop,(∃m,W 0 m Y H1)/\∀i m Y H,W i m Y H →
 (J.stop i H/\D.nx Y H)\/(J.go i H/\∃N:St->Hp->Prop,(∀Y' H',N Y' H'->∃a,a<m/\W Qbd a Y' H')/\∀x H',J.o3 i H x H'->g x Y H' λc H2=>tb {D with nx:=N,ct:=N,bk:=D.nx} c H2)
noncomputable def DS(fp:BY)(h:Heap):BC:=fp.filterMap λb=>(h.get? b).map λo=>(b,o)
def kW{fp:BY}{o:Obj}(a:b∈fp)(e:h.get? b=some o):(b,o)∈DS fp h:=List.mem_filterMap.2 #[b,a,by rw[e];rfl]
theorem XC{fp:BY}{p:Addr×Obj}(a:p∈DS fp h):p.1∈fp/\h.get? p.1=some p.2:=by
 obtain⟨b,c,e⟩:=List.mem_filterMap.1 a;cases q:h.get? b with
 | none=>rw[q]at e;cases e
 | some o=>
  rw[q]at e;have d:=mu e;subst d;exact#[c,q]
theorem Inv.pinned{fp:BY}(I:QE)(hf:∀b∈fp,mX X pins H b)(g:∀b∈fp,∃o,s.heap.get? b=some o/\∀v,o.data ≠ .cell v):Inv X (pins++DS fp s.heap) Y H s:=
 I.Dj λp f=>(i8.1 f).elim (λz=>I.pin p (jN _ z)) λz=>by
  obtain⟨a,e⟩:=XC z;obtain⟨f0,f1,f2,_⟩:=hf p.1 a;obtain⟨o,c,d⟩:=g p.1 a;rw[e]at c;cases c;exact#[e,f0,f1,f2,d]
theorem Inv.tR{pl:BC}(I:Inv X (pins++pl) Y H s):Inv X pins Y H s:=I.Dj λp a=>I.pin p (jN _ Qkj)
def X0{iter:Expr}{body:CO}{P:TI}{g:TG}{tb:TS}(B:QlG)(R:Qbe)(hi:PI X tg iter P)(hg:PG X tg g)(k:Rg X body tb)
  (hs:QcE:=by intro _;rfl):PS X (.For tg iter body [] pos) (asZ P g tb):=by
 intro pins s Y H D I h;refine wpAny_For (d9 QiL λv s1 h1=>d9 h1 λaa s2 h2=>?_) hs;obtain⟨it,fp,tn,J,H2,e,I2,T,G,f2,W,⟨m0,w0⟩,turn⟩:=h2;subst e;have j:∀{H':Hp},(∀b∈fp,H' b=none)->∀b∈fp,mX X pins H' b:=λhn b k=>#[hn b k,(f2 b k).2];refine codeAny_forLoop_any (λn s'=>∃i Y' H',Inv X pins Y' H' s'/\tn i s'.heap/\(∀b∈fp,H' b=none)/\W i n Y' H') ?_ m0 #[0,Y,H2,I2,G,λb k=>(f2 b k).1,w0];rintro n s3 ⟨i,c,E,S,y,C,w3⟩;obtain⟨stop,qn⟩|⟨go,N,hN,step⟩:=turn i n c E w3
 .refine uu B (d9 (T.done X rfl rfl rfl R i pins s3 c E X.xe S (j C) y stop) λr s4 zz=>?_);obtain⟨L,I4⟩:=zz;subst L;exact wpAny_execs_nil #[c,E,I4,qn]
 .refine uu B (d9 (T.item X rfl rfl rfl R i pins s3 c E X.xe S (j C) y go) λr s4 zz=>?_);obtain⟨u,L,h4⟩:=zz;subst L;refine uu B (d9 h4 λ_ s5 zz=>?_);obtain⟨x,U,I5,r5,V,t,M⟩:=zz;have O:=I5.pinned (j M) (T.obj _ _ t);refine uu B (d9 (hg _ s5 c U x u _ O r5 (step x U V)) λ_ s6 zz=>?_);obtain⟨F,H6,I6,q6⟩:=zz;refine uu B (d9 (k _ s6 F H6 _ I6 q6) λf K q=>?_);have again:∀{a:St} {p:Hp},Inv X (pins++DS fp s5.heap) a p K->N a p->∃m,m<n/\∃i Y' H',Inv X pins Y' H' K/\tn i K.heap/\(∀b∈fp,H' b=none)/\W i m Y' H':=λ{a p} l z=>by
   obtain⟨m',hm,w7⟩:=hN a p z;refine#[m',hm,i+1,a,p,l.tR,T.keep _ _ _ t λb k o e=>(l.pin (b,o) QuT).1,λb k=>?_,w7];obtain⟨o,e,d⟩:=T.obj _ _ t b k;exact(l.pin (b,o) QuT).2.1
  cases f with
  | next=>obtain⟨a,p,l,z⟩:=q;exact again l z
  | cont=>obtain⟨a,p,l,z⟩:=q;exact again l z
  | brk=>obtain⟨a,p,l,q⟩:=q;exact#[a,p,l.tR,q]
  | ret v=>obtain⟨Z,a,p,l,r7,q⟩:=q;exact#[Z,a,p,l.tR,r7,q]
abbrev R2:=V->V->Hp->VK->Prop
def yE(X:Cx)(f:Qtq)(r:R2):Prop:=
 ∀(pins:BC) (s:Qb) (Y:St) (H:Hp) (x y:V) (v u:Value) (Q:VK),Inv X pins Y H s->RelV x v->RelV y u->r x y H Q →
  wpAny Qr X.A (f v u) Qbg X.xe s
def Nd(X:Cx)(f:QwL)(r:Qm1):Prop:=
 ∀(pins:BC) (s:Qb) (Y:St) (H:Hp) (x:V) (v:Value) (Q:VK),Inv X pins Y H s->RelV x v->r x H Q →
  wpAny Qr X.A (f v) Qbg X.xe s
def oJ(X:Cx)(f:Value)(r:QmI):Prop:=
 ∀(pins:BC) (s:Qb) (Y:St) (H:Hp) (xs:B0) (us:B1) (Q:VK),Inv X pins Y H s->Vals xs us->r xs H Q →
  wpAny Qr X.A (call f us) Qbg X.xe s
def as3(X:Cx)(r:V->Hp->EM->Prop):Prop:=
 ∀(pins:BC) (s:Qb) (Y:St) (H:Hp) (x:V) (v:Value) (Q:EM),Inv X pins Y H s->RelV x v->r x H Q →
  wpAny Qr X.A QgS Qe3 X.xe s
noncomputable def vn(r:R2)(ta tb:TE):TE:=λY H Q=>ta Y H λx H1=>tb Y H1 λy H2=>r x y H2 Q
noncomputable def tUn(r:Qm1)(ta:TE):TE:=λY H Q=>ta Y H λx H1=>r x H1 Q
noncomputable def rI(C:Qwj)(g:Int->Int->V):R2:=λx y H Q=>∃i j,x=.int i/\y=.int j/\C i j/\Q Qeh H
noncomputable def tf(g:Int->Int->V):R2:=λx y H Q=>∃i j,x=.int i/\y=.int j/\Q Qeh H
def rU(g:Int->V):V->Hp->VK->Prop:=λx H Q=>∃i,x=.int i/\Q (g i) H
variable{a b:Expr}{ta tb:TE}{f:Qtq}
def KO(k:QbW)(j:QfH){R:V->V->Hp->Prop}(I:QE)
  (h:ta Y H λx H1=>tb Y H1 λy H2=>R x y H2) {Q:BN}
  (hf:∀v u s2 x y H2,Inv X pins Y H2 s2->RelV x v->RelV y u->R x y H2->wpAny Qr X.A (f v u) Q X.xe s2) :
  wpAny Qr X.A (eval a X.env) (λv d=>wpAny Qr X.A (eval b X.env) (λu c=>wpAny Qr X.A (f v u) Q X.xe c) X.xe d) X.xe s:=by
 refine d9 QuU λv s1 zz=>?_;obtain⟨x,H1,m,g,q1⟩:=zz;refine d9 Qmd λu s2 zz=>?_;obtain⟨y,H2,l,e,i⟩:=zz;exact hf v u s2 x y H2 l g e i
noncomputable def NK{op:QfI}{r:R2}(e:QvN)(g:QbW)(f:QfH):PE X (.BinOp a op b pos) QjH:=λpins s Y H Q I h=>wpAny_BinOp Qqr
def apJ{op:UnaryOp}{r:Qm1}(c:Nd X (unaryOp op) r)(d:QbW):PE X (.UnaryOp op a pos) (tUn r ta):=λpins s Y H Q I h=>UnaryOp_ (d9 QuS λv s1 ⟨x,H1,e,b,q1⟩=>c pins s1 Y H1 x v Q e b q1)
def DX{C:Qwj}{g:QnF}
  (rule:∀(i j:Int) (t u:Tok) (s:Qb) (Q:BN) (E:BN),C i j->Q Qyi {s with toks:=s.toks+1}->wpAny Qr X.A Qmx Q E s) :
  yE X f (rI C λi j=>.int Qeh):=by
 intro pins s Y H x y v u Q I b a h;obtain⟨i,j,rfl,rfl,c,q⟩:=h;obtain⟨t,rfl⟩:=b;obtain⟨t',rfl⟩:=a;exact rule i j t t' s _ _ c #[.int _,H,I.tok _,#[_,rfl],q]
def OH{g:QnF}
  (rule:∀(i j:Int) (t u:Tok) (s:Qb) (Q:BN) (E:BN),Q Qyi {s with toks:=s.toks+1}->wpAny Qr X.A Qmx Q E s) :
  yE X f (tf λi j=>.int Qeh):=by
 intro pins s Y H x y v u Q I b a h;obtain⟨i,j,rfl,rfl,q⟩:=h;obtain⟨t,rfl⟩:=b;obtain⟨t',rfl⟩:=a;exact rule i j t t' s _ _ #[.int _,H,I.tok _,#[_,rfl],q]
def KI{g:Qha}
  (rule:∀(i j:Int) (t u:Tok) (s:Qb) (Q:BN) (E:BN),Q (.bool Qeh) s->wpAny Qr X.A Qmx Q E s) :
  yE X f (tf λi j=>.bl Qeh):=by
 intro pins s Y H x y v u Q I b a h;obtain⟨i,j,rfl,rfl,q⟩:=h;obtain⟨t,rfl⟩:=b;obtain⟨t',rfl⟩:=a;exact rule i j t t' s _ _ #[.bl _,H,I,rfl,q]
def OF(i j:Int):Prop:=0<j/\j<1073741824
def OE(i j:Int):Prop:=0<=j/\j<=1000000/\i.natAbs<2 ^ 64
def Hc(i j:Int):Prop:=(-(2 ^ 64)<i/\i<2 ^ 64)\/(-(2 ^ 64)<j/\j<2 ^ 64)
theorem Hc.ok{i j:Int}(h:Hc i j):IntMulOk i j:=by
 obtain⟨h1,h2⟩|⟨h1,h2⟩:=h
 .exact .of_left Quo
 .exact .of_right Quo
def akT:yE X QgA (tf λi j=>.int (i+j)):=OH λ_ _ _ _ _ _ _ q=>add_int q
def akU:yE X (binaryOp .Sub) (tf λi j=>.int (i-j)):=OH λ_ _ _ _ _ _ _ q=>sub_int q
def akV:yE X Qwk (rI Hc λi j=>.int (i*j)):=DX λ_ _ _ _ _ _ _ a q=>mul_int q a.ok
theorem afd:yE X (binaryOp .FloorDiv) (rI OF λi j=>.int (i / j)):=DX λi j _ _ _ _ _ a q=>by
 have h1:=a.1;have h2:=a.2;exact floordiv_int We (by rw[Int.fdiv_eq_ediv_of_nonneg i We];exact q) (.inl (PyProof.noPylong_small We))
theorem akW:yE X (binaryOp .Mod) (rI (λ_ j=>0<j) λi j=>.int (i % j)):=DX λi j _ _ _ _ _ a q=>mod_int' We (by rw[Int.fmod_eq_emod_of_nonneg i We];exact q)
def akX:yE X (binaryOp .Pow) (rI OE λi j=>.int (i ^ j.toNat)):=DX λ_ _ _ _ _ _ _ a q=>pow_int_small a.1 a.2.1 a.2.2 q
def unI{f:QwL}{g:Qhb}
  (rule:∀(i:Int) (t:Tok) (s:Qb) (Q:BN) (E:BN),Q (.int (g i) s.toks) {s with toks:=s.toks+1}->wpAny Qr X.A (f QgG) Q E s) :
  Nd X f (rU λi=>.int (g i)):=by
 intro pins s Y H x v Q I a h;obtain⟨i,rfl,q⟩:=h;obtain⟨t,rfl⟩:=a;exact rule i t s _ _ #[.int _,H,I.tok _,#[_,rfl],q]
def akY:Nd X (unaryOp .USub) (rU λi=>.int (-i)):=unI λ_ _ _ _ _ q=>neg_int q
noncomputable def OC:V->V->Bool
 | .non,.non=>true | .non,.int _=>true | .int _,.non=>true | .non,.bl _=>true | .bl _,.non=>true | .non,.str _=>true | .str _,.non=>true
 | .int _,.int _=>true | .bl _,.bl _=>true | .str _,.str _=>true | .Rc _,.Rc _=>true
 | .int _,.str _=>true | .str _,.int _=>true | .bl _,.str _=>true | .str _,.bl _=>true
 | _,_=>false
def rEq:R2:=λx y H Q=>OC x y=true/\Q (.bl (decide (x=y))) H
def rNe:R2:=λx y H Q=>OC x y=true/\Q (.bl (!decide (x=y))) H
def Vj{i j:Int}:decide (V.int i=V.int j)=(i==j):=by
 rw[wH];simp
def XX{i j:Bool}:decide (V.bl i=V.bl j)=(i==j):=by
 rw[wH];simp
def Vk{i j:Str}:decide (V.str i=V.str j)=(i==j):=by
 rw[wH];simp
theorem Vl{i j:Array UInt8}:decide (V.Rc i=V.Rc j)=(i.toList==j.toList):=by
 rw[wH];simp_all
def dD{Q:VK}{k k':Bool}(I:QE)(q:Q (.bl k) H)(e:k=k'):EP X pins Y Q (.bool k') s:=by
 subst e;exact#[.bl k,H,I,rfl,q]
theorem Pt:yE X (compareOp .Eq) rEq:=by
 intro pins s Y H x y v u Q I b a h;obtain⟨hs,q⟩:=h;cases x with
 | non=>
  cases b;cases y with
  | non=>cases a;exact PySem.EqNone.eq_none_none QaI
  | bl j=>cases a;exact PySem.EqNone.eq_none_bool QaI
  | int j=>obtain⟨t',rfl⟩:=a;exact PySem.EqNone.eq_none_int QaI
  | str j=>obtain⟨t',rfl⟩:=a;exact PySem.EqNone.eq_none_str QaI
  | _=>exact absurd (show false=true from hs) mn
 | bl i=>
  cases b;cases y with
  | non=>cases a;exact PySem.EqNone.eq_bool_none QaI
  | bl j=>cases a;exact eq_bool (dD I q XX)
  | str j=>obtain⟨t',rfl⟩:=a;exact PySem.EqMixed.eq_bool_str QaI
  | _=>exact absurd (show false=true from hs) mn
 | int i=>
  obtain⟨t,rfl⟩:=b;cases y with
  | non=>cases a;exact PySem.EqNone.eq_int_none QaI
  | int j=>obtain⟨t',rfl⟩:=a;exact eq_int (dD I q Vj)
  | str j=>obtain⟨t',rfl⟩:=a;exact PySem.EqMixed.eq_int_str QaI
  | _=>exact absurd (show false=true from hs) mn
 | str i=>
  obtain⟨t,rfl⟩:=b;cases y with
  | non=>cases a;exact PySem.EqNone.eq_str_none QaI
  | bl j=>cases a;exact PySem.EqMixed.eq_str_bool QaI
  | int j=>obtain⟨t',rfl⟩:=a;exact PySem.EqMixed.eq_str_int QaI
  | str j=>obtain⟨t',rfl⟩:=a;exact eq_str (dD I q Vk)
  | _=>exact absurd (show false=true from hs) mn
 | Rc i=>
  obtain⟨t,rfl⟩:=b;cases y with
  | Rc j=>obtain⟨t',rfl⟩:=a;exact PySem.W.eq_bytes (dD I q Vl)
  | _=>exact absurd (show false=true from hs) mn
 | _=>cases y<;>exact absurd (show false=true from hs) mn
theorem L1:yE X Qvl rNe:=by
 intro pins s Y H x y v u Q I b a h;obtain⟨hs,q⟩:=h;cases x with
 | non=>
  cases b;cases y with
  | non=>cases a;exact PySem.EqNone.ne_none_none QaI
  | bl j=>cases a;exact PySem.EqNone.ne_none_bool QaI
  | int j=>obtain⟨t',rfl⟩:=a;exact PySem.EqNone.ne_none_int QaI
  | str j=>obtain⟨t',rfl⟩:=a;exact PySem.EqNone.ne_none_str QaI
  | _=>exact absurd (show false=true from hs) mn
 | bl i=>
  cases b;cases y with
  | non=>cases a;exact PySem.EqNone.ne_bool_none QaI
  | bl j=>cases a;exact ne_bool (dD I q (congrArg not XX))
  | str j=>obtain⟨t',rfl⟩:=a;exact PySem.EqMixed.ne_bool_str QaI
  | _=>exact absurd (show false=true from hs) mn
 | int i=>
  obtain⟨t,rfl⟩:=b;cases y with
  | non=>cases a;exact PySem.EqNone.ne_int_none QaI
  | int j=>obtain⟨t',rfl⟩:=a;exact ne_int (dD I q (congrArg not Vj))
  | str j=>obtain⟨t',rfl⟩:=a;exact PySem.EqMixed.ne_int_str QaI
  | _=>exact absurd (show false=true from hs) mn
 | str i=>
  obtain⟨t,rfl⟩:=b;cases y with
  | non=>cases a;exact PySem.EqNone.ne_str_none QaI
  | bl j=>cases a;exact PySem.EqMixed.ne_str_bool QaI
  | int j=>obtain⟨t',rfl⟩:=a;exact PySem.EqMixed.ne_str_int QaI
  | str j=>obtain⟨t',rfl⟩:=a;exact ne_str (dD I q (congrArg not Vk))
  | _=>exact absurd (show false=true from hs) mn
 | Rc i=>
  obtain⟨t,rfl⟩:=b;cases y with
  | Rc j=>obtain⟨t',rfl⟩:=a;exact PySem.W.ne_bytes (dD I q (congrArg not Vl))
  | _=>exact absurd (show false=true from hs) mn
 | _=>cases y<;>exact absurd (show false=true from hs) mn
def apO:yE X (compareOp .Lt) (tf λi j=>.bl Qn5):=KI λ_ _ _ _ _ _ _ q=>lt_int q
def apP:yE X (compareOp .Gt) (tf λi j=>.bl Qn6):=KI λ_ _ _ _ _ _ _ q=>gt_int q
def apQ:yE X (compareOp .GtE) (tf λi j=>.bl Qn0):=KI λ_ _ _ _ _ _ _ q=>ge_int q
variable{op:CmpOp}
theorem qY(b:Expr)(h:op ≠ .In:=by decide)(h2:op ≠ .NotIn:=by decide):behindInMarks op b=false:=by
 have e1:(op==CmpOp.In)=false:=by grind
 have e2:Qwh=false:=by grind
 cases b<;>simp[behindInMarks,e1,e2]
noncomputable def yF{r:R2}(e:Qp5)(g:QbW)(f:QfH)(hm:QiF):PE X Qix QjH:=λpins s Y H Q I h=>wpAny_Compare1 Qqr hm
noncomputable def apR(t:TE):TT:=λY H Q=>t Y H λx H'=>∃k,x=.bl k/\Q k H'
def vq{r:R2}(l:Qp5)(n:QbW)(m:QfH)(hm:QiF):PT X Qix (apR QjH):=by
 intro pins s Y H Q I h;refine wpAny_isTrue_Compare1 (d9 QmC λv s1 ⟨x,H1,q,g,q1⟩=>d9 (m pins s1 Y H1 _ q q1) λu s2 ⟨y,H2,p,f,j⟩=>
  d9 (l pins s2 Y H2 x y v u _ p g f j) λc s3 ⟨z,t,o,d,k,e,i⟩=>?_) hm
 subst e;cases d;exact so #[t,o,i]
def OA(K:Frag)(x:V)(H:Hp)(k:Bool):Prop:=
 match x with
 | .non=>k=false
 | .bl b=>k=b
 | .int i=>k=(i != 0)
 | .str y => y.length <= sizeLine /\ k = ((y.length : Int) != 0)
 | .Rc y=>y.size<=sizeLine/\k=((y.size:Int) != 0)
 | .ref p=>(∃xs,nF K H p xs/\k=!xs.isEmpty)\/(∃xs,tP K H p xs/\k=!xs.isEmpty)\/∃kvs,H p=some QbE/\k=!kvs.isEmpty
 | _=>False
def Rl{κ:Type}{kvs:QbI}{vs:Qel}(r:Qdq):(!vs.isEmpty)=!kvs.isEmpty:=by
 cases r<;>rfl
def DT{its:B1}(r:Vals xs its):(!its.toArray.isEmpty)=!xs.isEmpty:=by
 cases r<;>simp
def AY:(sizeLine:Nat)<2 ^ 63:=by decide
theorem akZ:as3 X (λx H Q=>∃k,OA X.K x H k/\Q k H):=by
 intro pins s Y H x v Q I c h;obtain⟨k,e,q⟩:=h;have hl:=AY;have hs:sizeLine=16777216:=l7;cases x with
 | non=>
  cases c;have a:k=false:=e;subst a;exact truthy_none #[H,I,q]
 | bl b=>
  cases c;have a:k=b:=e;subst a;exact so #[H,I,q]
 | int i=>
  obtain⟨t,rfl⟩:=c;have a:k=(i != 0):=e;subst a;exact PySem.P.truthy_int #[H,I,q]
 | str y=>
  obtain⟨t,rfl⟩:=c;obtain⟨f,a⟩:y.length<=sizeLine/\k=((y.length:Int) != 0):=e;subst a;exact PySem.P.truthy_str We #[H,I.tok _,q]
 | Rc y=>
  obtain⟨t,rfl⟩:=c;obtain⟨f,a⟩:y.size<=sizeLine/\k=((y.size:Int) != 0):=e;subst a;exact PySem.W.truthy_bytes We #[H,I.tok _,q]
 | ref p=>
  cases c;have a:(∃xs,nF X.K H p xs/\k=!xs.isEmpty)\/(∃xs,tP X.K H p xs/\k=!xs.isEmpty)\/∃kvs,H p=some QbE/\k=!kvs.isEmpty:=e;obtain⟨xs,d,a⟩|⟨xs,d,a⟩|⟨kvs,d,a⟩:=a
  .subst a;obtain⟨its,r,pl,hz⟩:=I.list d;have hlen:=r.length;exact wpAny_truthy_list pl.isList (by simp only[oD];lia) #[H,I.tok _,by rw[DT r];exact q]
  .subst a;obtain⟨its,r,pl,hz⟩:=I.tuple d;have hlen:=r.length;exact truthy_tuple pl (by simp only[oD];lia) #[H,I.tok _,by rw[DT r];exact q]
  .subst a;obtain⟨hz,g,vs,r,m⟩:kvs.length<=sizeLine/\(p==sysModules)=false/\∃vs,KV kvs vs/\s.heap.DictOf QnQ p vs:=I.cV p _ d;have hlen:kvs.length=vs.length:=u6 r;exact wpAny_truthy_dict g m We #[H,I.tok _,by rw[Rl r];exact q]
 | _=>exact(show False from e).elim
def aat(c:QbW)(he:∀whole,isTrue a X.env whole=(do let v ← whole;standAt a.pos;holding [v] QgS)) :
  PT X a (λY H Q=>ta Y H λx H'=>∃k,OA X.K x H' k/\Q k H'):=λpins s Y H Q I h=>isTrue_plain (d9 QuQ λv s1 ⟨x,H1,d,b,q1⟩=>akZ pins s1 Y H1 x v Q d b q1) (he _)
def Rm:yE X QgA (λx y H Q=>∃i j,x=.str i/\y=.str j/\i.length+j.length<=sizeLine/\Q (.str (i++j)) H):=by
 intro pins s Y H x y v u Q I b a h;obtain⟨i,j,rfl,rfl,hz,q⟩:=h;obtain⟨t,rfl⟩:=b;obtain⟨t',rfl⟩:=a;exact add_str (λt' tk=>#[.str _,H,I.tok _,#[_,rfl],q]) hz
theorem vals1{x:V}(r:Vals [x] us):∃u,us=[u]/\RelV x u:=by
 cases r with
 | cons b a=>cases a;exact#[_,rfl,b]
theorem vals2{x y:V}(r:Vals [x,y] us):∃u a,us=[u,a]/\RelV x u/\RelV y a:=by
 cases r with
 | cons e d=>
  cases d with
  | cons c b=>cases b;exact#[_,_,rfl,e,c]
def XD(b:Qbe):oJ X QvO (λxs H Q=>∃i j,xs=[.int i,.int j]/\Q Qrc H):=by
 intro pins s Y H xs us Q I r h;obtain⟨i,j,rfl,q⟩:=h;obtain⟨u,c,rfl,⟨t,rfl⟩,⟨t',rfl⟩⟩:=vals2 r;refine max_two_ints (I.ok.hd b) λh' tk k=>#[_,H,I.kept k,?_,q];by_cases a:j > i
 .rw[cq a,cq a];exact#[_,rfl]
 .rw[bW a,bW a];exact#[_,rfl]
def XF:oJ X QxD (λxs H Q=>(∃i,xs=[.int i]/\Q Qa7 H)\/∃k,xs=[.bl k]/\Q (.int (if k then 1 else 0)) H):=by
 intro pins s Y H xs us Q I r h;obtain⟨i,rfl,q⟩|⟨k,rfl,q⟩:=h
 .obtain⟨u,rfl,t,rfl⟩:=vals1 r;exact call_int_int #[.int i,H,I,#[_,rfl],q]
 .obtain⟨u,rfl,a⟩:=vals1 r;cases a;exact call_int_bool #[.int _,H,I.tok _,#[_,rfl],q]
def JG:oJ X Qn7 (λxs H Q=>∃i,xs=[.int i]/\i.natAbs.log2<1920/\Q QuV H):=by
 intro pins s Y H xs us Q I r h;obtain⟨i,rfl,hz,q⟩:=h;obtain⟨u,rfl,t,rfl⟩:=vals1 r;exact PySem.P.str_of_int hz #[.str _,H,I.tok _,#[_,rfl],q]
structure Rn(h:Heap)(x dx C:Addr)(mA:Bi):Prop where
 obj:h.get? x=some Qn4
 ns:h.Ns1 dx mA
 ne:dx≠x
variable{dx:Addr}
theorem XG{mA:Bi}(n:h.Ns1 dx mA):∃od,h.get? dx=some od/\∀name,lookIn name od=some (mA name):=by
 obtain⟨o,es,ep,d,hd,f,_,hm⟩:=n;refine#[o,d,λname=>?_];have e:=hm name;unfold nsFind findBy at e;rw[<- Array.find?_toList]at e;unfold lookIn;rw[hd];dsimp;split
 .simp_all
 .have a:es.toList.any (·.refKey)=false:=by
   rw[List.any_eq_false];intro y c;obtain⟨z,t,b⟩:=f y (Array.mem_toList_iff.1 c);simp[DictEntry.refKey,b]
  have g:¬ es.toList.any (·.refKey)=true:=by rw[a];simp_all
  rw[bW g];simp_all
variable{C:Addr}
theorem Rn.look{mA:Bi}(I:Rn h x dx C mA):∃od,PySem.W.InstAt h x Qn4 C (some od)/\∀name,lookIn name od=some (mA name):=
 let ⟨od,a,hl⟩:=XG I.ns
 #[od,#[I.obj,rfl,rfl,a],hl]
variable{prog:Qat}{f:Addr}{mA:Bi}{name:Str}{v:Value}
def get_map{expr:Bool}{Q:BN}(X:Qkz)(I:Qm6)(c:Qwl)(b:hasDictIn K C=true)
  (d:findIn K Qar name=some none) (hv:mA name=some v) (a:handedIn v=true) (h:Q v {s with toks:=s.toks+1}) :
  wpAny Qay A (getAttr Qdj name expr) Q E s:=by
 obtain⟨od,J,hl⟩:=I.look;exact PySem.W.get_value X J (plainGet_of c).1 (PySem.W.findObj_own b d rfl (by rw[hl,hv])) a h
variable{pl:Qhc}
theorem aau{Q:QsC}(X:Qkz)(I:Qm6)(a:Qwl)
  (hf:findIn K Qar name=some Qdb) (b:isFn K Qae=true) (hv:mA name=none) (h:Q (.ref f,[.ref x]) s) :
  wpAny Qay A (getMethod Qdj name pl) Q E s:=by
 obtain⟨od,J,hl⟩:=I.look;exact PySem.W.method_fn X J (plainGet_of a).1 (plainGet_of a).2 hf (si.1 b) (by show(lookIn name od).map _=some _;simp_all) h
theorem afe{ns:BA}(X:Qkz)(I:Qm6)
  (hs:findIn K Qar "__setattr__" = some Qrd) (k:plainOver K C=true) (j:takerIn K C name=some none) (l:hasDictIn K C=true)
  (hw:PySem.Within mA ns) (hsz:QwM)
  (h:∀h',Rn h' x dx C (λy=>if y=name then some v else mA y)->Heap.SameBut dx s.heap h'->Q () {s with heap:=h',toks:=s.toks+2}) :
  wpAny Qay A (setAttr Qdj name v) Q E s:=by
 obtain⟨od,J,hl⟩:=I.look;refine PySem.W.set_plain X J hs (PySem.W.osa_open X J k j λb=>?_);obtain⟨cd,m,e⟩:=any_some l;have i:=I.obj;refine ec (j3 (ec (ec (wpAny_loadPart i (ec (PySem.W.Looks.here (PySem.W.looks_clsIn X m) ?_))))));rw[e];refine j3 (ec (j3 (ec ?_)));refine wpAny_nsSet1 I.ns λh' a g=>?_;obtain⟨p,n,o,c,d,f⟩:=a.count (PySem.Within.cons name v hw);refine ec (wpAny_lookBehind c (d▸pastItsLine_dict (l6 f WE)) ?_);exact j3 (h _ #[(g.2 _ (nf I.ne)).trans I.obj,a,I.ne] g)
abbrev _root_.D1:=List (Str×Value)
noncomputable def aav{R:QtI}{vs:B1}{kw:D1}(X:Qkz)(hm:makesIn K C=true)
  (hi:findIn K Qar "__init__" = some Qdb) (hf:PySem.W.typeIn K Qae=some (.type "function"))
  (h:codeAny Qay (A.under (.builtin "type.__call__" #[.ref C::vs,kw])) (.call Qae #[.ref Qbm::vs,kw]) (PySem.W.InitBack Qbm R)
   {s with heap:=(s.heap.push emptyDict).push Qsv}) :
  codeAny Qay A (.call Qar #[vs,kw]) R s:=PySem.W.make_core (PySem.W.makes_of X hm) (PySem.W.looks_findIn X hi) (λself=>PySem.W.bind_fn X self hf) Qaj h
noncomputable def oF(f:Str)(v:V):CA->CA
 | []=>[(f,v)]
 | (g,x)::r=>if g=f then(g,v)::r else(g,x)::oF f v r
theorem Cd(f g:Str)(v:V):∀fs:CA,(oF f v fs).lookup g=if g=f then some v else fs.lookup g
 | []=>by
  show List.lookup g [(f,v)]=_;by_cases h:g=f
  .have a:=si.2 h;simp[List.lookup,a,cq h]
  .have a:=pw.2 h;simp[List.lookup,a,bW h]
 | (k,x)::r=>by
  have c:=Cd f g v r;rw[show oF f v _=(if k=f then(k,v)::r else(k,x)::oF f v r) from rfl];by_cases b:k=f
  .rw[cq b];by_cases h:g=k
   .have a:=si.2 h;simp[List.lookup,a,cq (h.trans b)]
   .have a:=pw.2 h;simp[List.lookup,a,bW (λe:g=f=>h (e.trans b.symm))]
  .rw[bW b];by_cases h:g=k
   .simp_all
   .have a:=pw.2 h;simp[List.lookup,a];exact c
theorem AZ(f:Str)(v:V):∀fs:CA,f∈(oF f v fs).map (·.1)/\∀g,g∈fs.map (·.1)->g∈(oF f v fs).map (·.1)
 | []=>#[by simp[oF],λg h=>by simp at h]
 | (k,x)::r=>by
  obtain⟨i1,a⟩:=AZ f v r;rw[show oF f v _=(if k=f then(k,v)::r else(k,x)::oF f v r) from rfl];grind
theorem Ce(f:Str)(v:V):∀fs:CA,(oF f v fs).length<=fs.length+1
 | []=>by simp[oF]
 | (k,x)::r=>by
  have a:=Ce f v r;rw[show oF f v _=(if k=f then(k,v)::r else(k,x)::oF f v r) from rfl];grind
theorem tH.some_of{v:V}{o:Qhd}(r:tH Qbc o):∃u,o=some u/\RelV v u:=by
 cases o with
 | none=>exact(r).elim
 | some u=>exact#[u,rfl,r]
theorem tH.none_of{o:Qhd}(r:tH none o):o=none:=by
 cases o with
 | none=>rfl
 | some u=>exact(r).elim
theorem XH{v:V}(r:QcW):handedIn u=true:=by
 cases v with
 | non=>cases (r);rfl
 | bl b=>cases (r);rfl
 | int i=>obtain⟨t,e⟩:=(r);cases e;rfl
 | str x=>obtain⟨t,e⟩:=(r);cases e;rfl
 | Rc b=>obtain⟨t,e⟩:=(r);cases e;rfl
 | flt b=>obtain⟨t,e⟩:=(r);cases e;rfl
 | ref a=>cases (r);rfl
 | ty n=>cases (r);rfl
variable{a:Addr}{fs:CA}
def JH(cV:QbG)(e:Qjv):∃mA,Rn h a dx C mA/\(∀f,tH Qod (mA f))/\PySem.Within mA (fs.map (·.1))/\fs.length<=1000/\H dx=some Qg0:=by
 obtain⟨d,z,ne,b,mA,n,r,q⟩:=(cV a _ e);exact#[mA,#[b,n,ne],r,q,z,d]
structure yG(K:Frag)(C:Addr):Prop where
 pg:plainGet K C Str.empty=true
 hd:hasDictIn K C=true
 po:plainOver K C=true
 sa:findIn K Qar "__setattr__" = some Qrd
theorem yG.get(c:yG K C)(f:Str):plainGet K C f=true:=c.pg
def bF(K:Frag)(C:Addr)(f:Str):Prop:=findIn K Qar f=some none
theorem bF.apT{f:Str}(n:bF K C f):takerIn K C f=some none:=by
 unfold takerIn;rw[n];rfl
structure Meth(K:Frag)(C:Addr)(m:Str)(f:Addr):Prop where
 at_:findIn K Qar m=some Qdb
 fn:isFn K Qae=true
 kp:keepIn K Qae=true
variable{f:Str}{v:V}
def DU{b:Bool}{Q:BN}(I:QE)(e:Qjv)(c:QkA)(n:bF X.K C f)(l:fs.lookup f=some v)
  (h:∀u s',Inv X pins Y H s'->RelV v u->Q u s'):wpAny Qr A (getAttr Qag f b) Q E s:=by
 obtain⟨mA,O,r,_,_,_⟩:=JH I.cV e;obtain⟨u,g,d⟩:=tH.some_of (l▸r f);exact get_map I.AX O (c.get f) c.hd n g (XH d) (h u _ Qdh d)
def DV{m:Str}{g:Addr}{Q:QsC}(I:QE)(e:Qjv)(c:QkA)(k:Meth X.K C m g)(l:Qhe)
  (h:Q (.ref g,[.ref a]) s):wpAny Qr A (getMethod Qag m pl) Q E s:=by
 obtain⟨mA,O,r,_,_,_⟩:=JH I.cV e;have hn:=tH.none_of (l▸r m);exact aau I.AX O (c.get m) k.at_ k.fn hn h
theorem DW{y:V}(I:QE)(e:Qjv)(c:QkA)(n:bF X.K C f)(hl:fs.length<1000)(l:QbX)
  (h:∀s',Inv X pins Y (upd H a Qt2) s'->Q () s'):wpAny Qr A (setAttr Qag f u) Q E s:=by
 obtain⟨mA,O,r,i,_,j⟩:=JH I.cV e;have hz:(fs.map (·.1)).length<=sizeLine:=by rw[cM,l7];lia
 refine afe I.AX O c.sa c.po n.apT c.hd i hz λh' d k=>h _ ?_;have hd:∃o,h'.get? dx=some o:=let ⟨o,_,_,t,_⟩:=d.ns;#[o,t];refine I.write (e▸True.intro) (.inr j) (λb q p z=>(k.2 b p).trans z) hd ?_;refine#[ ay O.ne▸j,?_,O.ne,d.obj,_,d.ns,λg=>?_,λg m=>?_]
 .have:=Ce f y fs;lia
 .rw[Cd];by_cases q:g=f
  .rw[cq q,cq q];exact l
  simp_all
 .by_cases q:g=f
  .rw[q];exact(AZ f y fs).1
  .refine(AZ f y fs).2 g (i g λz=>m ?_);grind
theorem Inv.made(I:QE):Inv X pins Y (upd (upd H s.heap.objs.size (.own Qbm)) Qbm (.ins C s.heap.objs.size []))
  {s with heap:=(s.heap.push emptyDict).push Qsv}:=by
 have e1:(s.heap.push _).get? _=some emptyDict:=mf _ rfl;have e2:=by
  have:=mf (s.heap.push emptyDict) (o:=instObj C s.heap.objs.size) rfl
  rwa [Heap.size_push]at this
 have c:(s.heap.push _).Ns _ _:=#[ _,#[],_,e1,rfl,(λe he=>absurd he Wp),λ_=>rfl];have d:=I.laid (o:=.own Qbm) (t':=s.toks) Qup (js _) #[_,e1];refine d.laid Qup (Nat.le_of_eq (Heap.size_push _ _)) ?_;have ne:s.heap.objs.size≠s.heap.objs.size+1:=l1 Quq;refine#[by rw[ay ne,aO],kx _,ne,e2,_,(Heap.Ns1.of_empty c).at λo q=>lr _ q,λ_=>True.intro,λy a=>absurd rfl a]
noncomputable def afg{env:Env}{e:Expr}{Q:BN}(b:attributeBase e f env (eval e env)=eval e env)
  (h:wpAny Qay A (eval e env) (λo a=>wpAny Qay A (getAttr o f true) Q E a) E s):wpAny Qay A (eval Qgo env) Q E s:=
 Attribute_any_ h (by rw[arm_eval_Attribute,b])
def as5(K:Frag)(ta:TE)(f:Str):TE:=λY H Q=>ta Y H λx H1=>∃a C dx fs v,x=.ref a/\H1 a=some QeQ/\yG K C/\bF K C f/\fs.lookup f=some v/\Q v H1
def as6(K:Frag)(ta tv:TE)(f:Str):TS:=λD Y H=>tv Y H λy H1=>ta Y H1 λx H2=>∃a C dx fs,x=.ref a/\H2 a=some QeQ/\yG K C/\bF K C f/\fs.length<1000 ∧
 D.nx Y (upd H2 a Qt2)
def Oy(X:Cx)(op:QfI)(a:Qmh):Prop:=
 ∀(pins:BC) (s:Qb) (Y:St) (H:Hp) (x y:V) (u v:Value) (Q:VK),Inv X pins Y H s->RelV x u->RelV y v->a x y H Q->wpAny Qr X.A (inplaceOp op u v) Qbg X.xe s
def afh(K:Frag)(ta tv:TE)(d:Qmh)(f:Str):TS:=λD Y H=>ta Y H λx H1=>∃a C dx fs v,x=.ref a/\H1 a=some QeQ/\yG K C/\bF K C f/\fs.lookup f=some v ∧
 tv Y H1 λy H2=>d v y H2 λz c=>∃b fs',c a=some (.ins C b fs')/\fs'.length<1000/\D.nx Y (upd c a (.ins C b (oF f z fs')))
variable{o e value:Expr}{pos' as7:Pos}{tv:TE}
def Ro(he:PE X e ta)(g:QkB):PE X Qgo (as5 X.K ta f):=by
 intro pins s Y H Q I h;refine afg g (d9 Qck λu s1 zz=>?_);obtain⟨x,H1,k,b,a,C,dx,fs,v,ex,i,c,n,l,q⟩:=zz;subst ex;obtain rfl:u=Value.ref a:=b;exact DU k i c n l λm s2 j d=>#[v,H1,j,d,q]
def ak0(i:PE X o ta)(hv:QjD)(hs:swapsWith value (some (.Attribute o f pos')) pos.line X.env=pure false):PS X (.Assign [.Attribute o f pos'] value pos) (as6 X.K ta tv f):=by
 intro pins s Y H D I h;refine plainObj_wpAny_Assign_Attribute (d9 Qmu λu s1 zz=>?_) hs;obtain⟨y,H1,p,b,q⟩:=zz;refine d9 (i pins s1 Y H1 _ p q) λg s2 zz=>?_;obtain⟨x,H2,m,d,a,C,dx,fs,ex,j,c,n,l,e⟩:=zz;subst ex;obtain rfl:g=Value.ref a:=d;exact DW m j c n l b λs3 k=>#[Y,_,k,e]
def XI{op:QfI}{e:Qmh}(A:PE X o ta)(hv:QjD)(b:Oy X op e):PS X (.AugAssign (.Attribute o f as7) op value pos) (afh X.K ta tv e f):=by
 intro pins s Y H D I h;refine wpAny_AugAssign_AttributeAny (d9 (A pins s Y H _ I h) λt s1 zz=>?_);obtain⟨x,H1,M,k,a,C,dx,fs,v,ex,B,c,n,l,q⟩:=zz;subst ex;obtain rfl:t=Value.ref a:=k;refine DU M B c n l λu s2 L m=>d9 (hv pins s2 Y H1 _ L q) λg s3 zz=>?_;obtain⟨y,H2,J,j,r⟩:=zz;refine d9 (b pins s3 Y H2 v y u g _ J m j r) λN s4 zz=>?_;obtain⟨z,O,G,i,E,fs',d,w,p⟩:=zz;exact DW G d c n w i λs5 F=>#[Y,_,F,p]
def as8:V->V->Hp->VK->Prop:=λx y H Q=>∃i j,x=.int i/\y=.int j/\Q QwN H
def ak1:Oy X .Sub as8:=by
 rintro pins s Y H x y u v Q I b a ⟨i,j,rfl,rfl,q⟩;obtain⟨t,rfl⟩:=(b);obtain⟨t',rfl⟩:=(a);exact PyProof.Rows.isub_int #[.int _,H,I.tok _,#[_,rfl],q]
def ajq{m:Str}{apos:Pos}{args:Cf}{Q:BN}(he:Qcc)(I:QE)
  (h:te Y H λx H1=>∃a C dx fs g,x=.ref a/\H1 a=some QeQ/\yG X.K C/\Meth X.K C m g/\fs.lookup m=none ∧
   ∀s1,Inv X pins Y H1 s1->wpAny Qr X.A (callWith pos (.ref g) [.ref a] (backTo pos Qur) QdE) Q X.xe s1)
  (i:eval Qre X.env=(do
   let ov ← eval e X.env
   standAt apos.atName
   let (f,first) ← holding [ov] Qvm
   callWith pos f first (backTo pos Qur) QdE)) :
  wpAny Qr X.A (eval Qre X.env) Q X.xe s:=by
 refine methodCall_KW (d9 Qck λu s1 zz=>?_) i;obtain⟨x,H1,b,d,a,C,dx,fs,g,ex,j,c,k,l,q⟩:=zz;subst ex;obtain rfl:u=Value.ref a:=d;exact DV b j c k l (q s1 b)
structure fc(k:Nat)(A:Qav):Prop where
 hd:A.handled=none
 dp:A.depth+3*k+5<recursionLimit
 un:A.units+16*k+200<cLine
theorem fc.mono{j:Nat}(r:fc k A)(h:j<=k):fc j A:=#[r.hd,by have:=r.dp;lia,by have:=r.un;lia]
theorem fc.deeper(r:fc QaZ A)(env:Env):fc k (A.deeper env):=
 #[r.hd,by have:=r.dp;show A.depth+1+3*k+5<_;lia,by have:=r.un;show A.units+3+16*k+200<_;lia]
def Rp{kw:D1}:(A.under QkQ).depth=A.depth+1:=rfl
def Rq{kw:D1}:(A.under QkQ).units=A.units+1:=rfl
theorem fc.make(r:fc QaZ A)(C:Addr)(us:B1)(kw:D1):fc k Qwm:=
 #[r.hd,by have:=r.dp;rw[Rp];lia,by have:=r.un;rw[Rq];lia]
theorem fc.depth(r:fc k A):A.depth<recursionLimit:=by have:=r.dp;lia
theorem fc.units(r:fc k A):A.units+64<cLine:=by have:=r.un;lia
noncomputable def x7:TA:=λ_ H Q=>Q [] H
noncomputable def Vm(ta:TE)(tr:TA):TA:=λY H Q=>ta Y H λx H1=>tr Y H1 λxs H2=>Q (x::xs) H2
variable{t:TA}
noncomputable def dY:PA X [] x7:=λ_ _ _ _ H Q I h=>Calls.spliced_nil #[[],H,I,.nil,h]
def bX(f:Qcc)(d:PA X es t)(hs:Qaq:=by rfl):PA X Qap (Vm te t):=by
 intro pos pins s Y H Q I h;rw[hs];show wpAny _ _ (spliced ((false,eval e _)::backTo pos _)) _ _ s;refine Calls.spliced_cons (d9 Qgm λu s1 zz=>?_);obtain⟨x,H1,i,b,q1⟩:=zz;refine d9 QsD λus s2 zz=>?_;obtain⟨xs,H2,g,a,c⟩:=zz;exact#[ _,H2,g,.cons b a,c]
def as9(t:TA):TE:=λY H Q=>t Y H λxs H1=>xs.length<=sizeLine/\∀p,H1 p=none->Q QbU (upd H1 p Qbr)
def ata(t:TA):TE:=λY H Q=>t Y H λxs H1=>xs.length<=sizeLine/\∀p,H1 p=none->Q QbU (upd H1 p Qbp)
def XO{x1}(h:PA X es t):PE X (.Tuple es x1 pos) (as9 t):=by
 intro pins s Y H Q I c;refine wpAny_Tuple_spliced (d9 Qtr λus s1 zz=>?_);obtain⟨xs,H1,a,r,z,q⟩:=zz;refine#[ r.length▸z,?_];have hf:=a.cV.fresh (js _);refine#[.ref _,_,a.laid QmD (js _) ?_,rfl,q _ hf];exact#[z,us,r,#[_,mf _ rfl,rfl,_,rfl]]
def ak2(h:PA X es t):PE X Qn8 (ata t):=by
 intro pins s Y H Q I c;refine wpAny_List_spliced (d9 Qtr λus s1 zz=>?_);obtain⟨xs,H1,a,r,z,q⟩:=zz;refine#[ r.length▸z,?_];have hf:=a.cV.fresh (js _);refine#[.ref _,_,a.laid QmD (js _) ?_,rfl,q _ hf];exact#[z,us,0,r,mf _ rfl]
abbrev Sp:=B0->Hp->VK->XK->Prop
abbrev Z6:=D2->Hp->Shared->XK->Value->Shared->Prop
structure Rr(P:Qat)(w:World)(K:Frag)(mg:Bi)(base:Heap)(A:Qav)(outer:D2)(s:Qb)(H:Hp):Prop where
 frames:A.frames=some outer
 mod:Mod K mg base
 bs:∀b o,base.get? b=some o->s.heap.get? b=some o/\H b=none
 ZZ:base.objs.size<=s.heap.objs.size
 xB:s.heap.FunFrames base outer
 o8:∀b∈tK outer,H b=none
 cV:tO P w H s.heap
 bare:AllBare s.gens
def CE(outer:D2)(P:Qat)(w:World)(H:Hp)(s:Qb)(Q:VK)(u:Value)(s':Qb):Prop:=
 ∃v H',s'.os=s.os/\AllBare s'.gens/\Un (tK outer) [] H H' s.heap s'.heap/\tO P w H' s'.heap/\RelV v u/\Q v H'
def CR(CX:Z6)(outer:D2)(P:Qat)(w:World)(H:Hp)(s:Qb)(Q:VK)(E:XK)(r:Result)(s':Qb):Prop:=
 match r with
 | .ok (.ret u)=>CE outer P w H s Q u s'
 | .ok _=>False
 | .error e=>CX outer H s E e s'
structure dg(P:Qat)(w:World)(K:Frag)(mg:Bi)(base:Heap)(CX:Z6)(k:Nat)(f:Addr)(fd:QaU)(ps:BA)(sp:Sp):Prop where
 len:∀vs H Q E,sp vs H Q E->vs.length=ps.length
 run:∀(A:Qav) (outer:D2) (s:Qb) (H:Hp) (args:Args) (us:B1) (vs:B0) (Q:VK) (E:XK),fc k A->Rr P w K mg base A outer s H->BindsTo s fd args Qcy->Vals vs us->sp vs H Q E →
  codeAny Qcz A (.call Qae args) (CR CX outer P w H s Q E) s
variable{mg:Bi}{base:Heap}{CX:Z6}{fd:QaU}{ps:BA}{sp:Sp}
theorem dg.mono{j:Nat}{f:Addr}(F:dg P w K mg base CX j f fd ps sp)(h:j<=k) :
  dg P w K mg base CX k f fd ps sp:=#[F.len,λA outer s H args us vs Q E a=>F.run A _ s H args us vs Q E (a.mono h)]
theorem dg.imp{f:Addr}{a:Sp}(F:dg P w K mg base CX k f fd ps sp)
  (h:∀vs H Q E,a vs H Q E->sp vs H Q E):dg P w K mg base CX k f fd ps a:=
 #[λvs H Q E q=>F.len vs H Q E (h _ _ _ _ q),λA outer s H args us vs Q E b he c hv hs=>F.run A _ s H args us vs Q E b he c hv (h _ _ _ _ hs)]
theorem Rr.make{outer:D2}(e:QsR)(C:Addr)(us:B1)(kw:D1) :
  Rr P w K mg base Qwm outer s H:=#[by first|exact e.frames|(simpa using e.frames),e.mod,e.bs,e.ZZ,e.xB,e.o8,e.cV,e.bare]
variable{s':Qb}
theorem Inv.Ll(I:QE):Rr X.prog X.w X.K X.mg X.base X.A X.stack s H:=
 #[I.ok.frames,I.ok.mod,I.bs,l6 I.ok.ZZ I.sz,I.stack,I.Di,I.cV,I.bare]
theorem Inv.after{Q:VK}(I:QE)(h:CE X.stack X.prog X.w H s Q u s'):EP X pins Y Q u s':=by
 obtain⟨v,H',os,bare,un,cV,r,q⟩:=h;obtain⟨c,g,d,t,a⟩:=s';obtain rfl:a=s.os:=os;exact#[v,H',I.call un cV bare (λb z=>absurd z Wp),r,q]
noncomputable def Po(sp:Sp)(Ij:B0)(E:XK)(t:TA):TE:=λY H Q=>t Y H λvs H1=>sp QgV H1 Q E
def apV(C:Addr)(m:Str)(sp:Sp)(Ij:B0)(E:XK)(ta:TE)(t:TA):TE:=λY H Q=>ta Y H λx H1=>∃a dx fs,x=.ref a/\H1 a=some QeQ/\fs.lookup m=none ∧
 t Y H1 λvs H2=>sp (x::QgV) H2 Q E
def apW(C:Addr)(sp:Sp)(Ij:B0)(E:XK)(t:TA):TE:=λY H Q=>t Y H λvs H1=>∀x dx,H1 x=none->H1 dx=none->dx≠x →
 sp Qyx (upd (upd H1 dx QgQ) x (.ins C dx [])) Qr2 E
def Binds(K:Frag)(fd:QaU)(ps:BA)(ds:B1):Prop:=
 ∀(s:Qb) (us:B1),K.In s.heap->(us++ds).length=ps.length->BindsTo s fd #[us,[]] (ps.zip (us++ds))
theorem Binds.all(h:∀us:B1,us.length=ps.length->bindArgs fd #[us,[]]=pure Qcy):Binds K fd ps []:=λs us _ hl=>by
 rw[ko]at hl ⊢;exact .of_eq (h us hl)
def Passes(CX:Z6)(X:Cx)(E:XK):Prop:=∀(pins:BC) (Y:St) (H:Hp) (s:Qb) (e:Value) (s':Qb),Inv X pins Y H s->CX X.stack H s E e s'->X.xe e s'
section
variable{f:Addr}{Ij:B0}{ds:B1}{E:XK}{x m:Str}{apos:Pos}
def Rt{Q:VK}{vs:B0}(F:Qew)(d:Qdr)(g:QfJ)(hd:QfK)(c:QfL)
  (I:QE) (r:QpS) (h:sp QgV H Q E):wpAny Qr X.A (call Qae us) Qbg X.xe s:=by
 have b:=r.append hd;have hl:=b.length▸F.len _ _ _ _ h;refine wpAny_call (codeAny_mono (F.run X.A _ s H _ _ _ Q E d I.Ll (g s us I.AX hl) b h) λr s' a=>?_);cases r with
 | error e=>exact c pins Y H s e s' I a
 | ok fl=>
  cases fl with
  | ret u=>exact I.after a
  | next=>exact False.elim a
  | brk=>exact False.elim a
  | cont=>exact False.elim a
def Dl(F:Qew)(d:Qdr)(i:Qaw)(hm:Qhf)(g:Qhg)(j:QfJ)(hd:QfK)(c:QfL)
  (l:QfM) (b:AD x:=by decide) (he:Qaq:=by rfl) (hpl:QaE:=by rfl) :
  PE X Qh9 (Po sp Ij E t):=by
 intro pins s Y H Q I h;refine rg (qX I i hm ?_ b);refine Iy I.ok.mod.vx g (d9 (l pos pins s Y H _ I h) λus s1 zz=>?_) he hpl;obtain⟨vs,H1,a,r,q⟩:=zz;refine#[a.AX,?_];exact Rt F d j hd c a r q
def aay(F:Qew)(c:Qdr)(e:Qaw)(hm:Qhf)(d:Qhg)(g:QfJ)(hd:QfK)(b:QfL)
  (a:AD x:=by decide):PE X (.Call (.Name x p) [] [] pos) (Po sp Ij E x7):=by
 intro pins s Y H Q I h;refine rg (qX I e hm ?_ a);exact PySem.W.callWith_K0 I.AX d (Rt F c g hd b I .nil h)
def JK(he:PE X o ta)(c:QkA)(hm:Meth X.K C m f)(F:Qew)(v:Qdr)(y:QfJ)(hd:QfK)(n:QfL)(z:QfM)
  (j:Qaq:=by rfl) (hpl:QaE:=by rfl)
  (p:eval QhW X.env=(do
   let ov ← eval o X.env
   standAt apos.atName
   let (f,first) ← holding [ov] Qvm
   callWith pos f first (backTo pos QeJ) QdE):=by rfl) :
  PE X QhW (apV C m sp Ij E ta t):=by
 intro pins s Y H Q I h;refine methodCall_KW (d9 Qck λu s1 zz=>?_) p;obtain⟨x,H1,d,g,a,dx,fs,ex,B,l,q⟩:=zz;subst ex;obtain rfl:u=Value.ref a:=g;refine DV d B c hm l ?_;refine Iy I.ok.mod.vx hm.kp (d9 (z pos pins s1 Y H1 _ d q) λus s2 zz=>?_) j hpl;obtain⟨vs,H2,b,r,i⟩:=zz;refine#[b.AX,?_];exact Rt (vs:=.ref a::vs) F v y hd n b (.cons rfl r) i
structure Mk(K:Frag)(C f:Addr):Prop where
 makes:makesIn K C=true
 init:findIn K Qar "__init__" = some Qdb
 fn:isFn K Qae=true
 kp:keepIn K Qar=true
def aaz{Q:VK}{vs:B0}(M:Mk X.K C f)(F:Qew)(l:Qhh)(m:QfJ)(hd:QfK)
  (j:QfL) (I:QE) (r:QpS)
  (h:∀x dx,H x=none->H dx=none->dx≠x->sp Qyx (upd (upd H dx QgQ) x (.ins C dx [])) Qr2 E) :
  wpAny Qr X.A (call Qar us) Qbg X.xe s:=by
 have d:=h _ _ QmJ Qc8 (l1 Quq);have b:=Inv.made (C:=C) I;have c:Vals (V.ref Qbm::QgV) _:=.cons rfl (r.append hd);have hl:=by
  have e:=c.length;rw[F.len _ _ _ _ d]at e;exact e.symm
 refine wpAny_call (aav I.AX M.makes M.init (si.1 M.fn) (codeAny_mono (F.run _ _ _ _ _ _ _ _ E (l.make C us [])
  (b.Ll.make C us []) (m _ _ b.AX hl) c d) λr s' a=>?_))
 cases r with
 | error e=>exact j pins Y _ _ e s' b a
 | ok fl=>
  cases fl with
  | ret u=>
   obtain⟨v,H',n,g,ev,i⟩:=b.after a;subst ev;exact#[g,#[V.ref _,H',n,rfl,i]]
  | next=>exact False.elim a
  | brk=>exact False.elim a
  | cont=>exact False.elim a
def JL(M:Mk X.K C f)(F:Qew)(d:Qhh)(g:Qaw)(hm:X.mg x=some Qar)(i:QfJ)(hd:QfK)(c:QfL)
  (j:QfM) (b:AD x:=by decide) (he:Qaq:=by rfl) (hpl:QaE:=by rfl) :
  PE X Qh9 (apW C sp Ij E t):=by
 intro pins s Y H Q I h;refine rg (qX I g hm ?_ b);refine Iy I.ok.mod.vx M.kp (d9 (j pos pins s Y H _ I h) λus s1 zz=>?_) he hpl;obtain⟨vs,H1,a,r,q⟩:=zz;refine#[a.AX,?_];exact aaz M F d i hd c a r q
end
def PK(X:Cx)(kws:List Keyword)(t:TA):Prop:=
 ∀(pos:Pos) (pins:BC) (s:Qb) (Y:St) (H:Hp) (Q:EN),Inv X pins Y H s->t Y H Q->wpAny Qr X.A (evalAll ((backToKw pos (keywordEach kws X.env)).map (·.2))) QnO X.xe s
variable{x:Str}{atb:Pos}{kws:List Keyword}{nm:Option Str}
noncomputable def YE:PK X [] x7:=λ_ _ _ _ H Q I h=>wpAny_evalAll_nil #[[],H,I,.nil,h]
def Vo(f:Qcc)(d:PK X kws t):PK X (#[nm,e,atb]::kws) (Vm te t):=by
 intro pos pins s Y H Q I h;refine wpAny_evalAll_cons (ec (d9 Qgm λu s1 zz=>?_));obtain⟨x,H1,i,b,q1⟩:=zz;refine ec (wpAny_standAt (j3 ?_));refine d9 QsD λus s2 zz=>?_;obtain⟨xs,H2,g,a,c⟩:=zz;exact#[ _,H2,g,.cons b a,c]
structure cW(N P:BA)(sc:Scope):Prop where
 kind:sc.kind=.function
 co:sc.isCoroutine=false
 gen:sc.isGenerator=false
 nd:N.Nodup
 pre:N.take P.length=P
 par:∀x∈P,sc.names.lookup x=some .local\/sc.names.lookup x=some .cell
 ak4:∀y∈sc.names,y.2 ≠ .free
theorem Ik{kindOf:QiN}{x:Str}:∀{binds:D1} {m:Bi},(∀v,(x,v)∉binds)->bindL kindOf binds m x=m x
 | [],_,_=>rfl
 | (n,v)::r,m,h=>by
  unfold bindL;rw[Ik λw hw=>h w (i3 _ hw)];split
  .have:x≠n:=by rintro rfl;exact h v iB
   simp[this]
  .rfl
theorem Il{kindOf:QiN}{x:Str}:∀{binds:D1} {m:Bi},(∀v,(x,v)∉binds)->bindC kindOf binds m x=m x
 | [],_,_=>rfl
 | (n,v)::r,m,h=>by
  unfold bindC;rw[Il λw hw=>h w (i3 _ hw)];split
  .rfl
  .have:x≠n:=by rintro rfl;exact h v iB
   simp[this]
theorem Im{kindOf:QiN}{x:Str}{v:Value}:∀{P:BA} {vs:B1} {i:Nat} {m:Bi},P.Nodup->P[i]? = some x->vs[i]? = some v->kindOf x=some .local →
  bindL kindOf (P.zip vs) m x=some v
 | [],_,_,_,_,h,_,_=>by simp at h
 | _::_,[],_,_,_,_,h,_=>by simp at h
 | p::P,w::vs,0,m,nd,h1,h2,a=>by
  simp at h1 h2;subst h1;subst h2;show bindL _ ((p,w)::P.zip vs) m p=_;unfold bindL;rw[Ik λv hv=>(ml.1 nd).1 (List.of_mem_zip hv).1,cq a];simp
 | p::P,w::vs,i+1,m,nd,h1,h2,a=>by
  unfold bindL;exact Im (ml.1 nd).2 (‹_›) (‹_›) a
theorem Io{kindOf:QiN}{x:Str}{v:Value}:∀{P:BA} {vs:B1} {i:Nat} {m:Bi},P.Nodup->P[i]? = some x->vs[i]? = some v->kindOf x≠some .local →
  bindC kindOf (P.zip vs) m x=some v
 | [],_,_,_,_,h,_,_=>by simp at h
 | _::_,[],_,_,_,_,h,_=>by simp at h
 | p::P,w::vs,0,m,nd,h1,h2,a=>by
  simp at h1 h2;subst h1;subst h2;show bindC _ ((p,w)::P.zip vs) m p=_;unfold bindC;rw[Il λv hv=>(ml.1 nd).1 (List.of_mem_zip hv).1,bW a];simp
 | p::P,w::vs,i+1,m,nd,h1,h2,a=>by
  unfold bindC;exact Io (ml.1 nd).2 (‹_›) (‹_›) a
noncomputable def start(N:BA)(vs:B0):St:=vs.map some++List.replicate (N.length-vs.length) none
noncomputable def tS(CX:Z6)(P:Qat)(w:World)(K:Frag)(mg:Bi)(base:Heap)(N:BA)(qual:Str)(scope:Scope)(f:Addr)(cd:Value)(A:Qav)(outer:D2)(s:Qb)(H:Hp)(E:XK):Cx where
 prog:=P
 w:=w
 K:=K
 mg:=mg
 base:=base
 A:=A.deeper Qk8
 N:=N
 jj:=s
 mB:=H
 env:=envOfC qual scope s.heap.objs.size f cd
 outer:=outer
 stack:=envOfC qual scope s.heap.objs.size f cd::outer
 ex:=[]
 calm:=true
 fn:=λ_=>true
 pn:=[]
 xe:=λe s'=>wpAny Qcz (A.deeper Qk8) (leaving Qk8 e) (λ_ a=>CX outer H s E e a) (λb a=>CX outer H s E b a) s'
def NP{sc:Scope}{n:Nat}(h:sc.names.lookup x=some .cell):∃c,(cellsFrom n sc.names []).lookup x=some c:=by
 have q:=cellsFrom_some _ n [] Qfr;exact Option.isSome_iff_exists.1 q
theorem XJ{N:BA}{qual:Str}{scope:Scope}{f:Addr}{cd:Value}{outer:D2}{s1:Qb}{E:XK}{vs:B0}
  (S:cW N ps scope) (hd:Qhi) (e0:QsR) (hl:vs.length=ps.length) (r:QpS)
  (x:InCallC s s.heap.objs.size (bindL (envOfC qual scope s.heap.objs.size f cd).kindOf Qcy λ_=>none) (cellsFrom Qbm scope.names []) (bindC (envOfC qual scope s.heap.objs.size f cd).kindOf Qcy λ_=>none) s1) :
  Inv (tS CX P w K mg base N qual scope f cd A outer s H E) [] (start N vs) H s1:=by
 have hpl:ps.length<=N.length:=by have:=congrArg List.length S.pre;rw[oC]at this;lia
 obtain⟨h1,tk,rfl,m⟩:=x.done;have a:∀b:Addr,b∉(tS CX P w K mg base N qual scope f cd A outer s H E).ex:=λb z=>absurd (show b∈([]:BY) from z) Wp;refine#[#[e0.mod,S.kind,rfl,rfl,js _,λy z c h1 h2=>?_,λy g=>?_,λy c _ h=>?_,λ_=>hd,Around.frames_deeper e0.frames,.inr #[rfl,rfl],λb z=>absurd z (a b),e0.bs,e0.ZZ,λb _ _=>a b,λb z=>absurd z (a b),e0.xB,e0.o8],
  rfl,e0.bare,Un.kept m,#[_,x.toInCall.ns,λi y v h1 h2 B=>?_],λy c h=>#[_,x.cell y c h],e0.cV.fresh (js _),λy c h=>?_,λp j=>absurd (show p∈([]:BC) from j) Wp,e0.cV.kept m,?_]
 .exact name_of_addr x.apart (rh h1) (rh h2)
 .obtain g|g:=g
  .exact NP g
  .exact absurd rfl (S.ak4 _ (rh g))
 .exact mi QuW
 .have hi:i<vs.length:=by
   unfold start at h2;by_cases hi:i<vs.length
   .exact hi
   .rw[List.getElem?_append_right (by simpa using hi)]at h2;rw[Mn]at h2;split at h2<;>cases h2
  have t:vs[i]? = some v:=by
   unfold start at h2;rw[List.getElem?_append_left (by simpa using hi),List.getElem?_map]at h2;simp_all
  obtain⟨u,l,o⟩:=r.get t;have j:ps[i]? = some y:=by
   rw[<- S.pre,List.getElem?_take_of_lt We];exact h1
  have d:ps.Nodup:=by rw[<- S.pre];exact S.nd.sublist (List.take_sublist _ _)
  refine#[u,o,?_];obtain k|k:=S.par y (l4 j)
  .exact .inl #[k,Im d j l k]
  .obtain⟨c,e⟩:=NP (n:=s.heap.objs.size+1) k;refine .inr #[.inl k,c,e,?_];have q:=x.cell y c e;rw[Io d j l (by show scope.names.lookup y≠_;rw[k];decide)]at q;exact q
 .exact e0.cV.fresh (mi QuW)
 .unfold start;show _=N.length;grind
abbrev _root_.DA:=Array (Option Value)
theorem Mc{f:Addr}{qual:Str}{params:QkC}{body:CO}{scope:Scope}{dV kV doc pm ez ct oc:Value}{an od:Db}
  {GH:DA} {N:BA} (lk:K.lookup f=some #[oc,od,.func QqB,GH]) (jO:Qm2) (S:cW N ps scope)
  (len:∀vs H Q E,sp vs H Q E->vs.length=ps.length)
  (p:∀(A:Qav) (outer:D2) (s:Qb) (H:Hp) (vs:B0) (Q:VK) (E:XK),fc k (A.deeper (envOfC qual scope s.heap.objs.size f ez))->sp vs H Q E →
   ∃t,Rg (tS CX P w K mg base N qual scope f ez A outer s H E) body t/\t {nx:=λ_ H'=>Q .non H',rt:=Q} (start N vs) H) :
  dg P w K mg base CX QaZ f QqB ps sp:=by
 refine#[len,λA outer s H args us vs Q E c e0 m r g=>?_];have hl:=len _ _ _ _ g;have d:=e0.mod.vx.keeps λb o e=>(e0.bs b o e).1;have lim:=e0.mod.nolimit.keeps λb o e=>(e0.bs b o e).1;have h:∀y∈ps.zip us,scope.names.lookup y.1=some _\/(scope.names.lookup y.1=some _/\((cellsFrom Qbm _ []).lookup y.1).isSome=true):=λ⟨n,v⟩ i=>by
  obtain q|q:=S.par n (List.of_mem_zip i).1
  .exact .inl q
  .exact .inr #[q,cellsFrom_some _ _ _ (.inl q)]
 refine codeAny_call_function c.depth (d _ _ lk) rfl S.co S.gen rfl (PySem.W.codeRec_of d jO) (m _ _ _ _ ?_);refine wpAny_newFunctionEnv_cells S.kind h λenv he s1 x=>?_;subst he;refine#[lim.keeps x.toInCall.keep,codeAny_func ?_];obtain⟨t,j,l⟩:=p A _ s H vs Q E (c.deeper _) g;have I:Inv (tS CX P w K mg base N qual _ f ez A _ s H E) [] _ H s1:=XJ S c.hd e0 hl r x;refine me (j [] s1 _ H _ I l) (λfl s' hs=>?_) λe s' hs=>hs;have fin:∀{Y':St} {H':Hp} {v:V} {u:Value},Inv (tS CX P w K mg base N qual scope f ez A _ s H E) [] Y' H' s'->RelV v u->Q v H'->CE outer P w H s Q u s':=
  λ{Y' H' v u} J a q=>#[v,H',J.os,J.bare,J.base,J.cV,a,q]
 cases fl with
 | ret u=>
  obtain⟨v,Y',H',J,a,q⟩:=hs;exact fin J a q
 | next=>
  obtain⟨Y',H',J,q⟩:=hs;exact fin (v:=V.non) J rfl q
 | brk=>
  obtain⟨_,_,_,q⟩:=hs;simp_all
 | cont=>
  obtain⟨_,_,_,q⟩:=hs;exact False.elim q
section
variable{id T:Qbi}{r:QmI}
noncomputable def ND(r:QmI)(t:TA):TE:=λY H Q=>t Y H λvs H1=>r vs H1 Q
def nK(d:oJ X QeW r)(c:Qaw)(hm:Qkx)(hv:bootBuiltins x=some QeW)(f:QfM)(hn:Qja:=by decide)(b:AD x:=by decide)
  (he:Qaq:=by rfl) (hpl:QaE:=by rfl):PE X Qh9 (ND r t):=by
 intro pins s Y H Q I h;refine rg (nJ I c hm hv ?_ hn b);refine PyProof.Rows.callWith_builtin1 (d9 Qts λus s1 zz=>?_) he hpl;obtain⟨vs,H1,g,a,q1⟩:=zz;exact d pins s1 Y H1 vs us Q g a q1
def jP(d:oJ X Qj8 r)(c:Qaw)(hm:Qkx)(hv:bootBuiltins x=some Qj8)(f:QfM)(hn:Qja:=by decide)(b:AD x:=by decide)
  (he:Qaq:=by rfl) (hpl:QaE:=by rfl):PE X Qh9 (ND r t):=by
 intro pins s Y H Q I h;refine rg (nJ I c hm hv ?_ hn b);refine va (d9 Qts λus s1 zz=>?_) he hpl;obtain⟨vs,H1,g,a,q1⟩:=zz;exact d pins s1 Y H1 vs us Q g a q1
end
end L2
namespace HT
open PySem PyProof.Rows
variable{prog:Qat}{w:World}{A:Qav}{E:BN}{s:Qb}
theorem afi{t b:Addr}{vs ws:B1}{Q:BN}(h:IsTup s.heap t vs.toArray)(j:IsTup s.heap b ws.toArray)(hv:vs≠[])
  (h1:ws=[]->Q (.ref t) s) (h2:ws≠[]->Q Qcj {s with heap:=s.heap.push {cls:=.type "tuple",data:=.seq (vs++ws).toArray}})
  (hsz:vs.length+ws.length<=sizeLine):wpAny Qay A (binaryOp .Add (.ref t) Qg1) Q E s:=by
 obtain⟨⟨cls,dd,data,sl⟩,f,i,n,hd⟩:=id h;obtain⟨⟨k,d,data2,c⟩,a,l,g,hd2⟩:=id j;subst i hd l hd2;have e:vs.toArray++ws.toArray=(vs++ws).toArray:=by simp
 by_cases hw:ws=[]
 .exact concat_meets #[_,f,rfl] #[_,a,rfl] noFill_tuple_add seq_tuple_add PySem.F.slot_tuple_add PySem.F.entry_tuple_add Qsf
   (tuple_addW1 t b _ _ n g dd d sl c WA (by simp[hw])) #[f,a,h1 hw]
 .refine concat_meets #[_,f,rfl] #[_,a,rfl] noFill_tuple_add seq_tuple_add PySem.F.slot_tuple_add PySem.F.entry_tuple_add Qsf
   (tuple_addW2 t b _ _ n g dd d sl c WA WA (‹_›)) #[f,a,?_]
  rw[e];exact h2 hw
abbrev _root_.Co:=Option Int
noncomputable def GK(n d:Nat):Co->Nat
 | none=>d
 | some v=>if v<0 then(v+(n:Int)).toNat else min v.toNat n
end HT
namespace L2
open PySem PySem.Spec PyProof.Rows
abbrev TO:=St->Hp->(Co->Hp->Prop)->Prop
def PO(X:Cx)(e:Qhj)(t:TO):Prop:=
 ∀(pins:BC) (s:Qb) (Y:St) (H:Hp) (Q:QxE),Inv X pins Y H s->t Y H Q →
  wpAny Qr X.A (evalPart e X.env) (λu s'=>∃o H',Inv X pins Y H' s'/\IsPart u o/\Q o H') X.xe s
noncomputable def afk:TO:=λ_ H Q=>Q none H
noncomputable def apX(t:TE):TO:=λY H Q=>t Y H λx H1=>∃i,x=.int i/\Q (some i) H1
abbrev _root_.AT:=List Int
theorem intsAre_of{ns:AT}:∀{us:B1},Vals Qct us->IntsAre us ns:=by
 induction ns with
 | nil=>intro us r;cases r;exact .nil
 | cons n ns c=>
  intro us r;cases r with
  | cons b a=>
   obtain⟨t,e⟩:=b;subst e;exact .cons n t (c a)
variable{X:Cx}{e:Expr}{te:TE}{lo hi:Qhj}{tl th:TO}{pos p2:Pos}
noncomputable def afl:PO X none afk:=λpins s Y H Q I h=>j3 #[none,H,I,.none,h]
def afm(h:Qcc):PO X Qj2 (apX te):=by
 intro pins s Y H Q I hw;refine d9 Qmt λu s1 zz=>?_;obtain⟨x,H1,b,a,q1⟩:=zz;obtain⟨i,rfl,q⟩:=q1;obtain⟨t,rfl⟩:=a;exact#[ _,H1,b,.int i t,q]
def Y1(X:Cx)(r:QlC):Prop:=
 ∀(pins:BC) (s:Qb) (Y:St) (H:Hp) (x:V) (v b a:Value) (lo hi:Co) (sl:Addr) (Q:VK),Inv X pins Y H s->RelV x v->s.heap.IsSliceOf sl b a .none->IsPart b lo->IsPart a hi->r x lo hi H Q →
  ∃T id,typeLookup Qj8 "__getitem__" = pure (some QeW)/\s.TypeIs v T/\wpAny Qr X.A (getItem v (.ref sl)) Qbg X.xe s
noncomputable def tSl(r:QlC)(te:TE)(tl th:TO):TE:=λY H Q=>te Y H λx H1=>tl Y H1 λl H2=>th Y H2 λu a=>r x l u a Q
def aaC{r:QlC}(m:Y1 X r)(he:Qcc)(hl:PO X lo tl)(j:PO X hi th):PE X Qrf (tSl r te tl th):=by
 intro pins s Y H Q I h;refine Subscript_ (d9 Qck λv s1 zz=>?_);obtain⟨x,H1,y,f,q1⟩:=zz;refine wpAny_Slice (d9 (hl pins s1 Y H1 _ y q1) λc s2 zz=>?_);obtain⟨l,H2,w,pl,i⟩:=zz;refine d9 (j pins s2 Y H2 _ w i) λa s3 zz=>?_;obtain⟨u,d,t,pu,g⟩:=zz;refine j3 ?_;have p:Inv X pins Y d {s3 with heap:=s3.heap.push {cls:=.type "slice",data:=.fields (List.toArray [c,a,.none])}}:=t.kept λb z q=>lr _ q;obtain⟨T,id,o,k,n⟩:=m pins _ Y d x v c a l u _ Q p f (Heap.IsSliceOf.new ..) pl pu g;exact tail_any k o n (rfl)
def yA(xs:B0)(lo hi:Co):B0:=(xs.drop Qt3).take QqL
theorem NR(xs:B0)(lo hi:Co):(yA xs lo hi).length<=xs.length:=by
 unfold yA;rw[oC,w8];lia
def apY(K:Frag):R2:=λx y H Q=>∃a b xs ys,x=.ref a/\y=.ref b/\tP K H a xs/\tP K H b ys/\xs≠[]/\xs.length+ys.length<=sizeLine ∧
 (ys=[]->Q Qag H)/\(ys≠[]->∀p,H p=none->Q QbU (upd H p (.tup (xs++ys))))
variable{xs:B0}{us:B1}
theorem Vals.Dm(r:QcV):us=[]↔xs=[]:=by
 cases r with
 | nil=>simp
 | cons _ _=>simp
theorem afn:yE X QgA (apY X.K):=by
 intro pins s Y H x y v u Q I f e h;obtain⟨a,b,xs,ys,rfl,rfl,k,j,i,hz,q1,g⟩:=h;cases f;cases e;obtain⟨its,d,p1,_⟩:=I.tuple k;obtain⟨m,c,p2,_⟩:=I.tuple j;refine HT.afi p1 p2 (λz=>i (d.Dm.1 z)) (λz=>#[.ref a,H,I,rfl,q1 (c.Dm.1 z)]) (λz=>?_) (by rw[<- d.length,<- c.length];exact hz);refine#[.ref _,_,I.laid (λb l q=>lr _ q) (js _) ?_,rfl,g (λw=>z (c.Dm.2 w)) _ Qc8];exact#[ by simp_all,_,d.append c,IsTup.new _ _]
noncomputable def oo(n:Nat)(i:Int):Option Nat:=if 0<=i then(if i<n then some i.toNat else none) else if -(n:Int)<=i then some (i+n).toNat else none
variable{α:Type}
def wg(xs:Qaf)(i:Int):Option α:=(oo xs.length i).bind λj=>xs[j]?
variable{n:Nat}
theorem JM{i:Int}{j:Nat}(h:oo n i=some j):seqIndex? i n=some j/\j<n /\ -(n:Int)<=i/\i<n:=by
 unfold oo at h;by_cases h0:0<=i
 .rw[cq h0]at h;by_cases h1:i<n
  .rw[cq h1]at h;have e:=mu h;exact#[by rw[seqIndex_of h0 h1,e],We,We,h1]
  simp_all
 .rw[bW h0]at h;by_cases h1:-n<=i
  .rw[cq h1]at h;have e:=mu h;exact#[by rw[seqIndex_neg We h1,e],We,h1,We]
  simp_all
theorem JN{xs:Qaf}{i:Int}{v:α}(h:wg xs i=some v):∃j,seqIndex? i xs.length=some j/\xs[j]? = some v/\j<xs.length /\ -(xs.length:Int)<=i/\i<xs.length:=by
 unfold wg at h;cases e:oo _ i with
 | none=>rw[e]at h;cases h
 | some j=>
  rw[e]at h;obtain⟨h1,h2,b,a⟩:=JM e;exact#[j,h1,h,h2,b,a]
theorem cR{xs:Qaf}{j:Nat}{v:α}(h:xs[j]? = some v):wg xs (j:Int)=some v:=by
 have a:=(md.1 h).1;have e:oo xs.length j=some j:=by
  unfold oo;simp_all
 unfold wg;rw[e];exact h
def vt(b:Expr):Prop:=∀o i,subscripted b false o i=operate [o,i] (getItem o i)
def IT(X:Cx)(r:R2):Prop:=
 ∀(value slice:Expr) (pins:BC) (s:Qb) (Y:St) (H:Hp) (x y:V) (v u:Value) (Q:VK),Inv X pins Y H s->RelV x v->RelV y u->r x y H Q →
  subscripted slice false v u=operate [v,u] (getItem v u)->wpAny Qr X.A (subscriptTail value slice v u) Qbg X.xe s
abbrev _root_.Ee:=V->B0->Hp->VK->Prop
def Nf(X:Cx)(id:Qbi)(r:Ee):Prop:=
 ∀(pins:BC) (s:Qb) (Y:St) (H:Hp) (x:V) (xs:B0) (v:Value) (us:B1) (Q:VK),Inv X pins Y H s->RelV x v->Vals xs us->r x xs H Q →
  wpAny Qr X.A QuX Qbg X.xe s
section
variable{a b:Expr}{ta tb:TE}
noncomputable def NS{r:R2}(e:IT X r)(g:QbW)(f:QfH)(hs:vt b):PE X (.Subscript a b pos) QjH:=λpins s Y H Q I h=>Subscript_ (KO g f I h λv u s2 x y H2 i d c q=>e a b pins s2 Y H2 x y v u Q i d c q (hs _ _))
def ate(K:Frag):R2:=λx y H Q=>∃p xs i v,x=.ref p/\y=.int i/\nF K H p xs/\wg xs i=some v/\Q v H
def atf(K:Frag):R2:=λx y H Q=>∃p xs i v,x=.ref p/\y=.int i/\tP K H p xs/\wg xs i=some v/\Q v H
def atg:R2:=λx y H Q=>∃z i c,x=.str z/\y=.int i/\z.length<=sizeLine/\wg z.cps.toList i=some c/\Q (.str #[(List.toArray [c])]) H
theorem Vp:IT X (ate X.K):=by
 intro value slice pins s Y H x y v u Q I b a h hs;obtain⟨p,xs,i,z,rfl,rfl,c,he,q⟩:=h;cases b;obtain⟨t,rfl⟩:=a;obtain⟨its,r,pl,hz⟩:=I.list c;obtain⟨j,h1,h2,k,f,e⟩:=JN he;obtain⟨w,l,g⟩:=r.get h2;have hl:=r.length;have hn:=AY;have fin:EP X pins Y Q w s:=#[z,H,I,g,q];by_cases h0:0<=i
 .have d:i.toNat=j:=by
   rw[seqIndex_of h0 e]at h1;grind
  exact item_listR pl.isList h0 We WA fin hs
 .have d:(i+its.toArray.size).toNat=j:=by
   rw[seqIndex_neg We f]at h1;simp_all
  exact subscriptTail_builtinR pl.isList.typeIs slot_list_getitem.lookup
   (wpAny_getItem_list_neg pl.isList We WA We WA #[rfl,fin]) hs
theorem YA:IT X (atf X.K):=by
 intro value slice pins s Y H x y v u Q I b a h hs;obtain⟨p,xs,i,z,rfl,rfl,c,he,q⟩:=h;cases b;obtain⟨t,rfl⟩:=a;obtain⟨its,r,pl,hz⟩:=I.tuple c;obtain⟨j,h1,h2,g,f,e⟩:=JN he;obtain⟨w,k,d⟩:=r.get h2;have hl:=r.length;have hn:=AY;have fin:EP X pins Y Q w s:=#[z,H,I,d,q];exact subscriptTail_builtinR pl.typeIs slot_tuple_getitem.lookup
  (getItem_tuple (j:=j) pl We We WA WA #[rfl,fin]) hs
theorem ak5:IT X atg:=by
 intro value slice pins s Y H x y v u Q I b a h hs;obtain⟨z,i,c,rfl,rfl,hz,he,q⟩:=h;obtain⟨t,rfl⟩:=b;obtain⟨t',rfl⟩:=a;obtain⟨j,h1,h2,f,e,d⟩:=JN he;have hl:z.cps.toList.length=z.length:=rfl;rw[hl]at h1 e d;have hn:=AY;exact tail_any (typeIs_str s z t) slot_str_getitem.lookup (getItem_str (c:=c) WE WA #[.str #[(List.toArray [c])],H,I.tok _,#[_,rfl],q]) hs
noncomputable def Ru(its:B1)(n j:Nat)(u:Value):Obj.mapSeq (·.setIfInBounds j u) {cls:=.type "list",data:=.seq its.toArray n}={cls:=.type "list",data:=.seq (its.set j u).toArray n}:=by
 simp[Obj.mapSeq]
theorem Inv.lst{pins:BC}{Y:St}{H:Hp}{s:Qb}{p:Addr}(I:QE)(h:H p=some Qbp) :
  ∃(its:B1) (n:Nat),Vals xs its/\s.heap.get? p=some {cls:=.type "list",data:=.seq its.toArray n}/\xs.length<=sizeLine:=by
 obtain⟨z,its,n,r,e⟩:=I.cV p _ h;exact#[its,n,r,e,z]
theorem Inv.ak6{pins:BC}{Y:St}{H:Hp}{s:Qb}{p:Addr}{ys:B0}{its a:B1}{c:Nat}{f:Obj->Obj}(I:QE)(h:H p=some Qbp)
  (d:s.heap.get? p=some {cls:=.type "list",data:=.seq its.toArray n}) (hf:f {cls:=.type "list",data:=.seq its.toArray n}={cls:=.type "list",data:=.seq a.toArray c}) (r:Vals ys a) (hz:Qnf) (t:Nat) :
  Inv X pins Y (upd H p QjO) {s with heap:=s.heap.update p f,toks:=t}:=by
 have e:(s.heap.update p f).get? p=some {cls:=.type "list",data:=.seq a.toArray c}:=by
  rw[wq f d (by rw[hf]<;>rfl),hf]
 refine I.write (by rw[h];trivial) Qaj (λb u g q=>(wt _ _ (nf g)).trans q) #[_,e] ?_;exact#[hz,a,c,r,e]
def apZ:V->V->V->Hp->Qj3->Prop:=λo i v H Q=>∃p xs k j,o=.ref p/\i=.int k/\H p=some Qbp/\oo xs.length k=some j/\Q (upd H p (.lst (xs.set j v)))
theorem set_list:OP X apZ:=by
 intro pins s Y H o i v x y u Q I f g e h;obtain⟨p,xs,k,j,rfl,rfl,c,l,q⟩:=h;cases f;obtain⟨t,rfl⟩:=g;obtain⟨its,n,r,a,hz⟩:=I.lst c;obtain⟨h1,h2,w,m⟩:=JM l;have hl:=r.length;have hn:=AY;have d:=
  I.ak6 c a (Ru its n j u) (r.set e j) WA s.toks
 by_cases h0:0<=k
 .have b:k.toNat=j:=by
   rw[seqIndex_of h0 m]at h1;grind
  exact PySem.W.ki_setAt a h0 We WA (b▸#[_,d,q])
 .have b:(k+its.toArray.size).toNat=j:=by
   rw[seqIndex_neg We w]at h1;simp_all
  exact PySem.W.ki_setBack a We WA We (b▸#[_,d,q])
theorem JQ(lo hi:Co)(n:Nat):(sliceBounds lo hi none n).1=((HT.GK n 0 lo:Nat):Int)/\(sliceBounds lo hi none n).2.1=((HT.GK n n hi:Nat):Int)/\(sliceBounds lo hi none n).2.2=1:=by
 refine#[?_,?_,rfl]
 .cases lo with
  | none=>simp[sliceBounds,HT.GK]
  | some i=>
   simp[sliceBounds,HT.GK,if_true];by_cases h:i<0
   .simp only[h,if_true]<;>lia
   .simp[h]<;>lia
 .cases hi with
  | none=>simp[sliceBounds,HT.GK]
  | some i=>
   simp[sliceBounds,HT.GK,if_true];by_cases h:i<0
   .simp only[h,if_true]<;>lia
   .simp[h]<;>lia
def GL(its:B1)(lo hi:Co):slicePick its.toArray lo hi none=((its.drop (HT.GK its.length 0 lo)).take (HT.GK its.length its.length hi-HT.GK its.length 0 lo)).toArray:=by
 obtain⟨h1,h2,a⟩:=JQ lo hi _;unfold slicePick;rw[h1,h2,a];simp only[sliceRange_one,pick_run]<;>rfl
def ath(K:Frag):V->Co->Co->Hp->VK->Prop:=λx lo hi H Q=>∃a xs,x=.ref a/\nF K H a xs/\∀p,H p=none->Q QbU (upd H p (.lst (yA xs lo hi)))
theorem afo:Y1 X (ath X.K):=by
 intro pins s Y H x v g f lo hi sl Q I d hs pl pu h;obtain⟨a,xs,rfl,e,q⟩:=h;cases d;obtain⟨its,r,c,hz⟩:=I.list e;have hlen:=r.length;refine#[ _,_,slot_list_getitem.lookup,c.isList.typeIs,?_];refine wpAny_getItem_list_slice c.isList hs pl pu .none Wp ?_ WE;rw[GL,<- hlen];refine#[.ref _,_,I.laid (λb i q=>lr _ q) (js _) ?_,rfl,q _ Qc8];exact#[l6 (NR xs lo hi) hz,_,0,(r.drop _).take _,mf _ rfl]
noncomputable def wI:V->Bool
 | .non=>true
 | .bl _=>true
 | .int _=>true
 | .str _ => true
 | _=>false
noncomputable def q2:V->V->Bool
 | .non,.non=>true
 | .bl a,.bl b=>a==b
 | .bl a,.int b=>(if a then 1 else 0)==b
 | .int a,.bl b=>a==(if b then 1 else 0)
 | .int a,.int b=>a==b
 | .str a, .str b => a == b
 | _,_=>false
theorem ak7{A:Qav}{s:Qb}{y x:V}{u v:Value}(d:QbX)(c:Qky)(e:wI y=true)(fx:wI x=true):SeqAt.EqAt A s u v (q2 y x):=by
 cases y with
 | non=>
  cases d;cases x with
  | non=>cases c;exact SeqAt.EqAt.same _
  | bl b=>cases c;exact SeqAt.EqAt.none_bool b
  | int b=>obtain⟨t,rfl⟩:=c;exact SeqAt.EqAt.none_int b t
  | str b=>obtain⟨t,rfl⟩:=c;exact SeqAt.EqAt.none_str b t
  | _=>exact absurd (show false=true from fx) mn
 | bl a=>
  cases d;cases x with
  | non=>cases c;exact SeqAt.EqAt.bool_none a
  | bl b=>cases c;exact SeqAt.EqAt.bool_bool a b
  | int b=>obtain⟨t,rfl⟩:=c;exact SeqAt.EqAt.bool_int a b t
  | str b=>obtain⟨t,rfl⟩:=c;exact SeqAt.EqAt.bool_str a b t
  | _=>exact absurd (show false=true from fx) mn
 | int a=>
  obtain⟨t',rfl⟩:=d;cases x with
  | non=>cases c;exact SeqAt.EqAt.int_none a t'
  | bl b=>cases c;exact SeqAt.EqAt.int_bool a t' b
  | int b=>obtain⟨t,rfl⟩:=c;exact SeqAt.EqAt.int_int a t' b t
  | str b=>obtain⟨t,rfl⟩:=c;exact SeqAt.EqAt.int_str a t' b t
  | _=>exact absurd (show false=true from fx) mn
 | str a=>
  obtain⟨t',rfl⟩:=d;cases x with
  | non=>cases c;exact SeqAt.EqAt.str_none a t'
  | bl b=>cases c;exact SeqAt.EqAt.str_bool a t' b
  | int b=>obtain⟨t,rfl⟩:=c;exact SeqAt.EqAt.str_int a t' b t
  | str b=>obtain⟨t,rfl⟩:=c;exact SeqAt.EqAt.str_str a t' b t
  | _=>exact absurd (show false=true from fx) mn
 | _=>exact absurd (show false=true from e) mn
def t4(x:V)(u:Value):Bool:=match u with
 | .none=>q2 .non x
 | .bool b=>q2 Qei x
 | .int i _=>q2 Qa7 x
 | .str z _ => q2 (.str z) x
 | _=>false
theorem Yv{x y:V}{u:Value}(r:QbX)(f:wI y=true):t4 x u=q2 y x:=by
 cases y with
 | non=>cases r;rfl
 | bl b=>cases r;rfl
 | int i=>obtain⟨t,rfl⟩:=r;rfl
 | str z=>obtain⟨t,rfl⟩:=r;rfl
 | _=>exact absurd (f) mn
theorem yH{x:V}:∀{xs:B0} {us:B1},Vals xs us->xs.all wI=true->us.any (t4 x)=xs.any λy=>q2 y x
 | _,_,.nil,_=>rfl
 | y::xs,u::us,.cons r t,f=>by
  rw[List.all_cons,l9]at f;rw[pd,pd,Yv r f.1,yH t f.2]
theorem tT{A:Qav}{s:Qb}{x:V}{v:Value}(b:Qky)(fx:wI x=true):∀{xs:B0} {us:B1},Vals xs us->xs.all wI=true->∀u∈us,SeqAt.EqAt A s u v (t4 x u)
 | _,_,.nil,_=>λu a=>by cases a
 | y::xs,u::us,.cons r t,f=>λc a=>by
  rw[List.all_cons,l9]at f;obtain rfl|a:=fL.1 a
  .rw[Yv r f.1];exact ak7 r b f.1 fx
  .exact tT b fx t f.2 c a
def ti(x:V)(xs:B0):Bool:=xs.any λy=>q2 y x
def NH(K:Frag)(neg:Bool):R2:=λx y H Q=>∃p xs,y=.ref p/\(nF K H p xs\/tP K H p xs)/\wI x=true/\xs.all wI=true/\Q (.bl (if neg then !ti x xs else ti x xs)) H
theorem Ir:yE X QwO (NH X.K false):=by
 intro pins s Y H x y v u Q I b c h;obtain⟨p,xs,rfl,a,fx,fs,q⟩:=h;cases c;obtain a|a:=a
 .obtain⟨its,r,pl,hz⟩:=I.list a;refine SeqAt.in_listAt _ pl.isList Qij #[.bl _,H,I,rfl,?_];rw[show its.toArray.any _=its.any (t4 x) by simp,yH r fs];exact q
 .obtain⟨its,r,pl,hz⟩:=I.tuple a;refine SeqAt.in_tupleAt _ pl Qij #[.bl _,H,I,rfl,?_];rw[show its.toArray.any _=its.any (t4 x) by simp,yH r fs];exact q
theorem mY:yE X (compareOp .NotIn) (NH X.K true):=by
 intro pins s Y H x y v u Q I b c h;obtain⟨p,xs,rfl,a,fx,fs,q⟩:=h;cases c;obtain a|a:=a
 .obtain⟨its,r,pl,hz⟩:=I.list a;refine SeqAt.notIn_listAt _ pl.isList Qij #[.bl _,H,I,rfl,?_];rw[show its.toArray.any _=its.any (t4 x) by simp,yH r fs];exact q
 .obtain⟨its,r,pl,hz⟩:=I.tuple a;refine SeqAt.notIn_tupleAt _ pl Qij #[.bl _,H,I,rfl,?_];rw[show its.toArray.any _=its.any (t4 x) by simp,yH r fs];exact q
theorem yI:oJ X (.builtin "len") (λxs H Q=>∃p ys,xs=[.ref p]/\QsE/\Q (.int ys.length) H):=by
 intro pins s Y H xs us Q I r h;obtain⟨p,ys,rfl,a,q⟩:=h;obtain⟨u,rfl,c⟩:=vals1 r;cases c;have hn:=AY;obtain a|a:=a
 .obtain⟨its,b,pl,hz⟩:=I.list a;have hlen:=b.length;exact Calls.call_len_list pl.isList (by simp only[oD]<;>lia) #[.int _,H,I.tok _,#[s.toks+1,by simp_all ],q]
 .obtain⟨its,b,pl,hz⟩:=I.tuple a;have hlen:=b.length;exact len_tuple pl (by simp only[oD]<;>lia) #[.int _,H,I.tok _,#[s.toks+1,by simp_all ],q]
theorem yJ:oJ X Qgv (λxs H Q=>∃p ys,xs=[.ref p]/\QsE/\∀l,H l=none->Q Qfs Qyn):=by
 intro pins s Y H xs us Q I r h;obtain⟨p,ys,rfl,c,q⟩:=h;obtain⟨u,rfl,i⟩:=vals1 r;cases i;have fin:∀(its:Qem),Vals ys its->ys.length<=sizeLine->∀(h':Heap) (g:Nat),(∀b o',s.heap.get? b=some o'->h'.get? b=some o') →
   h'.get? _=some _->EP X pins Y Q _ _:=λits a hz h' g kp e=>
  #[.ref _,_,I.laid (t':=s.toks) kp (js _) (show fK _ X.w _ h' _ QjO from#[hz,its,g,a,e]),rfl,q _ Qc8]
 obtain c|c:=c
 .obtain⟨its,a,pl,hz⟩:=I.list c;have hlen:=a.length;obtain⟨o,d,f,n,hd⟩:=pl.isList;exact call_list_seq p Qaj d f hd (fin its a hz) WE
 .obtain⟨its,a,pl,hz⟩:=I.tuple c;have hlen:=a.length;obtain⟨o,d,f,n,hd⟩:=pl;exact call_list_seq p QaB d f hd (fin its a hz) WE
theorem wJ:oJ X Qwn (λxs H Q=>∃p ys,xs=[.ref p]/\((nF X.K H p ys/\∀l,H l=none->Q Qfs (upd H l Qj9))\/(tP X.K H p ys/\Q QbU H))):=by
 intro pins s Y H xs us Q I r h;obtain⟨p,ys,rfl,h⟩:=h;obtain⟨u,rfl,f⟩:=vals1 r;cases f;obtain⟨c,q⟩|⟨c,q⟩:=h
 .obtain⟨its,a,pl,hz⟩:=I.list c;have hlen:=a.length;refine call_tuple_list pl.isList (λh' kp=>?_) WE;have d:=I.kept (t':=s.toks) kp;have g:=
   d.laid (t':=s.toks) (λb o e=>lr _ e) (js _) (show fK _ X.w _ _ _ Qj9 from#[hz,its,a,IsTup.new _ _])
  exact#[.ref _,_,g,rfl,q _ (d.cV.fresh (js _))]
 .obtain⟨its,a,pl,hz⟩:=I.tuple c;exact call_tuple_same pl #[.ref p,H,I,rfl,q]
def JF(K:Frag)(T:Qbi)(x:V)(H:Hp):Prop:=match x with
 | .str _ => T = "str"
 | .int _=>T="int"
 | .ref p=>(T="list" /\ ∃xs,nF K H p xs)\/(T="tuple" /\ ∃o,K.lookup p=some o/\o.cls=.type "tuple" /\ o.dict=none) ∨
   (T="dict" /\ ((∃kvs,H p=some QbE)\/∃kvs ep,H p=some (.dT kvs ep)))\/(T="set" /\ ∃S n,H p=some (.set S n))
 | _=>False
theorem Yf{pins:BC}{Y:St}{H:Hp}{s:Qb}{T:Qbi}{x:V}{v:Value}(I:QE)(r:Qky)(ty:JF X.K T x H) :
  s.TypeIs v T/\∀a,v=.ref a->∃d,s.heap.get? a=some d/\d.dict=none:=by
 cases x with
 | str z=>
  obtain⟨t,rfl⟩:=r;cases (ty);exact#[typeIs_str s z t,λ_ e=>nomatch e]
 | int i=>
  obtain⟨t,rfl⟩:=r;cases (ty);exact#[typeIs_int s i t,λ_ e=>nomatch e]
 | ref p=>
  cases r;obtain⟨rfl,xs,f⟩|⟨rfl,o,b,g,hd⟩|⟨rfl,b⟩|⟨rfl,S,n,b⟩:=ty
  .obtain⟨its,_,pl,_⟩:=I.list f;refine#[pl.isList.typeIs,λa e=>?_];obtain⟨o,n,e,c,hd,_⟩:=pl;simp_all
  .refine#[#[o,I.AX p o b,g],λa e=>?_];cases e;exact#[o,I.AX _ o b,hd]
  .have z:∃o,s.heap.get? p=some o/\o.ExactDict:=by
    obtain⟨kvs,b⟩|⟨kvs,ep,b⟩:=b
    .obtain⟨_,_,_,_,o,_,_,e,ex,_⟩:=I.cV p _ b;simp_all
    .obtain⟨_,_,_,_,o,_,_,e,ex,_⟩:=I.cV p _ b;simp_all
   obtain⟨o,e,ex⟩:=z;refine#[#[o,e,ex.1],λa e2=>?_];cases e2;exact#[o,e,ex.2.1]
  .obtain⟨o,_,_,_,e,ex,_⟩:=I.cV p _ b;refine#[#[o,e,ex.1],λa e2=>?_];cases e2;exact#[o,e,ex.2.1]
 | _=>exact False.elim ty
noncomputable def atj(K:Frag)(T:Qbi)(r:Ee)(to:TE):TE:=λY H Q=>to Y H λx H1=>JF K T x H1/\r x [] H1 Q
noncomputable def tBM(K:Frag)(T:Qbi)(r:Ee)(to:TE)(t:TA):TE:=λY H Q=>to Y H λx H1=>JF K T x H1/\t Y H1 λxs H2=>r x xs H2 Q
variable{o:Expr}{es:Cf}{to:TE}{t:TA}{name:Str}{apos C5:Pos}{T id:Qbi}{r:Ee}
def ala(pa:PlainAttrs T)(slot:Slot T name id)(b:Qq8)(hm:Nf X id r)(f:PE X o to)
  (e:AS X o name:=by rfl) (a:Qs9:=by rfl):PE X (.Call Qtt [] [] C5) (atj X.K T r to):=by
 intro pins s Y H Q I h;refine wpAny_Call_method0_late e a (d9 Qgm λv s1 zz=>?_);obtain⟨x,H1,d,c,ty,q1⟩:=zz;obtain⟨h1,h2⟩:=Yf d c ty;exact#[T,id,pa,slot,b,h1,h2,Calls.callWith_builtin rfl (PySem.evalArgs_none (hm pins s1 Y H1 x [] v [] Q d c .nil q1))]
def NW(pa:PlainAttrs T)(slot:Slot T name id)(b:Qq8)(hm:Nf X id r)(k:PE X o to)(l:QfM)
  (j:AS X o name:=by rfl)
  (p:((backTo C5 QeJ).all QnN&&(backToKw C5 QkM).all Qml
   && decide ((e::es).length+([]:List Keyword).length+QkY<30))=true:=by rfl)
  (a:Qs9:=by rfl) (hs:Qaq:=by rfl) (m:AL X C5 es:=by rfl) :
  PE X (.Call Qtt Qap [] C5) (tBM X.K T r to t):=by
 intro pins s Y H Q I h;refine wpAny_Call_method_late j p a rfl (d9 QuU λv s1 zz=>?_);obtain⟨x,H1,f,c,ty,q1⟩:=zz;obtain⟨h1,h2⟩:=Yf f c ty;refine#[T,id,pa,slot,b,h1,h2,?_];have d:=l C5 pins s1 Y H1 _ f q1;rw[hs]at d ⊢;refine Calls.callWith_builtin (‹_›) (Calls.evalArgs_plain ?_);refine d9 d λus s2 zz=>?_;obtain⟨vs,H2,n,g,i⟩:=zz;exact hm pins s2 Y H2 x vs v us Q n c g i
end
def z6(X:Cx)(id:Qbi)(r:Ee):Prop:=
 ∀(pins:BC) (s:Qb) (Y:St) (H:Hp) (x:V) (xs:B0) (v:Value) (us:B1) (Q:VK),Inv X pins Y H s->RelV x v->Vals xs us->r x xs H Q →
  wpAny Qr X.A QuX Qbg X.xe s
variable{x:V}
theorem Vals.one(h:Vals [x] us):∃u,us=[u]/\RelV x u:=by
 cases h with
 | cons r h=>cases h;exact#[_,rfl,r]
theorem Vals.two{y:V}(h:Vals [x,y] us):∃u v,us=[u,v]/\RelV x u/\RelV y v:=by
 cases h with
 | cons r h=>cases h with
  | cons q h=>cases h;exact#[_,_,rfl,r,q]
theorem Vals.zero:∀{us:B1},Vals [] us->us=[]
 | _,.nil=>rfl
theorem Vals.dropLast(h:QcV):Vals xs.dropLast us.dropLast:=by
 induction h with
 | nil=>exact .nil
 | cons r t a=>
  cases t with
  | nil=>exact .nil
  | cons q t'=>exact .cons r a
theorem Vals.reverse(h:QcV):Vals xs.reverse us.reverse:=by
 induction h with
 | nil=>exact .nil
 | cons r t a=>rw[rf,rf];exact Vals.append a Qn9
theorem Vals.rep{xs:B0}{us:B1}(h:QcV):∀k:Nat,Vals (List.replicate k xs).flatten (List.replicate k us).flatten
 | 0=>.nil
 | k+1=>Vals.append h (Vals.rep h k)
theorem foldl_rep(its:B1):∀(k:Nat) (acc:B1),
  List.foldl (λb a=>b++a) acc.toArray (List.replicate k its.toArray)=(acc++(List.replicate k its).flatten).toArray
 | 0,acc=>by simp
 | k+1,acc=>by
  have e:acc.toArray++its.toArray=(acc++its).toArray:=by simp
  have e2:(acc++its)++(List.replicate k its).flatten=acc++(List.replicate QaZ its).flatten:=by
   rw[List.replicate_succ,List.flatten_cons,ka]
  rw[<- e2,<- foldl_rep its k _,<- e,List.replicate_succ,zv]
variable{pins:BC}{Y:St}{H:Hp}{s:Qb}{l:Addr}{ys:B0}
theorem Inv.Ha{its a:B1}{f:Cc->Cc}{t':Nat}(I:QE)(d:H l=some Qbp)
  (e:s.heap.get? l=some {cls:=.type "list",data:=.seq its.toArray n}) (hf:f its.toArray=a.toArray) (hv:Vals ys a) (hz:Qnf) :
  Inv X pins Y Qyn {s with heap:=s.heap.update l (Obj.mapSeq f),toks:=t'}:=by
 have q:=PySem.IsL.update e f;rw[hf]at q;refine I.write (d▸trivial) Qaj (λg u c b=>(wt _ _ (nf c)).trans b) #[_,q] ?_;exact#[hz,a,_,hv,q]
theorem Inv.OR{its:B1}{t':Nat}(I:QE)(hv:Vals ys its)(hz:Qnf) :
  Inv X pins Y (upd H s.heap.objs.size QjO) {s with heap:=s.heap.push {cls:=.type "list",data:=.seq its.toArray},toks:=t'}:=
 I.laid QiP (js _) #[hz,its,0,hv,mf _ rfl]
theorem Inv.fresh(I:QE):H s.heap.objs.size=none:=I.cV.fresh (js _)
theorem Inv.G2(I:QE)(a:H l=some Qbp):xs.length<=sizeLine/\∃(its:B1) (n:Nat),Vals xs its/\xs.length=its.length/\s.heap.get? l=some {cls:=.type "list",data:=.seq its.toArray n}:=by
 obtain⟨z,its,n,r,e⟩:=I.cV l _ a;exact#[z,its,n,r,r.length,e]
theorem DY(h:n<=sizeLine):Builtin.List.listTooLong n=false:=la We
def afs:V->B0->Hp->VK->Prop:=λx vs H Q=>∃l xs y,x=.ref l/\vs=[y]/\H l=some Qbp/\xs.length<sizeLine/\Q .non (upd H l (.lst (xs++[y])))
theorem vv:z6 X "list.append" afs:=by
 intro pins s Y H x vs v us Q I b c h;obtain⟨l,xs,y,rfl,rfl,a,hz,q⟩:=h;cases b;obtain⟨u,rfl,d⟩:=c.one;obtain⟨z,its,n,r,hl,e⟩:=I.G2 a;refine ue F.slot_list_append #[_,e,rfl] F.entry_list_append (F.args_list_append_2 _ _) (PySem.list_append l _ n u WE) #[e,?_];refine#[.non,_,I.Ha a e Wp (r.append (.cons d .nil)) ?_,rfl,q];grind
def atl:V->B0->Hp->VK->Prop:=λx vs H Q=>∃l xs y,x=.ref l/\vs=[]/\H l=some Qbp/\xs[xs.length-1]? = some y/\Q y (upd H l (.lst xs.dropLast))
theorem alb:z6 X "list.pop" atl:=by
 intro pins s Y H x vs v us Q I d f h;obtain⟨l,xs,y,rfl,rfl,c,i,q⟩:=h;cases d;have b:=f.zero;subst b;obtain⟨z,its,n,r,hl,e⟩:=I.G2 c;obtain⟨u,j,g⟩:=r.get i;have a:its.toArray[its.toArray.size-1]? = some u:=by simp_all
 refine ue F.slot_list_pop #[_,e,rfl] F.entry_list_pop (F.args_list_pop_1 _) (MeetsSeq.list_pop_last l _ n u a WA) #[e,?_];refine#[y,_,I.Ha c e ?_ r.dropLast ?_,g,q]
 .simp_all
 .rw[List.length_dropLast];lia
def len_rep(xs:Qaf)(k:Nat):(List.replicate k xs).flatten.length=k*xs.length:=by simp
end L2
namespace Att
open PySem PySem.W PySem.Calls PyProof.Rows
def C6{P:Params}{h:Heap}:∀(ns:AT) (vs:B1),WellAll P h vs Qvn->IntsAre vs ns:=by
 intro ns
 induction ns with
 | nil=>
  intro vs w;cases w;exact .nil
 | cons n ns c=>
  intro vs w;cases w with
  | cons a b=>
   cases a;exact .cons _ _ (c _ b)
theorem XM{l:OpenLaw}{n:Nat}(hn:Qo9){P:Params}{h:Heap}{args:List WData}{vals:B1}
  (c:l.row.toRowW.claim.pre args=true) (k:WellAll P h vals args) :
  ∃a vs ns,vals=[Value.ref a]/\args=[WData.list Qvn]/\h.get? a=some {cls:=.type "list",data:=.seq vs.toArray}/\IntsAre vs ns/\ns.length<=n:=by
 have xC:=(pre_splitW c).1;have i:=(pre_splitW c).2;obtain⟨d,r,rfl,h1,h2⟩:=hasAllW_cons xC;obtain rfl:=hasAllW_nil h2;obtain⟨xs,rfl,j⟩:=hasW_list h1;obtain⟨ns,rfl⟩:=items_int j;have hlen:ns.length<=n:=by
  have b:=by
   have b:=(holds_andW i).1;rw[hn]at b;exact b
  have o:=condW_of b (w_not (w_lt w_lit (w_len_list (w_arg rfl))));simp_all
 cases k with
 | cons f e=>
  cases e;cases f with
  | list g m=>exact#[_,_,ns,rfl,rfl,g,C6 ns _ m,hlen]
def XQ(l:OpenLaw)(args:List WData):l.row.toRowW.claim.post args Qgy args=true:=
 postW_of
  (rfl)
  (w_eq_bool (w_res rfl) w_lit) rfl
def NX{l:OpenLaw}{n:Nat}{q:Qat}{loose:BA}{k:Qns}{j:QmK}{d:DefRec}
  (hn:Qo9) (g:QmX)
  (call:∀(w:World) (jj b:Qb) (mg mb:Bi) (c:Addr) (o:Obj) (pm cd doc:Value) (a:Addr) (vs:B1) (ns:AT),
   Ground q loose [] k w jj mg mb b.heap->j w b.heap →
   b.heap.get? c=some o->o.data=.func (docDef d.name d.params d.body d.scope pm cd doc)->b.heap.CodeRec cd d.name->mg d.name=some Qft →
   b.heap.get? a=some {cls:=.type "list",data:=.seq vs.toArray}->IntsAre vs ns->ns.length<=n->b.gens=#[] →
   codeAny (model l.prog w) callerA (.call Qft #[[.ref a],[]]) (λr s'=>r=.ok (.ret Qgy)/\OldK b.heap s'.heap/\s'.os=b.os/\AllBare s'.gens) b) :
  WalkO q loose k j l.row.toRowW d [] QlD:=by
 intro w jj b mg mb G Y c o pm cd doc dV kV t hd jO hD e v args vals as m i p z u;obtain rfl:dV=.none:=Dflts.none hD g;obtain rfl:kV=.none:=Dflts.noKw hD;obtain⟨a,vs,ns,rfl,rfl,h,hints,hlen⟩:=XM hn m z;refine enter_call (codeAny_mono (call w jj b mg mb c o pm cd doc a vs ns G Y t (fd_plain hd) jO e h hints hlen v) λr s' s=>?_);obtain⟨rfl,h2,y,x⟩:=s;exact#[.inl #[ _,_,[],rfl,λ_=>rfl,.bool true,XQ l _,λ_=>#[List.Pairwise.nil,λ_ hm=>(nomatch hm)]],h2,y,x]
noncomputable def ledger(h:Heap)(L d:Addr):BC:=(List.range h.objs.size).filterMap λa=>if a=L\/a=d then none else(h.get? a).map λo=>(a,o)
end Att
namespace L2
open PySem PySem.Spec PyProof.Rows
theorem Iu:∀{vs:B1} {ns:AT},IntsAre vs ns->Vals Qct vs
 | _,_,.nil=>.nil
 | _,_,.cons n t h=>.cons #[t,rfl] (Iu h)
noncomputable def inClass(s:Stmt)(j:Nat):Stmt:=match s with
 | .ClassDef _ _ _ body _ _ _ _ _ _ _=>body.getD j Qta
 | _=>.Pass #[0,0,0,0]
noncomputable def fX(s:Stmt):Arguments:=match s with
 | .FunctionDef _ a _ _ _ _ _ _ _ _=>a
 | _=>{posonlyargs:=[],args:=[],vararg:=none,kwonlyargs:=[],kw_defaults:=[],kwarg:=none,defaults:=[]}
noncomputable def bG(s:Stmt):CO:=match s with
 | .FunctionDef _ _ b _ _ _ _ _ _ _=>b
 | _=>[]
noncomputable def ao(s:Stmt):Scope:=match s with
 | .FunctionDef _ _ _ _ _ _ sc _ _ _=>sc
 | _=>{kind:=.function,names:=[],isGenerator:=false,isCoroutine:=false}
noncomputable abbrev oG:Z6:=λ_ _ _ _ _ _=>False
noncomputable abbrev E0:XK:=λ_ _ _=>False
variable{X:Cx}
noncomputable def Cg:Passes oG X E0:=λ_ _ _ _ _ _ _ h=>h.elim
structure Rw(K:Frag)(x qual:Str)(st:Stmt)(f:Addr)(fd:QaU):Prop where
 ex:∃(dV oc:Value) (od:Db) (kV doc pm:Value) (an:Db) (ez ct:Value) (GH:DA),
  fd=fnOf x qual (fX st) QbV Qa6 dV kV doc pm an ez ct/\K.lookup f=some #[oc,od,.func fd,GH]/\codeIn K ez qual=true
 kp:keepIn K Qae=true
variable{P:Qat}{w:World}{K:Frag}{mg:Bi}{base:Heap}
theorem Rw.ok{x qual:Str}{st:Stmt}{f:Addr}{fd:QaU}{N ps:BA}{k:Nat}{sp:Sp}(F:Qds)(S:Qdt)(len:∀vs H Q E,sp vs H Q E->vs.length=ps.length)
  (b:∀(ez:Value) (A:Qav) (outer:D2) (s:Qb) (H:Hp) (vs:B0) (Q:VK) (E:XK),fc k Qwo->sp vs H Q E →
   ∃t,Rg (tS oG P w K mg base N qual Qa6 f ez A outer s H E).Q6 QbV t/\t {nx:=λ_ H'=>Q .non H',rt:=Q} (start N vs) H):dg P w K mg base oG QaZ f fd ps sp:=by
 obtain⟨dV,oc,od,kV,doc,pm,an,ez,ct,GH,rfl,lk,jO⟩:=F.ex;refine Mc lk jO S len λA outer s H vs Q E a c=>?_;obtain⟨t,h,q⟩:=b ez A _ s H vs Q E a c;exact#[t,h.Q6,q]
theorem Rw.binds{x qual:Str}{st:Stmt}{f:Addr}{fd:QaU}{ps:BA}(F:Qds)(hd:fd.defaults=.none)
  (h:∀(kV doc pm:Value) (an:Db) (ez ct:Value) (us:B1),us.length=ps.length->bindArgs Qf2 #[us,[]]=pure Qcy):Binds K fd ps []:=by
 obtain⟨dV,oc,od,kV,doc,pm,an,ez,ct,GH,rfl,lk,jO⟩:=F.ex;cases (show dV=.none from hd);exact .all (h kV doc pm an ez ct)
def Ya{x qual:Str}{st:Stmt}{f:Addr}{oc:Value}{od an:Db}{GH:DA}{kV doc pm ez ct:Value}(l:Qrq)
  (c:Qm2) (k:QfN):Rw K x qual st f Qf2:=#[#[.none,oc,od,kV,doc,pm,an,ez,ct,GH,rfl,l,c],k]
noncomputable def bZ{n:Nat}(h:n<=1000):n<sizeLine:=oI h Wl
def Rx{A B:Prop}(h:B):if false=true then A else B:=‹_›
def Ry{A B:Prop}(h:A):if true=true then A else B:=‹_›
def aC(H H':Hp):Prop:=∀b o,H b=some o->H' b=some o
theorem aC.refl(H:Hp):aC H H:=λ_ _ h=>h
variable{H:Hp}
theorem aC.trans{H1 H2:Hp}(a:aC H H1)(b:aC H1 H2):aC H H2:=λc o h=>b c o (a c o h)
variable{H':Hp}
theorem aC.free(e:QcX){l:Addr}(h:H' l=Option.none):H l=Option.none:=by
 cases q:H l with
 | none=>rfl
 | some o=>
  rw[e l o q]at h;cases h
variable{a:Addr}
theorem aC.seq{xs:B0}(e:QcX)(h:nF K H a xs):nF K H' a xs:=by
 rcases h with(h|⟨o,h⟩)|h
 .exact .inl (.inl QdF)
 .exact .inl QtJ
 .exact .inr h
section
variable{κ:Type}[DecidableEq κ]
noncomputable def ji(kvs:QbI)(k:κ):Option V:=(kvs.find? λkv=>decide Qeb).map (·.2)
noncomputable def putK(kvs:QbI)(k:κ)(v:V):List (κ×V):=
 if Qey=true then kvs.map Qqd else kvs++[(k,v)]
def qw{p:κ×V}{r:QbI}{k:κ}(e:p.1=k):ji (p::r) k=some p.2:=by simp[ji,p5,e]
def nL{p:κ×V}{r:QbI}{k:κ}(e:¬ p.1=k):ji (p::r) k=ji r k:=by simp[ji,p5,e]
theorem DZ(k:κ):∀kvs:List (κ×V),Qey=(ji kvs k).isSome
 | []=>rfl
 | p::r=>by
  rw[pd];by_cases e:p.1=k
  .simp only[qw e,l5 e,Bool.true_or,Option.isSome_some]
  .rw[nL e,la e,Bool.false_or];exact DZ k r
theorem Ci(kvs:QbI)(k:κ)(v:V):(putK kvs k v).length<=kvs.length+1:=by
 unfold putK;split
 .rw[cM];lia
 .rw[lj,mM,List.length_nil];lia
def aaK{kvs:QbI}{k:κ}(v:V)(h:ji kvs k=none):putK kvs k v=kvs++[(k,v)]:=by
 unfold putK;rw[DZ,h];exact bW Wl
theorem tH.qx{o:Qen}{u:Qhd}(r:tH o u):o.isSome=u.isSome:=by
 cases o with
 | none=>cases u with
  | none=>rfl
  | some _=>exact(show False from r).elim
 | some _=>cases u with
  | none=>exact(show False from r).elim
  | some _=>rfl
theorem tH.getD{o:Qen}{u:Qhd}{d:V}{d':Value}(r:tH o u)(a:RelV d d'):RelV (o.getD d) (u.getD d'):=by
 cases o with
 | none=>cases u with
  | none=>exact a
  | some _=>exact(show False from r).elim
 | some _=>cases u with
  | none=>exact(show False from r).elim
  | some _=>exact r
theorem KV.val{kvs:QbI}{vs:Qel}(r:Qdq)(k:κ):tH Qj4 (valueAt vs k):=by
 unfold KV at r
 induction r with
 | nil=>exact True.intro
 | @cons p q ps qs h t c=>
  obtain⟨h1,h2⟩:=h;by_cases e:p.1=k
  .have a:q.1=k:=h1.symm.trans e;have b:valueAt Qkv k=some q.2:=by simp[valueAt,p5,a]
   rw[qw e,b];exact h2
  .have a:¬ q.1=k:=λz=>e Qnm;have b:valueAt Qkv k=valueAt qs k:=by simp[valueAt,p5,a]
   rw[nL e,b];exact c
theorem KV.any{kvs:QbI}{vs:Qel}(r:Qdq)(k:κ):Qey=vs.any λkv=>decide Qeb:=by
 unfold KV at r
 induction r with
 | nil=>rfl
 | cons h t a=>rw[pd,pd,a,h.1]
theorem KV.n8{kvs:QbI}{vs:Qel}(r:Qdq)(k:κ){y:V}{u:Value}(a:QbX) :
  KV Qqw (vs.map λkv=>if kv.1=k then(kv.1,u) else kv):=by
 unfold KV at r ⊢
 induction r with
 | nil=>exact .nil
 | @cons p q ps qs h t b=>
  rw[lx,lx];refine .cons ?_ b;obtain⟨h1,h2⟩:=h;by_cases e:p.1=k
  .rw[cq e,cq QvP];exact#[h1,a]
  .rw[bW e,bW Qye];exact#[h1,h2]
theorem KV.put{kvs:QbI}{vs:Qel}(r:Qdq)(k:κ){y:V}{u:Value}(a:QbX):KV (putK kvs k y) (stored vs k u):=by
 unfold putK stored;rw[r.any k];by_cases e:(vs.any λkv=>decide Qeb)=true
 .rw[cq e,cq e];exact r.n8 k a
 .rw[bW e,bW e];exact Paired.snoc r #[rfl,a]
theorem KV.keys{kvs:QbI}{vs:Qel}(r:Qdq):kvs.map (·.1)=vs.map (·.1):=by
 unfold KV at r
 induction r with
 | nil=>rfl
 | cons h t a=>rw[lx,lx,a,h.1]
theorem KV.length{kvs:QbI}{vs:Qel}(r:Qdq):kvs.length=vs.length:=u6 r
end
variable{u:Value}
theorem NZ{k:Key}(r:RelV (kV k) u):(fW P w).is k u=true:=by
 cases k with
 | inl i=>obtain⟨t,e⟩:=(show ∃t,u=Value.int i t from r);subst e;exact Nq P w i t
 | inr x=>obtain⟨t,e⟩:=(show ∃t,u=Value.str x t from r);subst e;exact Nr P w x t
theorem A1{P:Qat}{w:World}:∀{ks:CU} {us:B1},Vals QmL us->ItemsAre Qdg ks us
 | [],_,r=>by rw[List.map_nil]at r;cases r;exact .nil
 | k::ks,_,r=>by
  rw[lx]at r;cases r with
  | cons h t=>exact .cons (NZ h) (A1 t)
abbrev KT(H:Hp):B2->List Qgk->Prop:=Paired λp q=>p.1=q.1/\H q.2.1=some QvJ/\RelV p.2 q.2.2
variable{kvs:B2}{xs:List Qgk}
theorem KT.val(r:QkD)(k:CU):tH Qj4 ((atKey xs k).map (·.2)):=by
 induction r with
 | nil=>exact True.intro
 | @cons p q ps qs h t c=>
  obtain⟨h1,_,h2⟩:=h;by_cases e:p.1=k
  .have a:q.1=k:=h1.symm.trans e;have b:atKey Qkv k=some q.2:=by simp[atKey,p5,a]
   rw[qw e,b];exact h2
  .have a:¬ q.1=k:=λz=>e Qnm;have b:atKey Qkv k=atKey qs k:=by simp[atKey,p5,a]
   rw[nL e,b];exact c
variable{y:V}
theorem KT.n8(r:QkD)(k:CU)(a:QbX) :
  KT H Qqw (xs.map (putAt k u)):=by
 induction r with
 | nil=>exact .nil
 | @cons p q ps qs h t b=>
  rw[lx,lx];refine .cons ?_ b;obtain⟨h1,h2,c⟩:=h;unfold putAt;by_cases e:p.1=k
  .rw[cq e,cq QvP];exact#[h1,h2,a]
  .rw[bW e,bW Qye];exact#[h1,h2,c]
theorem KT.put(r:QkD)(k:CU){b:Addr}(c:QoI)(a:QbX) :
  KT H (putK kvs k y) (storedH xs k b u):=by
 have e:Qey=(atKey xs k).isSome:=by
  rw[DZ,(r.val k).qx,Option.isSome_map]
 unfold putK storedH;rw[e];by_cases q:(atKey xs k).isSome=true
 .rw[cq q,cq q];exact r.n8 k a
 .rw[bW q,bW q];exact Paired.snoc r #[rfl,c,a]
theorem KT.keeps(r:QkD)(a:∀b ys,H b=some Qj9->H' b=some Qj9):KT H' kvs xs:=
 Paired.KA r λ_ _ z=>#[z.1,a _ _ z.2.1,z.2.2]
variable{h:Heap}
noncomputable def N1{u:HO}(ok:QbG)(e:Rd H a u):fK P w H h a u:=e.ok ok
def Iv{kvs:Cl}(ok:QbG)(e:Rd H a QbE):kvs.length<=sizeLine/\Qcr=false/\∃vs,KV kvs vs/\h.DictOf Qdg a vs:=
 show fK P w H h a QbE from N1 ok e
def Pm{kvs:Cl}(ok:QbG)(e:QoJ):kvs.length<=sizeLine/\Qcr=false/\∃vs,KV kvs vs/\h.DictOf Qdg a vs:=Iv ok Qkh
theorem A2{ks:CU}(ok:QbG)(e:H a=some Qp3):(tupleKind Qdg).is h ks a:=by
 obtain⟨_,its,r,o,h1,h2,n,b⟩:=(show fK P w H h a Qp3 from ok a _ e);exact#[o,its.toArray,n,h1,h2,b,by simpa using A1 r]
def Cj(ok:QbG)(e:∃en,Rd H a Qfd):kvs.length<=sizeLine/\Qcr=false ∧
  ∃xs,KT H kvs xs/\h.DictOfH Qm0 a xs:=by
 obtain⟨z,y,xs,r,o,es,ep,h1,h2,i,g,f⟩:=(show fK P w H h a (.dT kvs e.choose) from N1 ok e.choose_spec);refine#[z,y,xs,r,o,es,ep,h1,h2,i,g,λx b=>?_,f.1];have all:∀{l:B2} {m:List Qgk},KT H l m->∀x∈m,(tupleKind Qdg).is h x.1 x.2.1:=by
  intro l m q
  induction q with
  | nil=>intro x b;exact nomatch b
  | @cons p q ps qs c t d=>
   intro x b;obtain e|b:=fL.1 b
   .subst e;exact A2 ok (by rw[<- c.1];exact c.2.1)
   .exact d x b
 exact all r x b
def ap4{en:Nat}(ok:QbG)(e:H a=some Qfd):kvs.length<=sizeLine/\Qcr=false ∧
  ∃xs,KT H kvs xs/\h.DictOfH Qm0 a xs:=Cj ok #[_,.inl e]
def xD(H:Hp)(a:Addr)(y:V)(r:Qen):Prop:=
 (∃kvs k,Rd H a QbE/\y=kV k/\r=ji kvs k)\/∃kvs k b,(∃en,Rd H a Qfd)/\y=.ref b/\H b=some Qir/\r=ji kvs k
def N2(H:Hp)(a:Addr)(y v:V)(H':Nat->Hp):Prop:=
 (∃kvs k,H a=some QbE/\y=kV k/\kvs.length<sizeLine/\H'=λ_=>upd H a (.dK QmM)) ∨
 ∃kvs k b,(∃en,H a=some Qfd)/\y=.ref b/\H b=some Qir/\kvs.length<sizeLine/\H'=λen=>upd H a Qyy
theorem xD.k{kvs:Cl}{k:Key}(e:QoJ):xD H a (kV k) Qj4:=.inl #[kvs,k,.inl e,rfl,rfl]
theorem N2.k{kvs:Cl}{k:Key}{v:V}(e:QoJ)(hl:Qwp):N2 H a (kV k) v (λ_=>upd H a (.dK QmM)):=.inl #[kvs,k,e,rfl,hl,rfl]
theorem N2.t{b:Addr}{en:Nat}{k:CU}{v:V}(e:H a=some Qfd)(c:QoI)(hl:Qwp) :
  N2 H a Qg1 v (λen=>upd H a Qyy):=.inr #[kvs,k,b,#[_,e],rfl,c,hl,rfl]
variable{pins:BC}{Y:St}{s:Qb}{v:V}{r:Value}{o:Qen}{A:Qav}{E:BN}
theorem Inv.big(I:QE):sysModules<s.heap.objs.size:=by
 have h:mainGlobals<s.heap.objs.size:=(I.mod.glob.keeps I.bk).lt;exact Nat.lt_trans Wl h
variable{Q:BN}
def XR(m:Qhk)(I:QE)(g:xD H a y Qbc)(j:QbX)(h:∀c s',Inv X pins Y H s'->RelV v c->Q c s') :
  wpAny Qr A (getItem Qag u) Q E s:=by
 obtain⟨kvs,k,e,f,l⟩|⟨kvs,k,b,e,f,q,l⟩:=g
 .subst f;obtain⟨z,hd,vs,rel,dd⟩:=Iv I.cV e;obtain⟨c,hw,i⟩:=tH.some_of (v:=v) (o:=valueAt vs k) (by rw[l];exact rel.val k);exact wpAny_getItem_of (NZ j) dd.mapOf hw (h c _ Qdh i)
 .subst f;cases (show u=Value.ref b from j);obtain⟨z,hd,xs,rel,dd⟩:=Cj I.cV e;obtain⟨c,hw,i⟩:=tH.some_of (v:=v) (o:=(atKey xs k).map (·.2)) (by rw[l];exact rel.val k);obtain⟨p,n,d⟩:=nq.1 hw;refine wpAny_getItem_heap (zd m) (A2 I.cV q) dd n ?_;rw[d];exact h c _ Qdh i
def atm(f:Qhk)(I:QE)(g:QpT)(d:QbX)(h:∀s',Inv X pins Y H s'->Q (.bool o.isSome) s') :
  wpAny Qr A (compareOp .In u Qag) Q E s:=by
 obtain⟨kvs,k,e,c,l⟩|⟨kvs,k,b,e,c,i,l⟩:=g
 .subst c;obtain⟨z,hd,vs,rel,dd⟩:=Iv I.cV e;refine wpAny_in_of (NZ d) hd dd.mapOf ?_;rw[<- (rel.val k).qx,<- l];exact h _ Qdh
 .subst c;cases (show u=Value.ref b from d);obtain⟨z,hd,xs,rel,dd⟩:=Cj I.cV e;refine wpAny_in_heap (zd f) (A2 I.cV i) hd dd ?_;have q:=(rel.val k).qx;rw[Option.isSome_map]at q;rw[<- q,<- l];exact h _ Qdh
def afv(f:Qhk)(I:QE)(g:QpT)(d:QbX)(h:∀s',Inv X pins Y H s'->Q (.bool (!o.isSome)) s') :
  wpAny Qr A (compareOp .NotIn u Qag) Q E s:=by
 obtain⟨kvs,k,e,c,l⟩|⟨kvs,k,b,e,c,i,l⟩:=g
 .subst c;obtain⟨z,hd,vs,rel,dd⟩:=Iv I.cV e;refine wpAny_notIn_of (NZ d) hd dd.mapOf ?_;rw[<- (rel.val k).qx,<- l];exact h _ Qdh
 .subst c;cases (show u=Value.ref b from d);obtain⟨z,hd,xs,rel,dd⟩:=Cj I.cV e;refine wpAny_notIn_heap (zd f) (A2 I.cV i) hd dd ?_;have q:=(rel.val k).qx;rw[Option.isSome_map]at q;rw[<- q,<- l];exact h _ Qdh
noncomputable def JR{h':Heap}{t':Nat}{c:HO}(I:QE)(d:z4 (H a))(hs:Heap.SameBut a s.heap h')(he:∃q,h'.get? a=some q)(new:fK X.prog X.w (upd H a c) h' a c) :
  Inv X pins Y (upd H a c) {s with heap:=h',toks:=t'}:=
 I.write (x:=a) (e:=a) d Qaj (λb q f z=>(hs.2 b f).trans z) he new
noncomputable def X2{h':Heap}{kvs:Cl}{vs:Qvo}(z:kvs.length<=sizeLine)(hd:Qcr=false)(rel:Qdq)(dd:h'.DictOf Qdg a vs) :
  fK P w H' h' a QbE:=#[z,hd,vs,rel,dd]
theorem XS{H':Nat->Hp}{Q:Qmw}(t:Qhk)(I:QE)(g:N2 H a y v H')(m:QbX)(n:RelV v r)(h:∀en s',Inv X pins Y (H' en) s'->Q () s') :
  wpAny Qr A (setItem Qag u r) Q E s:=by
 obtain⟨kvs,k,e,i,l,j⟩|⟨kvs,k,b,e,i,p,l,j⟩:=g
 .subst i j;obtain⟨z,hd,vs,rel,dd⟩:=Pm I.cV e;have hz:vs.length<=sizeLine:=by rw[<- rel.length];exact z
  have hl:(putK kvs k v).length<=sizeLine:=by have:=Ci kvs k v;lia
  refine wpAny_setItem_pairs (hsz:=hz) (NZ m) dd λh' d hs=>h 0 _ ?_;have he:∃q,h'.get? a=some q:=let ⟨q,_,_,f,_⟩:=d;#[q,f];exact JR I (by rw[e];exact True.intro) hs he (X2 hl hd (rel.put k n) d)
 .subst i j;cases (show u=Value.ref b from m);obtain⟨en,e⟩:=e;obtain⟨z,hd,xs,rel,dd⟩:=ap4 I.cV e;have hz:xs.length<=sizeLine:=by rw[<- u6 rel];exact z
  have hl:(putK kvs k v).length<=sizeLine:=by have:=Ci kvs k v;lia
  refine wpAny_setItem_heap (hsz:=hz) (zd t) (A2 I.cV p) dd λh' d hs=>?_;obtain⟨q,es,ep,f,h2,C,B,_,x⟩:=d;refine h ep _ ?_;refine JR I (by rw[e];exact True.intro) hs #[q,f] #[hl,hd,_,(rel.put k p n).keeps λc ys o=>?_,q,es,ep,f,h2,C,B,x,rfl];rw[ay (apn o e (λz=>nomatch z))];exact o
def N3(i:Expr):Prop:=∀a b,subscripted i false a b=operate [a,b] (getItem a b)
def JS{prog:Qat}{env:Env}{value slice:Expr}{pos:Pos}{T id:Qbi}
  (hl:typeLookup Qj8 "__getitem__" = pure (some QeW)) (hs:N3 slice)
  (h:wpAny Qay A (eval value env) (λo d=>wpAny Qay A (eval slice env) (λi a=>a.TypeIs o T/\wpAny Qay A (getItem o i) Q E a) E d) E s) :
  wpAny Qay A (eval (.Subscript value slice pos) env) Q E s:=by
 refine Subscript_ (me h (λo d f=>me f (λi a b=>?_) λ_ _ x=>x) λ_ _ x=>x);obtain⟨g,b⟩:=b;unfold subscriptTail;refine ec ?_;rw[getitemInPython_of_ne g.not_modules];refine ec (uk g hl ?_);have fin:wpAny Qay A (subscripted slice false o i) (λr c=>wpAny Qay A (letTemporaryGo value o r >>= λ_=>pure r) Q E c) E a:=by
  rw[hs o i];exact wpAny_operating (me b (λr c e=>ec (wpAny_letTemporaryGo (j3 e))) λ_ _ x=>x)
 first
  | exact j3 (ec fin)
  | exact ec (j3 (ec fin))
  | exact ec fin
def N4(I:QE)(g:QpT):s.TypeIs Qag "dict":=by
 obtain⟨kvs,k,e,_,_⟩|⟨kvs,k,b,e,_,_,_⟩:=g
 .obtain⟨_,_,vs,_,dd⟩:=Iv I.cV e;exact dd.typeIs
 .obtain⟨_,_,xs,_,dd⟩:=Cj I.cV e;exact dd.typeIs
noncomputable def ap5(td ty:TE):TE:=λY H Q=>td Y H λx H1=>ty Y H1 λy H2=>∃a v,x=.ref a/\xD H2 a y Qbc/\Q v H2
noncomputable def atn(ty td:TE):TE:=λY H Q=>ty Y H λy H1=>td Y H1 λx H2=>∃a o,x=.ref a/\xD H2 a y o/\Q (.bl o.isSome) H2
noncomputable def afx(ty td:TE):TE:=λY H Q=>ty Y H λy H1=>td Y H1 λx H2=>∃a o,x=.ref a/\xD H2 a y o/\Q (.bl (!o.isSome)) H2
noncomputable def ap6(td ty tv:TE):TS:=λD Y H=>tv Y H λv H1=>td Y H1 λx H2=>ty Y H2 λy c=>∃a b,x=.ref a/\N2 c a y v b/\∀en,D.nx Y (b en)
variable{o i value:Expr}{pos pos':Pos}{td ty tv:TE}
def Vq(f:Qhl)(j:Qdu)(hi:Qdv)(hs:N3 i):PE X Qgn (ap5 td ty):=by
 intro pins s Y H Q I h;refine JS Na.lookup hs (d9 (j pins s Y H _ I h) λu s1 zz=>?_);obtain⟨x,H1,m,d,q1⟩:=zz;refine d9 (hi pins s1 Y H1 _ m q1) λp s2 zz=>?_;obtain⟨y,H2,b,c,a,v,ex,g,e⟩:=zz;subst ex;obtain rfl:u=Value.ref a:=d;exact#[N4 b g,XR f b g c λn s3 l k=>#[v,H2,l,k,e]]
def ald(f:Qhl)(hi:Qdv)(j:Qdu):PC X .In i o (atn ty td):=by
 intro pins s Y H Q I h;refine d9 QiL λn s1 zz=>?_;obtain⟨y,H1,m,b,q1⟩:=zz;refine d9 Qmd λu s2 zz=>?_;obtain⟨x,H2,l,c,a,e,ex,g,d⟩:=zz;subst ex;obtain rfl:u=Value.ref a:=c;exact atm f l g b λs3 k=>#[.bl e.isSome,H2,k,rfl,d]
def XT(f:Qhl)(hi:Qdv)(j:Qdu):PC X .NotIn i o (afx ty td):=by
 intro pins s Y H Q I h;refine d9 QiL λn s1 zz=>?_;obtain⟨y,H1,m,b,q1⟩:=zz;refine d9 Qmd λu s2 zz=>?_;obtain⟨x,H2,l,c,a,e,ex,g,d⟩:=zz;subst ex;obtain rfl:u=Value.ref a:=c;exact afv f l g b λs3 k=>#[.bl (!e.isSome),H2,k,rfl,d]
def Vr(j:Qhl)(k:Qdu)(hi:Qdv)(hv:QjD)(hs:Qqs) :
  PS X Qrr (ap6 td ty tv):=by
 intro pins s Y H D I h;refine wpAny_Assign_Subscript (d9 Qmu λr s1 zz=>?_) hs;obtain⟨v,H1,p,d,q1⟩:=zz;refine d9 (k pins s1 Y H1 _ p q1) λu s2 zz=>?_;obtain⟨x,H2,n,c,f⟩:=zz;refine d9 (hi pins s2 Y H2 _ n f) λt s3 zz=>?_;obtain⟨y,w,m,b,a,q,ex,g,e⟩:=zz;subst ex;obtain rfl:u=Value.ref a:=c;exact XS j m g b d λen s4 l=>#[Y,q en,l,e en]
noncomputable def aaM(h:Heap)(a:Qmv):fK P w H (h.push {cls:=.type "dict",data:=.dict #[]}) h.objs.size (.dK []):=
 #[kx _,pw.2 QoT,[],.nil,Heap.DictOf.new h]
noncomputable def aaN(h:Heap)(a:Qmv):fK P w H (h.push {cls:=.type "dict",data:=.dict #[]}) h.objs.size (.dT [] 0):=
 #[kx _,pw.2 QoT,[],.nil,_,#[],0,mf _ rfl,#[rfl,rfl,rfl],rfl,rfl,oy,rfl]
def ale:TE:=λ_ H Q=>∀p,H p=none->Q QbU Qi2
def alf:TE:=λ_ H Q=>∀p,H p=none->Q QbU QiQ
def aaO:PE X QeX ale:=λpins s Y H Q I h=>
 wpAny_Dict_empty #[.ref s.heap.objs.size,_,I.laid (a:=s.heap.objs.size) (o:=.dK []) (t':=s.toks) QiP (js _) (aaM s.heap I.big),rfl,h _ Qc8]
def aaP:PE X QeX alf:=λpins s Y H Q I h=>
 wpAny_Dict_empty #[.ref s.heap.objs.size,_,I.laid (a:=s.heap.objs.size) (o:=.dT [] 0) (t':=s.toks) QiP (js _) (aaN s.heap I.big),rfl,h _ Qc8]
variable{kvs:Cl}
def aaQ(I:QE)(e:Rd H a QbE)(h:∀p s',H p=none->Inv X pins Y QwP s'->Q QbU s'):wpAny Qr A (call QnR [.ref a]) Q E s:=by
 obtain⟨z,hd,vs,rel,dd⟩:=Iv I.cV e;refine kt_call_dict hd dd (by rw[<- rel.length];exact z) λh' c hs=>?_;refine h _ _ Qc8 (I.laid (a:=s.heap.objs.size) (o:=.dK kvs) (t':=s.toks) (λb q d=>?_) (js _) (X2 z (pw.2 (nf (l1 I.big))) rel c));exact(hs.2 b (l1 (kr d))).trans (lr _ d)
end L2
namespace L3
open PySem PySem.Spec PyProof.Rows L2
inductive D where
 | non|bl (b:Bool)|int (i:Int)|str (x:Str)
 | tup (ds:List D)|lst (ds:List D)|ins (c:Str) (fs:List (Str×D))|kT (kvs:List Qpa)
 | dct (kvs:List (CU×D))
 | any
 | val (v:V)
 | lH (w:World) (ds es:List D)
abbrev _root_.At:=List D
abbrev _root_.CS:=List (Key×D)
inductive T where
 | sh (d:D)|tup (ts:List T)|lst (ts:List T)|ins (c:Str) (fs:List (Str×T))|kT (kvs:CS)|dct (kvs:List (CU×T))
 | pin (x:Addr) (t:T)
 | lH (w:World) (ds es:At)
abbrev _root_.BS:=List (Str×T)
abbrev _root_.Bz:=List T
abbrev _root_.CC:=List (CU×T)
abbrev _root_.Dx:=List (CU×D)
abbrev _root_.EQ:=List (Str×D)
mutual
def T.fC:T->D
 | .sh d=>d
 | .tup ts=>.tup (dB ts)
 | .lst ts=>.lst (dB ts)
 | .ins c fs=>.ins c (tL fs)
 | .kT kvs=>.kT kvs
 | .dct kvs=>.dct (XU kvs)
 | .pin _ t=>t.fC
 | .lH w ds es=>.lH w ds es
def T.dB:Bz->At
 | []=>[]
 | t::ts=>t.fC::T.dB ts
def T.tL:BS->EQ
 | []=>[]
 | (x,t)::fs=>(x,t.fC)::T.tL fs
def T.XU:CC->Dx
 | []=>[]
 | (x,t)::fs=>(x,t.fC)::T.XU fs
end
mutual
def D.xC(w:World):D->Int
 | .int i=>hashInt i
 | .str x => hashStr w x
 | .tup ds=>reduceHash (Builtin.Tuple.tupleHashOf (D.JT w ds))
 | _=>0
def D.JT(w:World):At->AT
 | []=>[]
 | d::ds=>d.xC w::D.JT w ds
end
abbrev _root_.ES:=List (D×Addr×Value)
def JV(w:World)(a:Addr)(ds:At)(vs us:B0)(h:Heap):Prop:=
 Qcr=false/\∃(xs:ES) (o:Obj) (es:Qn1) (ep:Nat),h.get? a=some o/\o.ExactDict/\o.data=.dict es ep/\es.toList=xs.map (λx=>#[x.1.xC w,.ref x.2.1,x.2.2])/\xs.map (·.1)=ds/\xs.map Qmm=vs/\Vals us QiG
abbrev _root_.BM:=Str->Addr
variable(K:Frag)(CL:BM)
mutual
inductive bL(Z:Hp):D->V->Prop where
 | non:bL Z .non .non
 | bl (b:Bool):bL Z Qei Qei
 | int (i:Int):bL Z Qa7 Qa7
 | str (x:Str):bL Z Qbl Qbl
 | any (v:V):bL Z .any v
 | val (v:V):bL Z QgU v
 | tup {a:Addr} {vs:B0} {ds:At}:tP K Z a vs->aB Z ds vs->bL Z Qd8 Qag
 | lst {a:Addr} {vs:B0} {ds:At}:nF K Z a vs->aB Z ds vs->bL Z Qcq Qag
 | ins {a dx:Addr} {c:Str} {gs:CA} {fs:EQ}:Z a=some QeT->mQ Z fs gs->bL Z Qa3 Qag
 | kT {a:Addr} {gs:Cl} {fs:CS}:Z a=some (.dK gs)->cB Z fs gs->bL Z (.kT fs) Qag
 | dct {a:Addr} {gs:B2} {fs:Dx} {en:Nat}:Rd Z a QbD->gV Z fs gs->bL Z (.dct fs) Qag
 | lH {a:Addr} {w:World} {vs us:B0} {ds es:At}:Z a=some QlZ->aB Z ds vs->aB Z es us->bL Z QgK Qag
inductive aB(Z:Hp):At->B0->Prop where
 | nil:aB Z [] []
 | cons {d:D} {v:V} {ds:At} {vs:B0}:bL Z d v->aB Z ds vs->aB Z Qkw QaY
inductive mQ(Z:Hp):EQ->CA->Prop where
 | nil:mQ Z [] []
 | cons {x:Str} {d:D} {v:V} {ds:EQ} {vs:CA}:bL Z d v->mQ Z ds vs->mQ Z ((x,d)::ds) ((x,v)::vs)
inductive cB(Z:Hp):CS->Cl->Prop where
 | nil:cB Z [] []
 | cons {x:Key} {d:D} {v:V} {ds:CS} {vs:Cl}:bL Z d v->cB Z ds vs->cB Z ((x,d)::ds) ((x,v)::vs)
inductive gV(Z:Hp):Dx->B2->Prop where
 | nil:gV Z [] []
 | cons {x:CU} {d:D} {v:V} {ds:Dx} {vs:B2}:bL Z d v->gV Z ds vs->gV Z ((x,d)::ds) ((x,v)::vs)
end
mutual
inductive bO(H Z:Hp):T->V->BY->Prop where
 | sh {d:D} {v:V}:bL K CL Z d v->bO H Z Qbb v []
 | tup {a:Addr} {vs:B0} {ts:Bz} {fp:BY}:Z a=some (.tup vs)->aU H Z ts vs fp->bO H Z (.tup ts) Qag fp
 | lst {a:Addr} {vs:B0} {ts:Bz} {fp:BY}:H a=some (.lst vs)->aU H Z ts vs fp->bO H Z (.lst ts) Qag (a::fp)
 | ins {a dx:Addr} {c:Str} {gs:CA} {fs:BS} {fp:BY}:H a=some QeT->cS H Z fs gs fp->bO H Z Qa3 Qag (a::fp)
 | kT {a:Addr} {gs:Cl} {kvs:CS}:H a=some (.dK gs)->cB K CL Z kvs gs->bO H Z Qdi Qag [a]
 | dct {a:Addr} {gs:B2} {kvs:CC} {fp:BY} {en:Nat}:H a=some QbD->dH H Z kvs gs fp->bO H Z Qd2 Qag (a::fp)
 | pin {x:Addr} {t:T} {fp:BY}:bO H Z t Qdj fp->bO H Z (.pin x t) Qdj fp
 | lH {a:Addr} {w:World} {vs us:B0} {ds es:At}:H a=some QlZ->aB K CL Z ds vs->aB K CL Z es us->bO H Z QgK Qag [a]
inductive aU(H Z:Hp):Bz->B0->BY->Prop where
 | nil:aU H Z [] [] []
 | cons {t:T} {v:V} {ts:Bz} {vs:B0} {fp gp:BY}:bO H Z t v fp->aU H Z ts vs gp->aU H Z Qcb QaY Qed
inductive cS(H Z:Hp):BS->CA->BY->Prop where
 | nil:cS H Z [] [] []
 | cons {x:Str} {t:T} {v:V} {ts:BS} {vs:CA} {fp gp:BY}:bO H Z t v fp->cS H Z ts vs gp->cS H Z ((x,t)::ts) ((x,v)::vs) Qed
inductive dH(H Z:Hp):CC->B2->BY->Prop where
 | nil:dH H Z [] [] []
 | cons {x:CU} {t:T} {v:V} {ts:CC} {vs:B2} {fp gp:BY}:bO H Z t v fp->dH H Z ts vs gp->dH H Z ((x,t)::ts) ((x,v)::vs) Qed
end
abbrev _root_.BB:=List (Option T)
inductive gu(H Z:Hp):BB->L2.St->BY->Prop where
 | nil:gu H Z [] [] []
 | skip {o:Qen} {U:BB} {Y:L2.St} {fp:BY}:gu H Z U Y fp->gu H Z (none::U) (o::Y) fp
 | cons {t:T} {v:V} {U:BB} {Y:L2.St} {fp gp:BY}:bO K CL H Z t v fp->gu H Z U Y gp->gu H Z (some t::U) (some v::Y) Qed
variable{K:Frag}{CL:BM}{H H':Hp}{a:Addr}
theorem Rd.mono{u:HO}(e:QcX)(h:Rd H a u):Rd H' a u:=h.imp (e _ _) λ⟨o,q⟩=>#[o,e _ _ q]
variable{xs:B0}
theorem aC.N5(e:QcX)(h:tP K H a xs):tP K H' a xs:=by
 rcases h with(h|⟨o,h⟩)|h
 .exact .inl (.inl QdF)
 .exact .inl QtJ
 .exact .inr h
variable{Z Z':Hp}{v:V}
theorem bL.mono(e:QbY){d:D}(h:Qdw):bL K CL Z' d v:=
 bL.rec
  .non .bl .int .str .any .val Qf5 Qf7 Qge Qgf Qf4 Qf8 .nil QaO .nil QaO .nil QaO .nil QaO h
theorem aB.mono(e:QbY){d:At}{v:B0}(h:aB K CL Z d v):aB K CL Z' d v:=
 aB.rec
  .non .bl .int .str .any .val Qf5 Qf7 Qge Qgf Qf4 Qf8 .nil QaO .nil QaO .nil QaO .nil QaO h
theorem mQ.mono(e:QbY){d:EQ}{v:CA}(h:mQ K CL Z d v):mQ K CL Z' d v:=
 mQ.rec
  .non .bl .int .str .any .val Qf5 Qf7 Qge Qgf Qf4 Qf8 .nil QaO .nil QaO .nil QaO .nil QaO h
theorem cB.mono(e:QbY){d:CS}{v:Cl}(h:cB K CL Z d v):cB K CL Z' d v:=
 cB.rec
  .non .bl .int .str .any .val Qf5 Qf7 Qge Qgf Qf4 Qf8 .nil QaO .nil QaO .nil QaO .nil QaO h
theorem gV.mono(e:QbY){d:Dx}{v:B2}(h:gV K CL Z d v):gV K CL Z' d v:=
 gV.rec (motive_1:=λd v _=>bL K CL Z' d v) (motive_2:=λd v _=>aB K CL Z' d v) (motive_3:=λd v _=>mQ K CL Z' d v) (motive_4:=λd v _=>cB K CL Z' d v) (motive_5:=λd v _=>gV K CL Z' d v)
  .non .bl .int .str .any .val Qf5 Qf7 Qge Qgf Qf4 Qf8 .nil QaO .nil QaO .nil QaO .nil QaO h
variable{t:T}{fp:BY}
theorem bO.mono(e:QbY)(k:∀a∈fp,H' a=H a)(h:Qhm):bO K CL H' Z' t v fp:=
 bO.rec (motive_2:=λt v fp _=>(∀a∈fp,H' a=H a)->aU K CL H' Z' t v fp) (motive_3:=λt v fp _=>(∀a∈fp,H' a=H a)->cS K CL H' Z' t v fp) (motive_4:=λt v fp _=>(∀a∈fp,H' a=H a)->dH K CL H' Z' t v fp)
  (λh _=>.sh Qj1) Qh8 QhR QhS QhO QhT QiA QhK Qa1 QbJ Qa1 QbJ Qa1 QbJ h k
theorem aU.mono(e:QbY){t:Bz}{v:B0}(k:∀a∈fp,H' a=H a)(h:QwQ):aU K CL H' Z' t v fp:=
 aU.rec (motive_1:=λt v fp _=>(∀a∈fp,H' a=H a)->bO K CL H' Z' t v fp) (motive_3:=λt v fp _=>(∀a∈fp,H' a=H a)->cS K CL H' Z' t v fp) (motive_4:=λt v fp _=>(∀a∈fp,H' a=H a)->dH K CL H' Z' t v fp)
  (λh _=>.sh Qj1) Qh8 QhR QhS QhO QhT QiA QhK Qa1 QbJ Qa1 QbJ Qa1 QbJ h k
theorem cS.mono(e:QbY){t:BS}{v:CA}(k:∀a∈fp,H' a=H a)(h:QwR):cS K CL H' Z' t v fp:=
 cS.rec (motive_1:=λt v fp _=>(∀a∈fp,H' a=H a)->bO K CL H' Z' t v fp) (motive_2:=λt v fp _=>(∀a∈fp,H' a=H a)->aU K CL H' Z' t v fp) (motive_4:=λt v fp _=>(∀a∈fp,H' a=H a)->dH K CL H' Z' t v fp)
  (λh _=>.sh Qj1) Qh8 QhR QhS QhO QhT QiA QhK Qa1 QbJ Qa1 QbJ Qa1 QbJ h k
theorem dH.mono(e:QbY){t:CC}{v:B2}(k:∀a∈fp,H' a=H a)(h:QwS):dH K CL H' Z' t v fp:=
 dH.rec (motive_1:=λt v fp _=>(∀a∈fp,H' a=H a)->bO K CL H' Z' t v fp) (motive_2:=λt v fp _=>(∀a∈fp,H' a=H a)->aU K CL H' Z' t v fp) (motive_3:=λt v fp _=>(∀a∈fp,H' a=H a)->cS K CL H' Z' t v fp)
  (λh _=>.sh Qj1) Qh8 QhR QhS QhO QhT QiA QhK Qa1 QbJ Qa1 QbJ Qa1 QbJ h k
theorem bO.there(h:Qhm):∀a∈fp,∃o,H a=some o:=
 bO.rec (motive_3:=λt v fp _=>∀a∈fp,∃o,H a=some o) (motive_4:=λt v fp _=>∀a∈fp,∃o,H a=some o)
  (λ_ a b=>absurd b lL) Qjh (λh _ r a b=>(fL.1 b).elim (λq=>#[_,q▸h]) (r a)) (λh _ r a b=>(fL.1 b).elim (λq=>#[_,q▸h]) (r a)) (λh _ a b=>(fL.1 b).elim (λq=>#[_,q▸h]) Qc7) (λh _ r a b=>(fL.1 b).elim (λq=>#[_,q▸h]) (r a)) Qjq (λh _ _ a b=>(fL.1 b).elim (λq=>#[_,q▸h]) Qc7) QbM QbK QbM QbK QbM QbK h
theorem aU.there{t:Bz}{v:B0}(h:QwQ):∀a∈fp,∃o,H a=some o:=
 aU.rec (motive_1:=λt v fp _=>∀a∈fp,∃o,H a=some o) (motive_3:=λt v fp _=>∀a∈fp,∃o,H a=some o) (motive_4:=λt v fp _=>∀a∈fp,∃o,H a=some o)
  (λ_ a b=>absurd b lL) Qjh (λh _ r a b=>(fL.1 b).elim (λq=>#[_,q▸h]) (r a)) (λh _ r a b=>(fL.1 b).elim (λq=>#[_,q▸h]) (r a)) (λh _ a b=>(fL.1 b).elim (λq=>#[_,q▸h]) Qc7) (λh _ r a b=>(fL.1 b).elim (λq=>#[_,q▸h]) (r a)) Qjq (λh _ _ a b=>(fL.1 b).elim (λq=>#[_,q▸h]) Qc7) QbM QbK QbM QbK QbM QbK h
theorem cS.there{t:BS}{v:CA}(h:QwR):∀a∈fp,∃o,H a=some o:=
 cS.rec (motive_1:=λt v fp _=>∀a∈fp,∃o,H a=some o) (motive_2:=λt v fp _=>∀a∈fp,∃o,H a=some o) (motive_3:=λt v fp _=>∀a∈fp,∃o,H a=some o) (motive_4:=λt v fp _=>∀a∈fp,∃o,H a=some o)
  (λ_ a b=>absurd b lL) Qjh (λh _ r a b=>(fL.1 b).elim (λq=>#[_,q▸h]) (r a)) (λh _ r a b=>(fL.1 b).elim (λq=>#[_,q▸h]) (r a)) (λh _ a b=>(fL.1 b).elim (λq=>#[_,q▸h]) Qc7) (λh _ r a b=>(fL.1 b).elim (λq=>#[_,q▸h]) (r a)) Qjq (λh _ _ a b=>(fL.1 b).elim (λq=>#[_,q▸h]) Qc7) QbM QbK QbM QbK QbM QbK h
theorem dH.there{t:CC}{v:B2}(h:QwS):∀a∈fp,∃o,H a=some o:=
 dH.rec (motive_1:=λt v fp _=>∀a∈fp,∃o,H a=some o) (motive_2:=λt v fp _=>∀a∈fp,∃o,H a=some o) (motive_3:=λt v fp _=>∀a∈fp,∃o,H a=some o) (motive_4:=λt v fp _=>∀a∈fp,∃o,H a=some o)
  (λ_ a b=>absurd b lL) Qjh (λh _ r a b=>(fL.1 b).elim (λq=>#[_,q▸h]) (r a)) (λh _ r a b=>(fL.1 b).elim (λq=>#[_,q▸h]) (r a)) (λh _ a b=>(fL.1 b).elim (λq=>#[_,q▸h]) Qc7) (λh _ r a b=>(fL.1 b).elim (λq=>#[_,q▸h]) (r a)) Qjq (λh _ _ a b=>(fL.1 b).elim (λq=>#[_,q▸h]) Qc7) QbM QbK QbM QbK QbM QbK h
theorem bO.fC(e:QbY)(k:∀a∈fp,Z' a=H a)(h:Qhm):bL K CL Z' t.fC v:=
 bO.rec (motive_2:=λt v fp _=>(∀a∈fp,Z' a=H a)->aB K CL Z' _ v) (motive_3:=λt v fp _=>(∀a∈fp,Z' a=H a)->mQ K CL Z' _ v) (motive_4:=λt v fp _=>(∀a∈fp,Z' a=H a)->gV K CL Z' _ v)
  (λh _=>by exact h.mono e) (λh _ r k=>by exact .tup (tP.of QdF) (r k)) (λh _ r k=>by exact .lst (nF.of ((k _ iB).trans h)) Qev) (λh _ r k=>by exact .ins ((k _ iB).trans h) Qev) (λh f k=>by exact .kT ((k _ iB).trans h) (cB.mono e f)) (λh _ r k=>by exact .dct (.inl ((k _ iB).trans h)) Qev) (λ_ r k=>by rw[T.fC];exact r k) (λh f g k=>by exact .lH ((k _ iB).trans h) (aB.mono e f) (aB.mono e g)) (λ_=>by exact .nil) (λ_ _ h r k=>by rw[T.dB];exact .cons QlS QlT) (λ_=>by rw[T.tL];exact .nil) (λ_ _ h r k=>by exact .cons QlS QlT) (λ_=>by exact .nil) (λ_ _ h r k=>by rw[T.XU];exact .cons QlS QlT) h k
variable{vs:B0}
theorem aB.ind{P:At->B0->Prop}(n:P [] [])(c:∀{d:D} {v:V} {ds:At} {vs:B0},bL K CL Z d v->aB K CL Z ds vs->P ds vs->P Qkw QaY){ds:At}(h:QfO):P ds vs:=
 aB.rec (motive_1:=λ_ _ _=>True) (motive_3:=λ_ _ _=>True) (motive_4:=λ_ _ _=>True) (motive_5:=λ_ _ _=>True)
  trivial Qbk Qbk Qbk Qbk Qbk Qan Qan Qan Qan Qan Qiv n QeI trivial Qax trivial Qax trivial Qax h
theorem cB.ind{P:CS->Cl->Prop}(n:P [] [])(c:∀{x:Key} {d:D} {v:V} {ds:CS} {vs:Cl},bL K CL Z d v->cB K CL Z ds vs->P ds vs->P ((x,d)::ds) ((x,v)::vs)){ds:CS}{vs:Cl}(h:cB K CL Z ds vs):P ds vs:=
 cB.rec (motive_1:=λ_ _ _=>True) (motive_2:=λ_ _ _=>True) (motive_3:=λ_ _ _=>True) (motive_5:=λ_ _ _=>True)
  trivial Qbk Qbk Qbk Qbk Qbk Qan Qan Qan Qan Qan Qiv trivial Qax trivial Qax n QeI trivial Qax h
theorem gV.ind{P:Dx->B2->Prop}(n:P [] [])(c:∀{x:CU} {d:D} {v:V} {ds:Dx} {vs:B2},bL K CL Z d v->gV K CL Z ds vs->P ds vs->P ((x,d)::ds) ((x,v)::vs)){ds:Dx}{vs:B2}(h:gV K CL Z ds vs):P ds vs:=
 gV.rec (motive_1:=λ_ _ _=>True) (motive_2:=λ_ _ _=>True) (motive_3:=λ_ _ _=>True) (motive_4:=λ_ _ _=>True) (motive_5:=λd v _=>P d v)
  trivial Qbk Qbk Qbk Qbk Qbk Qan Qan Qan Qan Qan Qiv trivial Qax trivial Qax trivial Qax n QeI h
variable{ts:Bz}
theorem aU.ind{P:Bz->B0->BY->Prop}(n:QpU)(c:∀{t:T} {v:V} {ts:Bz} {vs:B0} {fp gp:BY},bO K CL H Z t v fp->aU K CL H Z ts vs gp->P ts vs gp->P Qcb QaY Qed)(h:aU K CL H Z ts vs fp):P ts vs fp:=
 aU.rec (motive_1:=λ_ _ _ _=>True) (motive_3:=λ_ _ _ _=>True) (motive_4:=λ_ _ _ _=>True)
  (λ_=>trivial) Qan Qan Qan Qc9 Qan Qc9 Qan n QeI trivial Qax trivial Qax h
theorem cS.ind{P:BS->CA->BY->Prop}(n:QpU)(c:∀{x:Str} {t:T} {v:V} {ts:BS} {vs:CA} {fp gp:BY},bO K CL H Z t v fp->cS K CL H Z ts vs gp->P ts vs gp->P ((x,t)::ts) ((x,v)::vs) Qed){ts:BS}{vs:CA}(h:cS K CL H Z ts vs fp):P ts vs fp:=
 cS.rec (motive_1:=λ_ _ _ _=>True) (motive_2:=λ_ _ _ _=>True) (motive_4:=λ_ _ _ _=>True)
  (λ_=>trivial) Qan Qan Qan Qc9 Qan Qc9 Qan trivial Qax n QeI trivial Qax h
theorem dH.ind{P:CC->B2->BY->Prop}(n:QpU)(c:∀{x:CU} {t:T} {v:V} {ts:CC} {vs:B2} {fp gp:BY},bO K CL H Z t v fp->dH K CL H Z ts vs gp->P ts vs gp->P ((x,t)::ts) ((x,v)::vs) Qed){ts:CC}{vs:B2}(h:dH K CL H Z ts vs fp):P ts vs fp:=
 dH.rec (motive_1:=λ_ _ _ _=>True) (motive_2:=λ_ _ _ _=>True) (motive_3:=λ_ _ _ _=>True)
  (λ_=>trivial) Qan Qan Qan Qc9 Qan Qc9 Qan trivial Qax trivial Qax n QeI h
theorem aB.length{d:At}{v:B0}(h:aB K CL Z d v):d.length=v.length:=
 aB.ind (P:=λd v=>d.length=v.length) rfl Qit h
theorem aU.length{d:Bz}{v:B0}(h:aU K CL H Z d v fp):d.length=v.length:=
 aU.ind (P:=λd v _=>d.length=v.length) rfl Qit h
theorem gu.length{d:BB}{v:L2.St}(h:gu K CL H Z d v fp):d.length=v.length:=by
 induction h with
 | nil=>rfl
 | skip _ i=>exact congrArg (· + 1) i
 | cons _ _ i=>exact congrArg (· + 1) i
theorem aB.get{Z:Hp}:∀{ds:At} {vs:B0} {i:Nat} {d:D},aB K CL Z ds vs->ds[i]? = some d->∃v,vs[i]? = some v/\bL K CL Z d v
 | _,_,_,_,.nil,e=>by simp at e
 | _,_,0,_,.cons r _,e=>by simp_all
 | _,_,i+1,d,.cons _ t,e=>by
  obtain⟨u,h1,h2⟩:=aB.get t (‹_›);exact#[u,‹_›,h2]
theorem aB.yn{Z:Hp}:∀{ds:At} {vs:B0} {i:Nat} {v:V},aB K CL Z ds vs->vs[i]? = some v->∃d,ds[i]? = some d/\bL K CL Z d v
 | _,_,_,_,.nil,e=>by simp at e
 | _,_,0,_,.cons r _,e=>by simp_all
 | _,_,i+1,d,.cons _ t,e=>by
  obtain⟨u,h1,h2⟩:=aB.yn t (‹_›);simp_all
theorem gu.get:∀{U:BB} {Y:L2.St} {fp:BY} {i:Nat} {t:T},gu K CL H Z U Y fp->U[i]? = some QaK →
  ∃v f1 f2 c,Y[i]? = some Qbc/\fp=f1++(f2++c)/\bO K CL H Z t v f2 ∧
   (∀{H' Z':Hp} {t':T} {v':V} {g:BY},aC Z Z'->(∀a∈f1++c,H' a=H a)->bO K CL H' Z' t' v' g->gu K CL H' Z' (U.set i (some t')) (Y.set i (some v')) (f1++(g++c))) ∧
   (∀{o:Qen},gu K CL H Z QdO (Y.set i o) (f1++c)):=by
 intro U Y fp i t h;have mono:∀{H H' Z Z':Hp} {U:BB} {Y:L2.St} {fp:BY},aC Z Z'->(∀a∈fp,H' a=H a)->gu K CL H Z U Y fp->gu K CL H' Z' U Y fp:=by
  intro H H' Z Z' U Y fp e k r
  induction r with
  | nil=>exact .nil
  | skip _ d=>exact .skip (d k)
  | cons r _ d=>exact .cons (r.mono e λa b=>k a (kq _ b)) (d λa b=>k a (jN _ b))
 induction h generalizing i with
 | nil=>intro e;simp at e
 | @skip o U Y fp r d=>
  cases i with
  | zero=>intro e;simp at e
  | succ i=>
   intro e;obtain⟨v,f1,f2,c,h1,h2,m,l,j⟩:=d (i:=i) (by simpa using e);exact#[v,f1,f2,c,by simpa using h1,h2,m,λe k q=>.skip (l e k q),.skip j]
 | @cons t0 v0 U Y fp gp f r d=>
  cases i with
  | zero=>
   intro e;simp at e;subst e;refine#[v0,[],fp,gp,rfl,rfl,f,λ{H' Z' t' v' g} e k q=>gu.cons (fp:=g) (gp:=gp) q (mono (fp:=gp) e (λa b=>k a (by simpa using b)) r),.skip (by simpa using r)]
  | succ i=>
   intro e;obtain⟨v,f1,f2,c,h1,h2,m,l,j⟩:=d (i:=i) (by simpa using e);refine#[v,fp++f1,f2,c,by simpa using h1,by rw[h2,List.append_assoc],m,λ{H' Z' t' v' g} e k q=>?_,λ{o}=>?_]
   .rw[ka];exact .cons (f.mono e λa b=>k a (by simp[b])) (l e (λa b=>k a (by rw[ka];exact jN _ b)) q)
   .rw[ka];exact .cons f j
variable{U:BB}{Y:L2.St}
theorem gu.mono(e:QbY)(k:∀a∈fp,H' a=H a)(r:Qnn):gu K CL H' Z' U Y fp:=by
 induction r with
 | nil=>exact .nil
 | skip _ b=>exact .skip (b k)
 | cons r _ b=>exact .cons (r.mono e λa c=>k a (kq _ c)) (b λa c=>k a (jN _ c))
theorem gu.there(r:Qnn):∀a∈fp,∃o,H a=some o:=by
 induction r with
 | nil=>intro a c;cases c
 | skip _ b=>exact b
 | cons r _ b=>exactλa c=>(i8.1 c).elim (r.there a) (b a)
theorem gu.put(r:Qnn){g:BY}(q:QxF) :
  ∀{i:Nat},i<U.length->∃f,gu K CL H Z Qnw QeY f/\∃a,a.Sublist fp/\f.Perm (g++a):=by
 induction r with
 | nil=>intro i hi;simp at hi
 | @skip o U Y fp r b=>
  intro i hi;cases i with
  | zero=>exact#[ _,.cons q r,fp,n3 _,List.Perm.refl _]
  | succ i=>
   obtain⟨f,h1,a,h2,c⟩:=b (by simpa using hi);exact#[f,.skip h1,a,h2,c]
 | @cons t0 v0 U Y fp gp d r b=>
  intro i hi;cases i with
  | zero=>exact#[ _,.cons q r,gp,xc _ _,List.Perm.refl _]
  | succ i=>
   obtain⟨f,h1,a,h2,c⟩:=b (by simpa using hi);refine#[ _,.cons d h1,_,pv (n3 _) h2,?_];refine(pE fp c).trans ?_;rw[<- ka,<- ka];exact List.Perm.append_right a nh
theorem bL.iM{ds:At}(h:bL K CL Z Qcq v):∃a vs,v=.ref a/\nF K Z a vs/\aB K CL Z ds vs:=by cases h with|lst p q=>exact#[_,_,rfl,p,q]
theorem bL.qy{ds:At}(h:bL K CL Z Qd8 v):∃a vs,v=.ref a/\tP K Z a vs/\aB K CL Z ds vs:=by cases h with|tup p q=>exact#[_,_,rfl,p,q]
variable{c:Str}
theorem bL.D0{fs:EQ}(h:bL K CL Z Qa3 v):∃a dx gs,v=.ref a/\Z a=some QeT/\mQ K CL Z fs gs:=by cases h with|ins p q=>exact#[_,_,_,rfl,p,q]
theorem bO.Gz{d:D}(h:bO K CL H Z Qbb v fp):fp=[]/\bL K CL Z d v:=by cases h with|sh r=>exact#[rfl,r]
theorem bO.iM(h:bO K CL H Z (.lst ts) v fp):∃a vs g,v=.ref a/\fp=a::g/\H a=some (.lst vs)/\aU K CL H Z ts vs g:=by cases h with|lst p q=>exact#[_,_,_,rfl,rfl,p,q]
theorem bO.qy(h:bO K CL H Z (.tup ts) v fp):∃a vs,v=.ref a/\Z a=some (.tup vs)/\aU K CL H Z ts vs fp:=by cases h with|tup p q=>exact#[_,_,rfl,p,q]
variable{fs:BS}
theorem bO.D0(h:bO K CL H Z Qa3 v fp):∃a dx gs g,v=.ref a/\fp=a::g/\H a=some QeT/\cS K CL H Z fs gs g:=by cases h with|ins p q=>exact#[_,_,_,_,rfl,rfl,p,q]
theorem bO.Rz{y:Addr}(h:bO K CL H Z (.pin y t) v fp):v=.ref y/\bO K CL H Z t (.ref y) fp:=by cases h with|pin r=>exact#[rfl,r]
noncomputable def yK(X:Cx)(e:Expr):TE:=λY H Q=>∀(pins:BC) (s:Qb),Inv X pins Y H s->wpAny Qr X.A Qgx Qbg X.xe s
noncomputable def yl(X:Cx)(e:Expr):TT:=λY H Q=>∀(pins:BC) (s:Qb),Inv X pins Y H s->wpAny Qr X.A QtG Qe3 X.xe s
noncomputable def GN(X:Cx)(es:Cf):TA:=λY H Q=>∀(pos:Pos) (pins:BC) (s:Qb),Inv X pins Y H s->wpAny Qr X.A Qq7 QnO X.xe s
noncomputable def GU(X:Cx)(st:Stmt):TS:=λD Y H=>∀(pins:BC) (s:Qb),Inv X pins Y H s->wpAny Qr X.A QxA Qju X.xe s
noncomputable def GI(X:Cx)(st:CO):TS:=λD Y H=>∀(pins:BC) (s:Qb),Inv X pins Y H s->wpAny Qr X.A Qnv Qju X.xe s
variable{X:Cx}{e:Expr}
noncomputable def cQ:PE X e (yK X e):=λpins s _ _ _ I h=>h pins s I
noncomputable def rr:PT X e (yl X e):=λpins s _ _ _ I h=>h pins s I
noncomputable def JW{e:Cf}:PA X e (GN X e):=λpos pins s _ _ _ I h=>h pos pins s I
noncomputable def NJ{e:Stmt}:PS X e (GU X e):=λpins s _ _ _ I h=>h pins s I
noncomputable def oa{e:CO}:Rg X e (GI X e):=λpins s _ _ _ I h=>h pins s I
noncomputable def cC{t:TE}(h:PE X e t){Q:VK}(q:t Y H Q):yK X e Y H Q:=λpins s I=>h pins s Y H Q I q
variable{Q:EM}
noncomputable def yL{t:TT}(h:PT X e t)(q:t Y H Q):yl X e Y H Q:=λpins s I=>h pins s Y H Q I q
noncomputable def RA{e:Cf}{t:TA}(h:PA X e t){Q:EN}(q:t Y H Q):GN X e Y H Q:=λpos pins s I=>h pos pins s Y H Q I q
noncomputable def oH{e:Stmt}{t:TS}(h:PS X e t){D:Ends}(q:t D Y H):GU X e D Y H:=λpins s I=>h pins s Y H D I q
noncomputable def Kq{e:CO}{t:TS}(h:Rg X e t){D:Ends}(q:t D Y H):GI X e D Y H:=λpins s I=>h pins s Y H D I q
noncomputable def notStar:Expr->Bool
 | .Starred _ _=>false
 | _=>true
variable{es:Cf}{env:Env}
def bq(h:QoK):starEach Qap env=(false,eval e env)::starEach es env:=by
 cases e<;>first|rfl|(cases h)
structure Bx where
 B:Hp
 Z:Hp
def jH:HO->Bool
 | .tup _=>true
 | .fC _ _=>true
 | _=>false
noncomputable def Iw(x:Str):Bool:=x.cps[0]? == some 35
noncomputable def N6(x:Str):Str:=#[x.cps.extract 1 x.cps.size]
def nM(CL:BM)(Z:Hp):Prop:=∀x,Iw x=true->CL x≠0->Z (CL x)=some (.tabs (N6 x))
structure bD(K:Frag)(CL:BM)(b:Bx)(H Z:Hp)(U:BB)(Y:L2.St)(ts:Bz)(vs:B0):Prop where
 rep:∃fp gp,gu K CL H Z U Y fp/\aU K CL H Z ts vs gp/\(fp++gp).Nodup/\∀a∈fp++gp,Z a=none/\b.B a=none
 bh:aC b.B H
 zz:aC b.Z Z
 zh:aC Z H
 new:∀a o,Z a=some o->b.Z a=none->b.B a=none
 tp:∀a o,H a=some o->jH o=true->Z a=some o
 tab:nM CL b.Z
variable{b:Bx}
theorem nM.mono{A B:Hp}(h:nM CL A)(e:aC A B):nM CL B:=λx a h0=>e _ _ (h x a h0)
theorem bD.N7(S:QaA):nM CL Z:=S.tab.mono S.zz
theorem bD.N8(S:QaA):nM CL H:=S.N7.mono S.zh
def JX{A B:Hp}(e:aC A B)(h:B a=none):A a=none:=e.free h
variable{p:Addr}{o:HO}
theorem aC.upd(h:Qdx):aC H (upd H p o):=λb u e=>ay (aL e h)▸e
theorem bD.view(S:Qci):bL K CL H t.fC v:=by
 obtain⟨fp,gp,_,r,_,_⟩:=S.rep;cases r with
 | cons r _=>exact r.fC S.zh λ_ _=>rfl
theorem bD.pop(S:Qci):bD K CL b H Z U Y ts vs:=by
 obtain⟨fp,gp,e,r,nd,k⟩:=S.rep;cases r with
 | @cons _ _ _ _ f1 f2 f c=>
  refine#[#[fp,f2,e,c,nd.sublist QmN,λa d=>k a ?_],S.bh,S.zz,S.zh,S.new,S.tp,S.tab];obtain h|h:=i8.1 d
  .exact kq _ h
  simp_all
theorem bD.push{d:D}(S:QaA)(r:Qdw):bD K CL b H Z U Y (.sh d::ts) QaY:=by
 obtain⟨fp,gp,e,a,nd,k⟩:=S.rep;exact#[#[fp,_,e,.cons Qkr a,nd,k],S.bh,S.zz,S.zh,S.new,S.tp,S.tab]
theorem bD.JY(S:Qci):∃Z',aC Z Z'/\bD K CL b H Z' U Y (.sh t.fC::ts) QaY:=by
 classical
 obtain⟨fp,gp,e,r,nd,k⟩:=S.rep;cases r with
 | @cons _ _ _ _ f1 f2 m l=>
  have g:=λa c=>k a (jN _ (kq _ c));have sz:aC Z _:=λa o q=>by
   by_cases c:a∈f1
   .rw[(g a c).1]at q;cases q
   .show(if a∈f1 then H a else Z a)=some o;rw[bW c];exact q
  have f:=ma.1 nd;have n:∀a∈fp++f2,a∉f1:=λa c h1=>by
   obtain h|h:=i8.1 c
   .exact f.2.2 a h a (kq _ h1) rfl
   .exact(ma.1 f.2.1).2.2 a h1 a h rfl
  refine#[ _,sz,#[#[fp,[]++f2,e.mono sz Qcs,.cons (.sh (m.fC sz λa c=>cq c)) (l.mono sz λ_ _=>rfl),?_,λa c=>?_],S.bh,S.zz.trans sz,λa o q=>?_,λa o q z=>?_,λa o q i=>?_,S.tab]]
  .exact nd.sublist QmN
  .have j:a∈fp++f2:=c;refine#[?_,(k a ?_).2]
   .rw[bW (n a j)];refine(k a ?_).1;obtain h|h:=i8.1 j
    .exact kq _ h
    .exact jN _ (jN _ h)
   simp_all
  .have d:=q;by_cases c:a∈f1
   .rw[cq c]at d;exact d
   .rw[bW c]at d;exact S.zh a o d
  .have d:=q;by_cases c:a∈f1
   .exact(g a c).2
   .rw[bW c]at d;exact S.new a o d z
  .exact sz a o (S.tp a o q i)
variable{i:Nat}
theorem bD.Vs(S:QaA)(hi:U[i]? = some QaK):∃v Z',Y[i]? = some Qbc/\aC Z Z'/\bD K CL b H Z' Qio Y (.sh t.fC::ts) QaY:=by
 classical
 obtain⟨fp,gp,e,r,nd,k⟩:=S.rep;obtain⟨v,f1,f2,d,hv,s,rt,put,_⟩:=e.get hi;subst s;have p:∀a∈f2,Z a=none/\b.B a=none:=λa c=>k a (by simp[c]);have sz:aC Z Qk0:=λa o q=>by
  by_cases c:a∈f2
  .rw[(p a c).1]at q;cases q
  .show Qh6=some o;rw[bW c];exact q
 have w:∀a∈(f1++d)++gp,a∉f2:=λa c h2=>by
  have u:(Qfa++gp).Perm (f2++((f1++d)++gp)):=by
   rw[<- ka,<- ka];refine(List.perm_append_right_iff gp).2 ?_;rw[<- ka];exact(List.perm_append_right_iff d).2 nh
  exact(ma.1 (u.nodup_iff.1 nd)).2.2 a h2 a c rfl
 have n:bL K CL Qk0 t.fC v:=rt.fC sz λa c=>cq c;have l:Y.set i Qbc=Y:=by
  apply Hn;intro j;rw[List.getElem?_set];split
  .rename_i h;subst h;split
   .exact hv.symm
   .rename_i h2;rw[HU We]
  .rfl
 have e2:gu K CL H Qk0 Qio Y (f1++([]++d)):=by
  have:=put (H':=H) (t':=.sh t.fC) (v':=v) (g:=[]) sz Qcs (.sh n)
  rwa [l]at this
 refine#[v,λa=>if a∈f2 then H a else Z a,hv,sz,#[#[f1++([]++d),[]++gp,e2,.cons (.sh n) (r.mono sz λ_ _=>rfl),?_,λa c=>?_],S.bh,S.zz.trans sz,λa o q=>?_,λa o q z=>?_,λa o q i=>sz a o (S.tp a o q i),S.tab]]
 .exact nd.sublist (pv QmN (n3 _))
 .have m:a∈(f1++d)++gp:=c;have hm:a∈Qfa++gp:=by
   simp only[i8]at m ⊢;rcases m with(h|h)|h
   .exact .inl Qfr
   .exact .inl (.inr (.inr h))
   .exact .inr h
  refine#[?_,(k a hm).2];show Qh6=none;rw[bW (w a m)];exact(k a hm).1
 .have f:Qh6=some o:=q;by_cases c:a∈f2
  .rw[cq c]at f;exact f
  .rw[bW c]at f;exact S.zh a o f
 .have f:Qh6=some o:=q;by_cases c:a∈f2
  .exact(p a c).2
  .rw[bW c]at f;exact S.new a o f z
theorem bD.move(S:QaA)(hi:U[i]? = some QaK):∃v,Y[i]? = some Qbc/\bD K CL b H Z QdO Y Qcb QaY:=by
 obtain⟨fp,gp,e,r,nd,k⟩:=S.rep;obtain⟨v,f1,f2,c,hv,g,rt,_,del⟩:=e.get hi;subst g;have d:Y.set i Qbc=Y:=by
  apply Hn;intro j;rw[List.getElem?_set];split
  .rename_i h;subst h;split
   .exact hv.symm
   simp_all
  .rfl
 have f:((f1++(f2++c))++gp).Perm ((f1++c)++(f2++gp)):=by
  have h1:(f2++c).Perm _:=nh;have h2:=(pE f1 h1).append_right gp;simp_all
 refine#[v,hv,#[#[ _,_,?_,.cons rt r,f.nodup_iff.1 nd,λa l=>k a (f.mem_iff.2 l)],S.bh,S.zz,S.zh,S.new,S.tp,S.tab]];have:=del (o:=some v)
 rwa [d]at this
theorem bD.look(S:QaA)(hi:U[i]? = some QaK):∃v,Y[i]? = some Qbc/\bL K CL H t.fC v:=by
 obtain⟨fp,gp,e,r,nd,k⟩:=S.rep;obtain⟨v,f1,f2,c,hv,a,rt,_,_⟩:=e.get hi;exact#[v,hv,rt.fC S.zh λ_ _=>rfl]
theorem bD.L9{d:D}(S:QaA)(hi:U[i]? = some QdN):∃v,Y[i]? = some Qbc/\bL K CL Z d v:=by
 obtain⟨fp,gp,e,r,nd,k⟩:=S.rep;obtain⟨v,f1,f2,c,hv,a,rt,_,_⟩:=e.get hi;obtain⟨rfl,h⟩:=rt.Gz;exact#[v,hv,h]
theorem bD.set(S:Qci)(hi:i<U.length):bD K CL b H Z Qnw QeY ts vs:=by
 obtain⟨fp,gp,e,r,nd,k⟩:=S.rep;cases r with
 | @cons _ _ _ _ f1 f2 j h=>
  obtain⟨f,h1,g,h2,m⟩:=e.put j hi;have d:(f++f2).Perm (g++Qkk):=by
   refine(m.append_right f2).trans ?_;rw[<- ka];exact nh.append_right f2
  have c:(g++Qkk).Sublist _:=pv h2 (n3 _);exact#[#[f,f2,h1,h,d.nodup_iff.2 (nd.sublist c),λa l=>k a (c.subset (d.mem_iff.1 l))],S.bh,S.zz,S.zh,S.new,S.tp,S.tab]
mutual
def D.mZ:D->Bool
 | .tup ds=>D.bC ds
 | .lst _=>false
 | .ins _ _=>false
 | .kT _=>false
 | .dct _=>false
 | .any=>false
 | .lH _ _ _=>false
 | _=>true
def D.bC:At->Bool
 | []=>true
 | d::ds=>d.mZ&&D.bC ds
end
mutual
def T.clean:T->Bool
 | .sh d=>d.mZ
 | .tup ts=>T.gi ts
 | .lst ts=>T.gi ts
 | .ins _ fs=>T.c6 fs
 | .kT kvs=>D.bC (kvs.map (·.2))
 | .dct kvs=>T.JZ kvs
 | .pin _ t=>t.clean
 | .lH _ _ _=>false
def T.gi:Bz->Bool
 | []=>true
 | t::ts=>t.clean&&T.gi ts
def T.c6:BS->Bool
 | []=>true
 | (_,t)::ts=>t.clean&&T.c6 ts
def T.JZ:CC->Bool
 | []=>true
 | (_,t)::ts=>t.clean&&T.JZ ts
end
def bU(X:Cx)(CL:BM)(b:Bx)(e:Expr)(U:BB)(t:T)(U':BB):Prop:=
 ∀(H Z:Hp) (Y:L2.St) (ts:Bz) (vs:B0) (Q:VK),bD X.K CL b H Z U Y ts vs->(∀v H' Z',aC Z Z'->aC H H'->bD X.K CL b H' Z' U' Y Qcb QaY->Q v H')->yK X e Y H Q
def cN(X:Cx)(CL:BM)(b:Bx)(e:Expr)(U:BB)(d:D)(U':BB):Prop:=
 ∀(H Z:Hp) (Y:L2.St) (ts:Bz) (vs:B0) (Q:VK),bD X.K CL b H Z U Y ts vs->(∀v H' Z',aC Z Z'->aC H H'->bD X.K CL b H' Z' U' Y ts vs->bL X.K CL H' d v->Q v H')->yK X e Y H Q
def qW(X:Cx)(CL:BM)(b:Bx)(e:Expr)(U:BB)(p:Bool)(U':BB):Prop:=
 ∀(H Z:Hp) (Y:L2.St) (ts:Bz) (vs:B0) (Q:EM),bD X.K CL b H Z U Y ts vs->(∀H' Z',aC Z Z'->aC H H'->bD X.K CL b H' Z' U' Y ts vs->Q p H')->yl X e Y H Q
def GA(X:Cx)(CL:BM)(b:Bx)(es:Cf)(U:BB)(tl:Bz)(U':BB):Prop:=
 ∀(H Z:Hp) (Y:L2.St) (ts:Bz) (vs:B0) (Q:EN),bD X.K CL b H Z U Y ts vs →
  (∀us H' Z',us.length=tl.length->aC Z Z'->aC H H'->bD X.K CL b H' Z' U' Y Qmi QdL->Q us H')->GN X es Y H Q
def XW(X:Cx)(CL:BM)(b:Bx)(es:Cf)(U:BB)(ds:At)(U':BB):Prop:=
 ∀(H Z:Hp) (Y:L2.St) (ts:Bz) (vs:B0) (Q:EN),bD X.K CL b H Z U Y ts vs →
  (∀us H' Z',aC Z Z'->aC H H'->bD X.K CL b H' Z' U' Y ts vs->aB X.K CL H' ds us->Q us H')->GN X es Y H Q
structure dI where
 nx:BB->Prop
 rt:T->BB->Prop
 bk:BB->Prop:=λ_=>False
 ct:BB->Prop:=λ_=>False
structure Meets(K:Frag)(CL:BM)(b:Bx)(Z:Hp)(ts:Bz)(vs:B0)(D:dI)(E:Ends):Prop where
 nx:∀U' Y' H' Z',aC Z Z'->bD K CL b H' Z' U' Y' ts vs->D.nx U'->E.nx Y' H'
 rt:∀t v H' Z' U' Y',aC Z Z'->bD K CL b H' Z' U' Y' Qcb QaY->D.rt t U'->E.rt v H'
 bk:∀U' Y' H' Z',aC Z Z'->bD K CL b H' Z' U' Y' ts vs->D.bk U'->E.bk Y' H'
 ct:∀U' Y' H' Z',aC Z Z'->bD K CL b H' Z' U' Y' ts vs->D.ct U'->E.ct Y' H'
def Z9(X:Cx)(CL:BM)(b:Bx)(st:Stmt)(U:BB)(D:dI):Prop:=
 ∀(H Z:Hp) (Y:L2.St) (ts:Bz) (vs:B0) (E:Ends),bD X.K CL b H Z U Y ts vs->Meets X.K CL b Z ts vs D E->GU X st E Y H
def c7(X:Cx)(CL:BM)(b:Bx)(st:CO)(U:BB)(D:dI):Prop:=
 ∀(H Z:Hp) (Y:L2.St) (ts:Bz) (vs:B0) (E:Ends),bD X.K CL b H Z U Y ts vs->Meets X.K CL b Z ts vs D E->GI X st E Y H
theorem Meets.mono{D:dI}{E:Ends}(M:Qt4)(e:QbY):Meets K CL b Z' ts vs D E:=
 #[λ_ _ _ _ s=>M.nx _ _ _ _ QjP,λ_ _ _ _ _ _ s=>M.rt _ _ _ _ _ _ QjP,λ_ _ _ _ s=>M.bk _ _ _ _ QjP,λ_ _ _ _ s=>M.ct _ _ _ _ QjP]
def Vt(zh:∀a o,H a=some o->jH o=true->Z a=some o)(h:tP K H a xs):tP K Z a xs:=by
 rcases h with(h|⟨o,h⟩)|h
 .exact .inl (.inl (zh _ _ h rfl))
 .exact .inl (.inr #[o,zh _ _ h rfl])
 .exact .inr h
theorem bL.mZ(zh:∀a o,H a=some o->jH o=true->Z a=some o){d:D}(k:d.mZ=true)(h:bL K CL H d v):bL K CL Z d v:=
 bL.rec (motive_2:=λd v _=>D.bC d=true->aB K CL Z d v) (motive_3:=λd v _=>True) (motive_4:=λd v _=>True) (motive_5:=λd v _=>True)
  (λ_=>.non) QuY Qus Qut (λ_ k=>by cases k) Quu (λh _ r k=>.tup (Vt zh h) (r (‹_›))) (λ_ _ _ k=>by cases k) (λ_ _ _ k=>by cases k) (λ_ _ _ k=>by cases k) (λ_ _ _ k=>by cases k) (λ_ _ _ _ _ k=>by rw[D.mZ]at k;cases k) Qa1 (λ_ _ h r k=>by rw[D.bC,l9]at k;exact .cons Qg5 Qg6) trivial Qax trivial Qax trivial Qax h k
theorem aB.mZ(zh:∀a o,H a=some o->jH o=true->Z a=some o){d:At}{v:B0}(k:D.bC d=true)(h:aB K CL H d v):aB K CL Z d v:=
 aB.rec (motive_1:=λd v _=>d.mZ=true->bL K CL Z d v) (motive_3:=λd v _=>True) (motive_4:=λd v _=>True) (motive_5:=λd v _=>True)
  (λ_=>.non) QuY Qus Qut (λ_ k=>by cases k) Quu (λh _ r k=>.tup (Vt zh h) (r (‹_›))) (λ_ _ _ k=>by cases k) (λ_ _ _ k=>by cases k) (λ_ _ _ k=>by cases k) (λ_ _ _ k=>by cases k) (λ_ _ _ _ _ k=>by cases k) Qa1 (λ_ _ h r k=>by rw[D.bC,l9]at k;exact .cons Qg5 Qg6) trivial Qax trivial Qax trivial Qax h k
variable{gs:Cl}
theorem cB.clean{Z1:Hp}(a:∀{d:D} {v:V},d.mZ=true->bL K CL Z1 d v->bL K CL Z d v){kvs:CS}(k:D.bC (kvs.map (·.2))=true)(h:cB K CL Z1 kvs gs):cB K CL Z kvs gs:=
 cB.ind (P:=λkvs gs=>D.bC (kvs.map _)=true->cB K CL Z kvs gs) Qa1 (λh _ i k=>by rw[lx,D.bC,l9]at k;exact .cons (a k.1 h) (i k.2)) h k
theorem bO.clean{Z1:Hp}(zh:∀a xs,Z1 a=some Qbr->Z a=some Qbr)(b:∀{d:D} {v:V},d.mZ=true->bL K CL Z1 d v->bL K CL Z d v)(k:t.clean=true)(h:bO K CL H Z1 t v fp):bO K CL H Z t v fp:=
 bO.rec (motive_2:=λt v fp _=>T.gi t=true->aU K CL H Z t v fp) (motive_3:=λt v fp _=>T.c6 t=true->cS K CL H Z t v fp) (motive_4:=λt v fp _=>T.JZ t=true->dH K CL H Z t v fp)
  (λh k=>.sh (b (‹_›) h)) (λh _ r k=>.tup (zh _ _ h) (r (‹_›))) (λh _ r k=>.lst h (r (‹_›))) (λh _ r k=>.ins h (r (‹_›))) (λh f k=>.kT h (cB.clean b (‹_›) f)) (λh _ r k=>.dct h (r (‹_›))) (λ_ r k=>.pin (r (‹_›))) (λ_ _ _ k=>by rw[T.clean]at k;cases k) Qa1 (λ_ _ h r k=>by rw[T.gi,l9]at k;exact .cons Qg5 Qg6) Qa1 (λ_ _ h r k=>by rw[T.c6,l9]at k;exact .cons Qg5 Qg6) Qa1 (λ_ _ h r k=>by rw[T.JZ,l9]at k;exact .cons Qg5 Qg6) h k
theorem bD.back{W W':Hp}(S:QaA)(p:QcX)(s:aC Z W)(ww:aC W W')(m:aC W' H')(new:∀a o,W' a=some o->W a=none->H a=none)
  (tp:∀a o,H' a=some o->jH o=true->W' a=some o) (r:bO K CL H' W' t v fp) (nd:fp.Nodup) (own:∀a∈fp,W' a=none/\H a=none) (c:W=Z\/t.clean=true) :
  ∃Z',aC Z Z'/\bD K CL b H' Z' U Y Qcb QaY:=by
 classical
 let Z':Hp:=λa=>if (H a).isSome=true then Z a else W' a
 have zs:∀{a:Addr} {o:HO},H a=some o->Z' a=Z a:=λ{a o} e=>by
  show QqN=Z a;rw[cq (by rw[e];rfl)]
 have zn:∀{a:Addr},H a=none->Z' a=W' a:=λ{a} e=>by
  show QqN=W' a;rw[bW (by rw[e];simp)]
 have sz:aC Z Z':=λa o q=>by rw[zs (S.zh a o q)];exact q
 have l:∀a o,Z' a=some o->W' a=some o:=λa o q=>by
  cases e:H a with
  | none=>rw[zn e]at q;exact q
  | some u=>rw[zs e]at q;exact ww a o (s a o q)
 have g:∀a o,H' a=some o->jH o=true->Z' a=some o:=λa o q i=>by
  cases e:H a with
  | none=>rw[zn e];exact tp a o q i
  | some u=>
   rw[zs e];have:=p a u e;rw[q]at this;cases this;exact S.tp a o e i
 have x:bO K CL H' Z' t v fp:=by
  obtain c|c:=c
  .have:Z'=W':=by
    funext a;cases e:H a with
    | none=>exact zn e
    | some u=>
     rw[zs e];cases q:W' a with
     | none=>
      cases j:Z a with
      | none=>rfl
      | some o=>rw[ww a o (s a o j)]at q;cases q
     | some o=>
      cases j:W a with
      | none=>rw[new a o q j]at e;cases e
      | some y=>
       have:=ww a y j;rw[q]at this;cases this;rw[<- c];exact j
   rw[this];exact r
  .refine bO.clean (λa xs h=>?_) (λ{d v} k h=>?_) c r
   .exact g a _ (m a _ h) rfl
   .exact bL.mZ (H:=H') g k (h.mono m)
 obtain⟨f0,g0,e0,w,n,k0⟩:=S.rep;have old:∀a∈f0++g0,∃o,H a=some o:=λa f=>(i8.1 f).elim (e0.there a) (w.there a);have keep:∀a∈f0++g0,H' a=H a:=λa f=>by
  obtain⟨o,e⟩:=old a f;rw[e];exact p a o e
 refine#[Z',sz,#[#[f0,fp++g0,e0.mono sz (λa f=>keep a (kq _ f)),.cons x (w.mono sz λa f=>keep a (jN _ f)),?_,λa f=>?_],S.bh.trans p,S.zz.trans sz,λa o q=>m a o (l a o q),λa o q z=>?_,g,S.tab]]
 .have A:(f0++(fp++g0)).Perm (fp++(f0++g0)):=by
   rw[<- ka,<- ka];exact nh.append_right g0
  refine A.nodup_iff.2 (ma.2 #[nd,n,λa f c B e=>?_]);subst e;obtain⟨o,q⟩:=old a B;rw[(own a f).2]at q;cases q
 .have:a∈f0++g0\/a∈fp:=by
   simp only[i8]at f ⊢;obtain h|h|h:=f
   .exact .inl Qfr
   .exact .inr h
   .exact .inl (.inr h)
  obtain h|h:=this
  .obtain⟨o,q⟩:=old a h;exact#[by rw[zs q];exact(k0 a h).1,(k0 a h).2]
  .exact#[by rw[zn (own a h).2];exact(own a h).1,S.bh.free (own a h).2]
 .cases e:H a with
  | none=>exact S.bh.free e
  | some u=>rw[zs e]at q;exact S.new a o q z
section
variable{δ1 U2:BB}{e1 e2:Expr}{pos:Pos}{d d1 d2:D}
noncomputable def Vu(h:QaX):cN X CL b e U t.fC δ1:=λH Z Y ts vs Q S k=>h H Z Y ts vs Q S λv H' Z' z s a=>k v H' Z' z s a.pop a.view
def ak(h:QiD):cN X CL b e U d δ1:=by have:=Vu h;rwa [T.fC]at this
noncomputable def eG(h:QcF)(i:d.mZ=true):bU X CL b e U Qbb δ1:=λH Z Y ts vs Q S k=>h H Z Y ts vs Q S λv H' Z' z s a r=>k v H' Z' z s (a.push (bL.mZ a.tp i r))
def RB(h:QaX):bU X CL b e U Qgw δ1:=λH Z Y ts vs Q S k=>h H Z Y ts vs Q S λv H' Z' z s d=>by
 obtain⟨Z2,a,c⟩:=d.JY;exact k v H' Z2 (z.trans a) s c
def j6{i:Int}{j:Nat}:bU X CL b Qmc U QjQ U:=λH Z Y ts vs Q S k=>cC aku (k _ _ Z QA QA (S.push Qa7))
def oK{i:Bool}{j:Nat}:bU X CL b (.Constant (.bool i) j pos) U (.sh (.bl i)) U:=λH Z Y ts vs Q S k=>cC PH (k _ _ Z QA QA (S.push (.bl i)))
def J1{j:Nat}:bU X CL b QtH U Qph U:=λH Z Y ts vs Q S k=>cC akv (k _ _ Z QA QA (S.push .non))
def dJ{x:Str}{j:Nat}:bU X CL b Ql9 U (.sh Qbl) U:=λH Z Y ts vs Q S k=>cC akw (k _ _ Z QA QA (S.push Qbl))
section
variable{x:Str}(i:Nat)(hi:X.N[i]? = some x:=by rfl)(hv:QnP:=by first|exact Or.inl rfl|exact Or.inr (Or.inl rfl)|exact Or.inr (Or.inr rfl))(hd:AD x:=by decide)(jO:AE x:=by decide)
include hi hv hd jO
def ali(h:U[i]? = some QdN:=by rfl):bU X CL b QaD U Qbb U:=λH Z Y ts vs Q S k=>by
 obtain⟨v,e,r⟩:=S.L9 h;exact cC Qgz #[v,e,k v H Z QA QA (S.push r)]
def afA(h:U[i]? = some QaK:=by rfl):bU X CL b QaD U Qgw Qio:=λH Z Y ts vs Q S k=>by
 obtain⟨v,Z',e,z,a⟩:=S.Vs h;exact cC Qgz #[v,e,k v H Z' z QA a]
def afB(h:U[i]? = some QaK:=by rfl):bU X CL b QaD U t QdO:=λH Z Y ts vs Q S k=>by
 obtain⟨v,e,a⟩:=S.move h;exact cC Qgz #[v,e,k v H Z QA QA a]
def alj(h:U[i]? = some QaK:=by rfl):cN X CL b QaD U t.fC U:=λH Z Y ts vs Q S k=>by
 obtain⟨v,e,r⟩:=S.look h;exact cC Qgz #[v,e,k v H Z QA QA S r]
end
noncomputable def tc:D->Option V
 | .non=>some .non
 | .bl b=>some Qei
 | .int i=>some Qa7
 | .str x => some Qbl
 | _=>none
theorem bL.sc{d:D}{w:V}(r:Qdw)(h:tc d=some w):v=w:=by
 cases r<;>first|(exact mu h)|(cases h)
def afC{d:D}{w:V}(h:tc d=some w):bL K CL Z d w:=by
 cases d<;>first|(cases h;constructor)|(cases h)
def xE{op:QfI}{r:R2}{c a w:V}(j:QvN)(h1:QiO)(h2:QiI)(s1:tc d1=some c)(s2:tc d2=some a)(s3:tc d=some w)
  (i:∀(H:Hp) (Q:VK),Q w H->r c a H Q):bU X CL b (.BinOp e1 op e2 pos) U Qbb U2:=λH Z Y ts vs Q S k=>by
 refine cC (NK j cQ cQ) (h1 H Z Y ts vs _ S λv1 H1 Z1 f k1 m h=>h2 H1 Z1 Y ts vs _ m λv2 H2 Z2 e k2 l g=>?_);rw[h.sc s1,g.sc s2];exact i H2 Q (k w H2 Z2 (f.trans e) Qao (l.push (afC s3)))
noncomputable def fh{i j:Int}(h1:Qbv)(h2:Qb2):bU X CL b Qgh U (.sh (.int (i+j))) U2:=xE akT h1 h2 rfl rfl rfl λ_ _ q=>#[i,j,rfl,rfl,q]
noncomputable def pG{i j:Int}(h1:Qbv)(h2:Qb2):bU X CL b (.BinOp e1 .Sub e2 pos) U (.sh QwN) U2:=xE akU h1 h2 rfl rfl rfl λ_ _ q=>#[i,j,rfl,rfl,q]
noncomputable def A3{i j:Int}(h1:Qbv)(h2:Qb2)(c:Hc i j):bU X CL b Qtu U (.sh (.int (i*j))) U2:=xE akV h1 h2 rfl rfl rfl λ_ _ q=>#[i,j,rfl,rfl,c,q]
noncomputable def cD{i j:Int}(h1:Qbv)(h2:Qb2)(c:0<j):bU X CL b (.BinOp e1 .Mod e2 pos) U (.sh (.int (i % j))) U2:=xE akW h1 h2 rfl rfl rfl λ_ _ q=>#[i,j,rfl,rfl,c,q]
noncomputable def dM{i j:Int}(h1:Qbv)(h2:Qb2)(c:OF i j):bU X CL b (.BinOp e1 .FloorDiv e2 pos) U (.sh (.int (i / j))) U2:=xE afd h1 h2 rfl rfl rfl λ_ _ q=>#[i,j,rfl,rfl,c,q]
noncomputable def RC{i j:Int}(h1:Qbv)(h2:Qb2)(c:OE i j):bU X CL b (.BinOp e1 .Pow e2 pos) U (.sh (.int (i ^ j.toNat))) U2:=xE akX h1 h2 rfl rfl rfl λ_ _ q=>#[i,j,rfl,rfl,c,q]
noncomputable def xF{x y:Str}(h1:Qma)(h2:cN X CL b e2 δ1 (.str y) U2)(c:x.length+y.length<=sizeLine):bU X CL b Qgh U (.sh (.str (x++y))) U2:=xE Rm h1 h2 rfl rfl rfl λ_ _ q=>#[x,y,rfl,rfl,c,q]
def Ck{op:CmpOp}{r:R2}{p:Bool}{i h:V}(l:Qp5)(h1:QiO)(h2:QiI)(s1:tc d1=some i)(s2:tc d2=some h)
  (j:∀(H:Hp) (Q:VK),Q Qks H->r i h H Q) (hm:QuZ):qW X CL b Qis U p U2/\bU X CL b Qis U (.sh Qks) U2:=by
 constructor
 .intro H Z Y ts vs Q S k;refine yL (vq l cQ cQ hm) (h1 H Z Y ts vs _ S λv1 H1 Z1 c k1 g e=>h2 H1 Z1 Y ts vs _ g λv2 H2 Z2 a k2 f d=>?_);rw[e.sc s1,d.sc s2];exact j H2 _ #[p,rfl,k H2 Z2 QcR Qao f]
 .intro H Z Y ts vs Q S k;refine cC (yF l cQ cQ hm) (h1 H Z Y ts vs _ S λv1 H1 Z1 c k1 g e=>h2 H1 Z1 Y ts vs _ g λv2 H2 Z2 a k2 f d=>?_);rw[e.sc s1,d.sc s2];exact j H2 _ (k _ H2 Z2 QcR Qao (f.push Qks))
theorem dN{i j:Int}(h1:Qbv)(h2:Qb2):qW X CL b Qil U QmO U2/\bU X CL b Qil U Qyj U2:=
 Ck Pt h1 h2 rfl rfl (λ_ _ q=>#[rfl,by simp_all ]) (qY _)
theorem pH{i j:Int}(h1:Qbv)(h2:Qb2):qW X CL b Qc2 U (!decide (i=j)) U2/\bU X CL b Qc2 U QlP U2:=
 Ck L1 h1 h2 rfl rfl (λ_ _ q=>#[rfl,by simp_all ]) (qY _)
theorem cH{i j:Str}(h1:Qtb)(h2:QsS):qW X CL b Qil U QmO U2/\bU X CL b Qil U Qyj U2:=
 Ck Pt h1 h2 rfl rfl (λ_ _ q=>#[rfl,by simp_all ]) (qY _)
theorem RD{i j:Str}(h1:Qtb)(h2:QsS):qW X CL b Qc2 U (!decide (i=j)) U2/\bU X CL b Qc2 U QlP U2:=
 Ck L1 h1 h2 rfl rfl (λ_ _ q=>#[rfl,by simp_all ]) (qY _)
def Vv{i j:Int}(h1:Qbv)(h2:Qb2):qW X CL b QsT U Qn5 U2/\bU X CL b QsT U (.sh (.bl Qn5)) U2:=Ck apO h1 h2 rfl rfl Qlh (qY _)
def wK{i j:Int}(h1:Qbv)(h2:Qb2):qW X CL b QsU U Qn6 U2/\bU X CL b QsU U (.sh (.bl Qn6)) U2:=Ck apP h1 h2 rfl rfl Qlh (qY _)
def Pf{i j:Int}(h1:Qbv)(h2:Qb2):qW X CL b QsF U Qn0 U2/\bU X CL b QsF U (.sh (.bl Qn0)) U2:=Ck apQ h1 h2 rfl rfl Qlh (qY _)
end
theorem aU.split:∀{as bs:Bz} {us ws:B0} {gp:BY},as.length=us.length->aU K CL H Z (as++bs) Qki gp->∃g1 g2,gp=g1++g2/\aU K CL H Z as us g1/\aU K CL H Z bs ws g2
 | [],_,[],_,gp,_,r=>#[[],gp,rfl,.nil,r]
 | [],_,_::_,_,_,h,_=>by simp at h
 | _::_,_,[],_,_,h,_=>by simp at h
 | a::as,bs,u::us,ws,gp,h,r=>by
  cases r with
  | @cons _ _ _ _ f1 f2 c b=>
   obtain⟨g1,g2,e,h1,h2⟩:=aU.split WA b;exact#[ _,g2,WA,.cons c h1,h2]
variable{us:B0}
theorem aU.app{as bs:Bz}{ws:B0}{g1 g2:BY}(h:aU K CL H Z as us g1)(q:aU K CL H Z bs ws g2):aU K CL H Z (as++bs) Qki Qdk:=
 aU.ind (P:=λas us g1=>aU K CL H Z (as++bs) Qki Qdk) q (λr _ i=>by rw[ka];exact .cons r i) h
theorem aU.rev:∀{as:Bz} {us:B0} {g:BY},aU K CL H Z as.reverse us.reverse g->∃b,aU K CL H Z as us b/\b.Perm g
 | [],[],g,r=>by grind
 | [],u::us,g,r=>by have:=r.length;simp at this
 | a::as,[],g,r=>by have:=r.length;simp at this
 | a::as,u::us,g,r=>by
  rw[rf,rf]at r;have hl:=r.length;obtain⟨g1,g2,e,d,c⟩:=aU.split WA r;subst e;obtain⟨b,f,p⟩:=aU.rev d;cases c with
  | @cons _ _ _ _ f1 f2 q1 h=>
   cases h;refine#[ _,.cons q1 f,?_];rw[ko];exact(pE f1 p).trans nh
theorem aU.JJ{ds:At}:aB K CL Z ds us->aU K CL H Z Qb3 us []:=
 aB.ind (P:=λds us=>aU K CL H Z Qb3 us []) .nil λr _ i=>.cons Qkr i
theorem aU.toF:∀{ds:At} {us:B0} {g:BY},aU K CL H Z Qb3 us g->aB K CL Z ds us/\g=[]
 | [],_,_,r=>by
  have a:=r;cases a;exact#[.nil,rfl]
 | d::ds,_,_,r=>by
  have a:=r;cases a with
  | cons c b=>
   obtain⟨rfl,h⟩:=c.Gz;obtain⟨q,e⟩:=aU.toF b;exact#[.cons h q,‹_› ]
theorem lI:∀(ds:At),T.dB Qb3=ds
 | []=>rfl
 | d::ds=>by rw[lx,T.dB,lI ds,T.fC]
variable{tl:Bz}
theorem bD.J2(S:Qsq)(hl:Qm7)(f:Qdx) :
  aC Z Qnx/\aC H Qny/\bD K CL b Qny Qnx U Y (.tup tl::ts) Qfe:=by
 obtain⟨fp,gp,e,r,nd,k⟩:=S.rep;obtain⟨g1,g2,n,l,j⟩:=aU.split WE r;subst n;obtain⟨s,m,pm⟩:=l.rev;have g:=S.zh.free f;have sz:aC Z Qnx:=aC.upd g;have sh:aC H Qny:=aC.upd f;have keep:∀a∈fp++Qdk,a≠p:=λa c=>by
  have:∃o,H a=some o:=by
   obtain h|h:=i8.1 c
   .exact e.there a h
   .exact r.there a h
  obtain⟨o,q⟩:=this;exact aL q f
 have d:=(pm.append_right g2).append_left fp;have kk:=λa c=>keep a Qjb;refine#[sz,sh,#[#[fp,_,e.mono sz Qez,.cons (.tup aO (m.mono sz λa c=>ay (kk a (by simp[c])))) (j.mono sz λa c=>ay (keep a (by simp[c]))),d.nodup_iff.2 nd,λa c=>?_],S.bh.trans sh,S.zz.trans sz,λa o q=>?_,λa o q z=>?_,λa o q i=>?_,S.tab]]
 .exact#[ ay (kk a c)▸(k a Qjb).1,(k a Qjb).2]
 .by_cases c:a=p
  .subst c;rw[aO]at q ⊢;exact q
  .rw[ay c]at q ⊢;exact S.zh a o q
 .by_cases c:a=p
  .subst c;exact S.bh.free f
  .rw[ay c]at q;exact S.new a o q z
 .by_cases c:a=p
  .subst c;rw[aO]at q ⊢;exact q
  .rw[ay c]at q ⊢;exact S.tp a o q i
theorem bD.nO{g0:BY}(S:Qsq)(hl:Qm7)(g:Qdx) :
  aC H Qnz/\bD K CL b Qnz Z U Y (.lst tl::ts) Qfe:=by
 obtain⟨fp,gp,e,r,nd,k⟩:=S.rep;obtain⟨g1,g2,t,n,m⟩:=aU.split WE r;subst t;obtain⟨j,s,pm⟩:=n.rev;have l:=S.zh.free g;have sh:aC H Qnz:=aC.upd g;have keep:∀a∈fp++Qdk,a≠p:=λa c=>by
  have:∃o,H a=some o:=by
   obtain h|h:=i8.1 c
   .exact e.there a h
   .exact r.there a h
  obtain⟨o,q⟩:=this;exact aL q g
 have d:=(pm.append_right g2).append_left fp;have kk:=λa c=>keep a Qjb;have f:(fp++((p::j)++g2)).Perm (p::(fp++(j++g2))):=by simp
 refine#[sh,#[#[fp,_,e.mono QA Qez,.cons (.lst aO (s.mono QA λa c=>ay (kk a (by simp[c])))) (m.mono QA λa c=>ay (keep a (by simp[c]))),?_,λa c=>?_],S.bh.trans sh,S.zz,S.zh.trans sh,S.new,λa o q i=>?_,S.tab]]
 .refine f.nodup_iff.2 (ml.2 #[λh=>kk p h rfl,d.nodup_iff.2 nd])
 .obtain h|h:=fL.1 (f.mem_iff.1 c)
  .subst h;exact#[l,S.bh.free g]
  .exact k a (d.mem_iff.1 h)
 .by_cases c:a=p
  .subst c;rw[aO]at q;cases q;cases i
  .rw[ay c]at q;exact S.tp a o q i
variable{δ1 U2:BB}{e1 e2:Expr}{p q:Bool}{pos:Pos}{d:D}{ds:At}
def bM:GA X CL b [] U [] U:=λH Z Y ts vs Q S k=>RA dY (k [] H Z rfl QA QA S)
theorem aH(h1:QaX)(h2:GA X CL b es δ1 tl U2)(hs:Qaq:=by exact bq rfl):GA X CL b Qap U (t::tl) U2:=λH Z Y ts vs Q S k=>
 RA Qot (h1 H Z Y ts vs _ S λv H1 Z1 c k1 d=>h2 H1 Z1 Y _ _ _ d λus H2 Z2 hl a k2 f=>k _ H2 Z2 (by simp[hl]) QcR Qao WA)
def aA:XW X CL b [] U [] U:=λH Z Y ts vs Q S k=>RA dY (k [] H Z QA QA S .nil)
def ah(h1:QcF)(h2:Qu0)(hs:Qaq:=by exact bq rfl):XW X CL b Qap U Qkw U2:=λH Z Y ts vs Q S k=>
 RA Qot (h1 H Z Y ts vs _ S λv H1 Z1 c k1 i g=>h2 H1 Z1 Y _ _ _ i λus H2 Z2 a k2 h f=>k _ H2 Z2 QcR Qao h Quv)
variable{j:Nat}
def kX(h:QmE)(hl:Qng):bU X CL b Qi6 U (.tup tl) δ1:=λH Z Y ts vs Q S k=>
 cC (XO JW) (h H Z Y ts vs _ S λus H1 Z1 d e k1 i=>#[ d▸hl,λp f=>by
  obtain⟨a,c,g⟩:=i.J2 d f;exact k _ _ _ (e.trans a) Qcw g])
theorem cK(h:Qt5)(hl:Qcd):bU X CL b Qi6 U QdH δ1:=by
 have:=RB (kX (pos:=pos) (j:=j) h WA)
 rwa [T.fC,lI]at this
def dF(h:QmE)(hl:Qng):bU X CL b Qn8 U QeU δ1:=λH Z Y ts vs Q S k=>
 cC (ak2 JW) (h H Z Y ts vs _ S λus H1 Z1 a d k1 g=>#[ a▸hl,λp e=>by
  obtain⟨c,f⟩:=g.nO (g0:=[]) a e;exact k _ _ _ d Qcw f])
def eL(h:Qig)(he:∀whole,isTrue e X.env whole=(do let v ← whole;standAt e.pos;holding [v] QgS):=by intro _;rfl):qW X CL b e U p δ1:=λH Z Y ts vs Q S k=>
 yL (aky cQ he) (h H Z Y ts vs _ S λv H1 Z1 c k1 a=>#[p,by have:=a.view;exact this.sc rfl,k H1 Z1 c k1 a.pop])
def iC(h:Qce):qW X CL b Quw U (!p) δ1:=λH Z Y ts vs Q S k=>yL (akB rr) QiM
noncomputable def He(X:Cx)(e:Expr):TT:=λY H Q=>∀(whole:Sem Value) (pins:BC) (s:Qb),Inv X pins Y H s->wpAny Qr X.A Qt1 Qe3 X.xe s
noncomputable def NI:PW X e (He X e):=λwhole pins s _ _ _ I h=>h _ pins s I
def ro(X:Cx)(CL:BM)(b:Bx)(e:Expr)(U:BB)(p:Bool)(U':BB):Prop:=
 ∀(H Z:Hp) (Y:L2.St) (ts:Bz) (vs:B0) (Q:EM),bD X.K CL b H Z U Y ts vs->(∀H' Z',aC Z Z'->aC H H'->bD X.K CL b H' Z' U' Y ts vs->Q p H')->He X e Y H Q
noncomputable def Hd{t:TT}(h:PW X e t)(q:t Y H Q):He X e Y H Q:=λwhole pins s I=>h _ pins s Y H Q I q
noncomputable def gK(h:Qwq):qW X CL b e U p δ1:=λH Z Y ts vs Q S k pins s I=>h H Z Y ts vs Q S k _ pins s I
def lJ(h:Qce):ro X CL b (.BoolOp .And [e] pos) U p δ1:=λH Z Y ts vs Q S k=>Hd (ae9 rr) QiM
def eN(h:Qce):ro X CL b (.BoolOp .Or [e] pos) U p δ1:=λH Z Y ts vs Q S k=>Hd (akz rr) QiM
theorem j7(h:Qce)(h2:p=true->ro X CL b QsV δ1 q δ1):ro X CL b QsW U (p&&q) δ1:=λH Z Y ts vs Q S k=>
 Hd (akA rr NI) (h H Z Y ts vs _ S λH1 Z1 a k1 c=>by
  cases p with
  | true=>exact Ry Qqm
  | false=>exact Rx QwT)
theorem fE(h:Qce)(h2:p=false->ro X CL b Qtc δ1 q δ1):ro X CL b Qtd U (p || q) δ1:=λH Z Y ts vs Q S k=>
 Hd (aps rr NI) (h H Z Y ts vs _ S λH1 Z1 a k1 c=>by
  cases p with
  | true=>exact Ry QwT
  | false=>exact Rx Qqm)
def J3{op:BoolOp}(h:QaX):bU X CL b (.BoolOp op [e] pos) U t δ1:=λH Z Y ts vs Q S k=>cC (akC cQ) QiM
def RG(h:Qig)(h2:p=true->bU X CL b QsV δ1 (.sh (.bl q)) δ1):bU X CL b QsW U (.sh (.bl (p&&q))) δ1:=λH Z Y ts vs Q S k=>
 cC (akD cQ cQ) (h H Z Y ts vs _ S λv H1 Z1 c k1 a=>by
  have hv:=by have:=a.view;exact this.sc rfl
  refine#[p,hv,?_];cases p with
  | true=>exact Ry Qqk
  | false=>exact Rx (k _ H1 Z1 c k1 (a.pop.push Qfq)))
def Pe(h:Qig)(h2:p=false->bU X CL b Qtc δ1 (.sh (.bl q)) δ1):bU X CL b Qtd U (.sh (.bl (p || q))) δ1:=λH Z Y ts vs Q S k=>
 cC (apv cQ cQ) (h H Z Y ts vs _ S λv H1 Z1 c k1 a=>by
  have hv:=by have:=a.view;exact this.sc rfl
  refine#[p,hv,?_];cases p with
  | true=>exact Ry (k _ H1 Z1 c k1 (a.pop.push Qb6))
  | false=>exact Rx Qqk)
def alm(h:Qig):bU X CL b Quw U (.sh (.bl (!p))) δ1:=λH Z Y ts vs Q S k=>
 cC (L2.akE cQ) (h H Z Y ts vs _ S λv H1 Z1 c k1 a=>#[p,by have:=a.view;rw[T.fC]at this;exact this.sc rfl,k _ H1 Z1 c k1 (a.pop.push (.bl (!p)))])
theorem aln(h:Qce)(h1:p=true->bU X CL b e1 δ1 t U2)(h2:p=false->bU X CL b e2 δ1 t U2):bU X CL b (.IfExp e e1 e2 pos) U t U2:=λH Z Y ts vs Q S k=>
 cC (aam rr cQ cQ) (h H Z Y ts vs _ S λH1 Z1 d k1 f=>by
  cases p with
  | true=>exact Ry (h1 rfl H1 Z1 Y ts vs _ f λv H2 Z2 a k2 c=>k v H2 Z2 QoU Qao c)
  | false=>exact Rx (h2 rfl H1 Z1 Y ts vs _ f λv H2 Z2 a k2 c=>k v H2 Z2 QoU Qao c))
variable{k:Int}
theorem Dn(r:QfO)(h:Qhn):∃v,wg vs k=some v/\bL K CL Z d v:=by
 unfold wg at h ⊢;rw[<- r.length];cases e:oo _ k with
 | none=>rw[e]at h;cases h
 | some j=>
  rw[e]at h;exact r.get h
def aD(h1:cN X CL b e1 U Qd8 δ1)(h2:QfP)(l:Qhn)(hs:vt e2:=by exactλ_ _=>rfl):cN X CL b Qc5 U d U2:=λH Z Y ts vs Q S kk=>
 cC QwU (h1 H Z Y ts vs _ S λv1 H1 Z1 e k1 n i=>h2 H1 Z1 Y ts vs _ n λv2 H2 Z2 c k2 m h=>by
  have a:=i.mono k2;obtain⟨_,_,rfl,j,g⟩:=a.qy;obtain⟨v,hv,f⟩:=Dn g l;exact#[_,_,k,v,rfl,h.sc rfl,j,hv,kk v H2 Z2 QjR Qao m f])
def bz(h1:Ql0)(h2:QfP)(l:Qhn)(hs:vt e2:=by exactλ_ _=>rfl):cN X CL b Qc5 U d U2:=λH Z Y ts vs Q S kk=>
 cC QwV (h1 H Z Y ts vs _ S λv1 H1 Z1 e k1 n i=>h2 H1 Z1 Y ts vs _ n λv2 H2 Z2 c k2 m h=>by
  have a:=i.mono k2;obtain⟨_,_,rfl,j,g⟩:=a.iM;obtain⟨v,hv,f⟩:=Dn g l;exact#[_,_,k,v,rfl,h.sc rfl,j,hv,kk v H2 Z2 QjR Qao m f])
variable{x:Str}
def X1{c:Nat}(h1:Qma)(h2:QfP)(hl:x.length<=sizeLine)(g:wg x.cps.toList k=some c)(hs:vt e2:=by exactλ_ _=>rfl):bU X CL b Qc5 U (.sh (.str #[(List.toArray [c])])) U2:=λH Z Y ts vs Q S kk=>
 cC (NS ak5 cQ cQ hs) (h1 H Z Y ts vs _ S λv1 H1 Z1 d k1 i f=>h2 H1 Z1 Y ts vs _ i λv2 H2 Z2 a k2 h e=>
  #[x,k,c,f.sc rfl,e.sc rfl,hl,g,kk _ H2 Z2 QoU Qao (h.push (.str _))])
def cy(h1:Ql1)(h2:QfP)(j:Qhn)(hs:vt e2:=by exactλ_ _=>rfl):bU X CL b Qc5 U Qbb U2:=λH Z Y ts vs Q S kk=>
 cC QwU (h1 H Z Y ts vs _ S λv1 H1 Z1 e k1 l=>h2 H1 Z1 Y _ _ _ l λv2 H2 Z2 c k2 a h=>by
  obtain⟨fp,gp,_,r,_,_⟩:=a.rep;cases r with
  | cons r _=>
   replace r:=r.Gz;obtain⟨rfl,r⟩:=r;obtain⟨_,_,rfl,i,g⟩:=r.qy;obtain⟨v,hv,f⟩:=Dn g j;exact#[_,_,k,v,rfl,h.sc rfl,aC.N5 a.zh i,hv,kk v H2 Z2 QjR Qao QxG])
def J4(h1:bU X CL b e1 U Qe1 δ1)(h2:QfP)(j:Qhn)(hs:vt e2:=by exactλ_ _=>rfl):bU X CL b Qc5 U Qbb U2:=λH Z Y ts vs Q S kk=>
 cC QwV (h1 H Z Y ts vs _ S λv1 H1 Z1 e k1 l=>h2 H1 Z1 Y _ _ _ l λv2 H2 Z2 c k2 a h=>by
  obtain⟨fp,gp,_,r,_,_⟩:=a.rep;cases r with
  | cons r _=>
   replace r:=r.Gz;obtain⟨rfl,r⟩:=r;obtain⟨_,_,rfl,i,g⟩:=r.iM;obtain⟨v,hv,f⟩:=Dn g j;exact#[_,_,k,v,rfl,h.sc rfl,a.zh.seq i,hv,kk v H2 Z2 QjR Qao QxG])
theorem bD.qz:∀{ds:At} {us:B0} {ts:Bz} {vs:B0},aB K CL Z ds us->bD K CL b H Z U Y ts vs->bD K CL b H Z U Y ((ds.map T.sh).reverse++ts) QdL
 | _,_,_,_,.nil,S=>S
 | _,_,ts,vs,.cons r t,S=>by
  rw[lx,rf,rf,ka,ka];exact bD.qz t (S.push r)
theorem bD.drops(S:Qr3)(hl:Qm7):bD K CL b H Z U Y ts vs:=by
 induction tl generalizing us with
 | nil=>
  cases us with
  | nil=>exact S
  | cons _ _=>simp at hl
 | cons t tl a=>
  cases us with
  | nil=>simp at hl
  | cons u us=>exact a S.pop WA
theorem bD.yM{ds:At}(S:bD K CL b H Z U Y ((ds.map T.sh).reverse++ts) QdL)(hl:us.length=ds.length):aB K CL Z ds us:=by
 obtain⟨fp,gp,e,r,nd,k⟩:=S.rep;obtain⟨g1,g2,g,a,d⟩:=aU.split (by simp[hl]) r;obtain⟨f,c,pm⟩:=a.rev;exact c.toF.1
section
variable{pp:Pos}{ds:At}
def yN(hm:Qoe)(h:Qc3)(f:QpC:=by rfl)(hs:Qaz:=by exact bq rfl)(hpl:(backTo pos (starEach ([]:Cf) X.env)).any (·.1)=false:=by rfl):bU X CL b Qlk U QtK δ1:=λH Z Y ts vs Q S k=>
 cC QqV (h H Z Y ts vs _ S λv H1 Z1 a k1 g r=>by
  obtain⟨_,_,rfl,d,c⟩:=r.iM;exact#[_,_,rfl,.inl d,c.length▸k _ H1 Z1 a k1 QwW ])
def m5(hm:Qoe)(h:cN X CL b e U Qd8 δ1)(f:QpC:=by rfl)(hs:Qaz:=by exact bq rfl):bU X CL b Qlk U QtK δ1:=λH Z Y ts vs Q S k=>
 cC QqV (h H Z Y ts vs _ S λv H1 Z1 a k1 g r=>by
  obtain⟨_,_,rfl,d,c⟩:=r.qy;exact#[_,_,rfl,.inr d,by rw[<- c.length];exact k _ H1 Z1 a k1 QwW])
def qA(hm:QfQ)(h:Qt6)(i:QfR:=by rfl)(hv:QsX:=by rfl)(hs:Qaz:=by exact bq rfl):bU X CL b Qli U QdP δ1:=λH Z Y ts vs Q S k=>
 cC QrU (h H Z Y ts vs _ S λv H1 Z1 f k1 a=>by
  obtain⟨fp,gp,_,r,_,_⟩:=a.rep;cases r with
  | cons r _=>
   replace r:=r.Gz;obtain⟨rfl,r⟩:=r;obtain⟨_,_,rfl,g,d⟩:=r.qy;refine#[_,_,rfl,.inr (aC.N5 a.zh g),λl hl=>?_];obtain⟨c,j⟩:=(bD.qz d a.pop).nO (g0:=[]) (by simp[d.length]) hl;exact k _ _ _ f Qcw j)
def cL(hm:QfQ)(h:Qc3)(hi:Qdy)(i:QfR:=by rfl)(hv:QsX:=by rfl)(hs:Qaz:=by exact bq rfl):bU X CL b Qli U QdP δ1:=λH Z Y ts vs Q S k=>
 cC QrU (h H Z Y ts vs _ S λv H1 Z1 f k1 d r=>by
  obtain⟨_,_,rfl,g,a⟩:=r.iM;refine#[_,_,rfl,.inl g,λl hl=>?_];obtain⟨c,j⟩:=(bD.qz (aB.mZ d.tp hi a) d).nO (g0:=[]) (by simp[a.length]) hl;exact k _ _ _ f Qcw j)
def N9(K:Frag)(CL:BM){A:Type}(n:Nat)(arg:Qah)(Pre:Qab)(res:QaV):Sp:=λvs H Q _=>
 ∃(W:Hp) (a:A),aC W H/\(∀c o,H c=some o->jH o=true->W c=some o)/\aB K CL W Qcx vs/\(arg a).length=n/\Pre a/\nM CL W ∧
  ∀v H' W' fp,aC H H'->aC W W'->aC W' H'->(∀c o,W' c=some o->W c=none->H c=none)->(∀c o,H' c=some o->jH o=true->W' c=some o) →
   bO K CL H' W' QbT v fp->fp.Nodup->(∀c∈fp,W' c=none/\H c=none)->Q v H'
variable{A:Type}{k n:Nat}{f:Addr}{fd:QaU}{ps:BA}{arg:Qah}{Pre:Qab}{res:QaV}
def afH(a:A)(F:QqR)(m:Qdr)(hm:Qhf)(p:Qhg)(u:Qho)
  (h:Qhp) (hn:QbZ) (o:Pre a) (t:Qnt) (s:Qaw)
  (l:AD x:=by decide) (he:Qaq:=by exact bq rfl) (hpl:QaE:=by rfl) :
  bU X CL b Qbo U QbT δ1:=λH Z Y ts vs Q S kk=>
 cC (Dl F m s hm p u .nil Cg JW l he hpl) (h H Z Y ts vs _ S λus H1 Z1 g k1 c r=>by
  rw[ko];refine#[H1,a,.refl _,λ_ _ q _=>q,r,hn,o,c.N8,λv H' W' fp d ww j nw tp rt nd own=>?_];obtain⟨Z',i,y⟩:=c.back d c.zh ww j nw tp rt nd own (.inr t);exact kk v H' Z' (g.trans i) (k1.trans d) y)
theorem aaY(a:A)(F:QqR)(o:Qdr)(hm:Qhf)(q:Qhg)(s:Qho)
  (h:Qh0) (hn:QbZ) (p:Pre a) (r:Qaw)
  (m:AD x:=by decide) (he:Qaq:=by exact bq rfl) (hpl:QaE:=by rfl) :
  bU X CL b Qbo U QbT δ1:=λH Z Y ts vs Q S kk=>
 cC (Dl F o r hm q s .nil Cg JW m he hpl) (h H Z Y ts vs _ S λus H1 Z1 hl i k1 d=>by
  rw[ko];have c:us.length=(arg a).length:=by simp_all
  have t:=d.drops (by simp[c]);refine#[Z1,a,d.zh,d.tp,d.yM c,hn,p,d.N7,λv H' W' fp g ww l nw tp rt nd own=>?_];obtain⟨Z',j,u⟩:=t.back g QA ww l nw tp rt nd own Qaj;exact kk v H' Z' (i.trans j) (k1.trans g) u)
variable{D D':dI}{st:Stmt}{fD ap8:CO}
theorem Meets.to{E:Ends}(M:Qt4)(h1:∀U,D'.nx U->D.nx U)(h2:∀t U,D'.rt t U->D.rt t U)(c:∀U,D'.bk U->D.bk U)(a:∀U,D'.ct U->D.ct U):Meets K CL b Z ts vs D' E:=
 #[λ_ _ _ _ s S k=>M.nx _ _ _ _ s S (h1 _ k),λ_ _ _ _ _ _ s S k=>M.rt _ _ _ _ _ _ s S (h2 _ _ k),λ_ _ _ _ s S k=>M.bk _ _ _ _ s S (c _ k),λ_ _ _ _ s S k=>M.ct _ _ _ _ s S (a _ k)]
def aj(h:D.nx U):c7 X CL b [] U D:=λH Z Y ts vs E S M=>Kq afa (M.nx U Y H Z QA S h)
def b8(h:Z9 X CL b st U {D with nx:=λδ1=>c7 X CL b fD δ1 D}):c7 X CL b (st::fD) U D:=λH Z Y ts vs E S M=>
 Kq (Nx NJ oa) (h H Z Y ts vs _ S #[λU' Y' H' Z' s a k=>k H' Z' Y' ts vs E a (M.mono s),M.rt,M.bk,M.ct])
def aaZ(h:D.bk U):Z9 X CL b (.Break pos) U D:=λH Z Y ts vs E S M=>oH aan (M.bk U Y H Z QA S h)
def afI(h:D.ct U):Z9 X CL b QwK U D:=λH Z Y ts vs E S M=>oH Ny (M.ct U Y H Z QA S h)
def alo(h:QaX)(k:D.rt t δ1):Z9 X CL b Qyh U D:=λH Z Y ts vs E S M=>oH (akG cQ) (h H Z Y ts vs _ S λv H1 Z1 a k1 c=>M.rt t v H1 Z1 δ1 Y a c k)
theorem ap9(h:Qce)(h1:p=true->c7 X CL b fD δ1 D)(h2:p=false->c7 X CL b ap8 δ1 D):Z9 X CL b (.If e fD ap8 pos) U D:=λH Z Y ts vs E S M=>
 oH (apz rr oa oa) (h H Z Y ts vs _ S λH1 Z1 a k1 c=>by
  cases p with
  | true=>exact Ry (h1 rfl H1 Z1 Y ts vs E c (M.mono a))
  | false=>exact Rx (h2 rfl H1 Z1 Y ts vs E c (M.mono a)))
def RH(i:Nat){pos':Pos}(h:QaX)(k:Qux)(hl:QcY:=by decide)(d:QbH:=by assumption)(hi:X.N[i]? = some x:=by rfl)(c:Qej:=by first|exact .inl rfl|exact .inr rfl)
  (hs:QdC:=by rfl) (hf:Qek:=by first|exact .inl rfl|exact .inr rfl|assumption):Z9 X CL b QlF U D:=λH Z Y ts vs E S M=>
 oH Qu1 (h H Z Y ts vs _ S λv H1 Z1 a k1 f=>M.nx _ _ H1 Z1 a (f.set hl) k)
end
noncomputable def entry(N:BA)(ds:At):BB:=ds.map QiC++List.replicate (N.length-ds.length) none
theorem nP{K:Frag}{CL:BM}{H Z:Hp}:∀{ds:At} {vs:B0} (n:Nat),aB K CL Z ds vs->gu K CL H Z (ds.map QiC++List.replicate n none) Qln []
 | _,_,0,.nil=>.nil
 | _,_,n+1,.nil=>.skip (nP n .nil)
 | _,_,n,.cons r t=>.cons Qkr (nP n t)
variable{P:Qat}{w:World}{mg:Bi}{base:Heap}{qual:Str}{st:Stmt}{f:Addr}{fd:QaU}{N ps:BA}
def J5{k:Nat}{sp:Sp}(F:Qds)(S:Qdt)(len:∀vs H Q E,sp vs H Q E->vs.length=ps.length)
  (b:∀(ez:Value) (A:Qav) (outer:D2) (s:Qb) (H:Hp) (vs:B0) (Q:VK) (E:XK),fd.code=ez->fc k Qwo->sp vs H Q E →
   ∃t,Rg (tS oG P w K mg base N qual Qa6 f ez A outer s H E).Q6 QbV t/\t {nx:=λ_ H'=>Q .non H',rt:=Q} (L2.start N vs) H):dg P w K mg base oG QaZ f fd ps sp:=by
 obtain⟨dV,oc,od,kV,doc,pm,an,ez,ct,GH,rfl,lk,jO⟩:=F.ex;refine Mc lk jO S len λA outer s H vs Q E a c=>?_;obtain⟨t,h,q⟩:=b ez A _ s H vs Q E rfl a c;exact#[t,h.Q6,q]
variable{A:Type}
theorem j8{k:Nat}{arg:Qah}{Pre:Qab}{res:QaV}(F:Qds)(S:Qdt)
  (p:∀(ez:Value) (g:Qav) (outer:D2) (s:Qb) (H:Hp) (E:XK) (b:Bx) (a:A),fd.code=ez->fc k (g.deeper Qf3)->Pre a →
   c7 (tS oG P w K mg base N qual Qa6 f ez g outer s H E).Q6 CL b QbV Qje {nx:=λ_=>res a=.sh .non,rt:=λt _=>t=res a}) :
  dg P w K mg base oG QaZ f fd ps Qr4:=by
 refine J5 F S (λvs H Q E h=>?_) (λez g outer s H vs Q E jO m h=>?_)
 .obtain⟨W,a,_,_,r,hl,_⟩:=h;rw[<- r.length];exact hl
 .obtain⟨W,a,i,tp,r,hl,n,tb,kk⟩:=h;refine#[_,oa,p ez g _ s H E #[H,W] a jO m n H W _ [] [] _ #[#[[],[],?_,.nil,oy,λa d=>by cases d],.refl _,.refl _,i,λa o q z=>?_,tp,tb] #[λU' Y' H' Z' s' c e=>?_,λt v H' Z' U' Y' s' c e=>?_,λ_ _ _ _ _ _ e=>e.elim,λ_ _ _ _ _ _ e=>e.elim]]
  .unfold entry L2.start;rw[<- r.length];exact nP _ r
  .grind
  .exact kk .non H' Z' [] c.bh c.zz c.zh c.new c.tp (by rw[e];exact .sh .non) oy λa d=>by cases d
  .have u:=e;subst u;obtain⟨fp,gp,_,l,nd,own⟩:=c.rep;cases l with
   | @cons _ _ _ _ f1 f2 j y=>
    have h1:=(ma.1 nd).2.1;exact kk v H' Z' f1 c.bh c.zz c.zh c.new c.tp j (ma.1 h1).1 λa d=>own a (jN _ (kq _ d))
variable{prog:Qat}{A:Qav}{R:QtI}{s:Qb}{elt iter:Expr}{ifs:Cf}{scope:Scope}
theorem J6{target:Expr}{it acc:Value}(I:Nat->Shared->Prop)
  (turn:∀n s,I n s->wpAny Qay A (pyNext it) (λr d=>match r with
   | none=>R QjS d
   | some v=>wpAny Qay A (letOwnedTupleGo target it v) (λ_ b=>wpAny Qay A (assign target env v) (λ_ g=>
     wpAny Qay A (forIn ifs true λc r=>if r=true then do let ok ← isTrue c env (eval c env);pure Quy else pure QmP) (λok a=>
      if ok=true then wpAny Qay A (eval elt env) (λx f=>
       wpAny Qay A (call (.builtin "list.append") [acc,x]) (λ_ e=>∃m,m<n/\I m e) Qby f) Qby a
      else ∃m,m<n/\I m a) Qby g) Qby b) Qby d) Qby s)
  (n:Nat) (h:I n s) :
  codeAny Qay A (.compLoop (.ListComp elt [#[target,iter,ifs,0]] scope pos) 0 it acc env) R s:=by
 refine codeAny_loop rfl I (λn s q=>?_) n h;refine wpAny_noted ?_;rw[compTurn_list];refine ec (wpAny_standAt (ec (me (turn n s q) (λr d j=>?_) λ_ _ h'=>h'.elim)));cases r with
 | none=>exact j3 j
 | some v=>
  refine ec (me j (λ_ b k=>?_) λ_ _ h'=>h'.elim);refine ec (me k (λ_ g p=>ec (me p (λok a i=>?_) λ_ _ h'=>h'.elim)) λ_ _ h'=>h'.elim);cases ok with
  | false=>exact j3 #[rfl,i]
  | true=>
   exact ec (ec (me i (λx f o=>ec (me o (λ_ e l=>j3 (j3 #[rfl,l])) λ_ _ h'=>h'.elim)) λ_ _ h'=>h'.elim))
abbrev _root_.DO:=List (Str×NameKind)
noncomputable def fj(env:Env):DO->List QlA->List QlA
 | [],cs=>cs
 | (n,k)::r,cs=>fj env r (if k == .free then(n,(env.cells.lookup n).getD 0)::cs else cs)
theorem pI(h:∀x∈scope.names,x.2=.free->∃c,env.cells.lookup x.1=some c):closureFor scope env=pure (fj env scope.names []):=by
 have go:∀(l:Qem) (cs:Qem),(∀x∈l,x.2=.free->∃c,env.cells.lookup x.1=some c) →
   (forIn l cs λx r=>match x with|(name,kind)=>if (kind==NameKind.free)=true then do let a ← cellOf env name;pure (ForInStep.yield ((name,a)::r)) else pure QmP:Sem _)=pure (fj env l cs):=by
  intro l
  induction l with
  | nil=>intro cs _;rfl
  | cons x r f=>
   intro cs d;obtain⟨n,k⟩:=x;rw[List.forIn_cons];by_cases j:k=.free
   .subst j;obtain⟨c,g⟩:=d _ iB rfl;have e:cellOf env n=pure c:=by unfold cellOf;rw[g]
    simp only[w4,if_true,e,pure_bind];rw[f _ λy b=>d y (i3 _ b)];simp[fj,if_true];rw[g];rfl
   .have i:Qm8=false:=by grind
    simp only[i,sv,if_false,pure_bind];rw[f _ λy b=>d y (i3 _ b)];simp[fj,i,sv,if_false]
 unfold closureFor;have:=go _ [] h;simp only[bind_pure]at this ⊢;exact this
theorem q8{env:Env}:∀{l:DO} {cs:QkE} {y:Str} {c:Addr},(∀x∈l,x.2=.free->∃c,env.cells.lookup x.1=some c)->(∀y c,cs.lookup y=some c->env.cells.lookup y=some c) →
  (fj env l cs).lookup y=some c->env.cells.lookup y=some c
 | [],cs,y,c,_,h,e=>h y c e
 | (n,k)::r,cs,y,c,a,h,e=>by
  refine q8 (λz hz=>a z Qfj) (λz d hz=>?_) e;by_cases b:k=.free
  .subst b;obtain⟨g,f⟩:=a _ iB rfl;grind
  simp_all
theorem Cm{env:Env}{y:Str}:∀{l:DO} {cs:QkE},(∃c,cs.lookup y=some c)->∃c,(fj env l cs).lookup y=some c
 | [],cs,h=>h
 | (n,k)::r,cs,h=>by
  refine Cm (l:=r) ?_;by_cases a:Qm8=true
  .rw[cq a,mx];by_cases b:(y==n)=true
   .rw[b];simp_all
   .have:(y==n)=false:=by simp_all
    rw[this];exact h
  .rw[bW a];exact h
theorem nQ{env:Env}{y:Str}:∀{l:DO} {cs:QkE},l.lookup y=some .free->∃c,(fj env l cs).lookup y=some c
 | [],_,h=>by simp at h
 | (n,k)::r,cs,h=>by
  rw[mx]at h;by_cases a:(y==n)=true
  .refine Cm (l:=r) ?_;simp_all
  .have:(y==n)=false:=by simp_all
   rw[this]at h;exact nQ (l:=r) h
def dO(X:Cx)(scope:Scope)(Nc:BA)(C:Addr)(s:Qb)(H:Hp)(fp:BY):Cx where
 prog:=X.prog
 w:=X.w
 K:=X.K
 mg:=X.mg
 base:=X.base
 A:=X.A
 N:=Nc
 jj:=s
 mB:=H
 env:=compEnvC scope Qcg C X.env
 outer:=X.stack
 stack:=X.stack
 ex:=fp
 fn:=λ_=>false
 calm:=X.calm
 pn:=[]
 xe:=λ_ _=>False
abbrev _root_.Ch:=List Nat
structure iV(X:Cx)(scope:Scope)(x:Str)(Nc:BA)(ix:Ch):Prop where
 kind:scope.kind=.function
 A4:∀y∈scope.names,y.2 ≠ .cell
 nd:Nc.Nodup
 names:∀y∈scope.names,y.2=.local->scope.names.lookup y.1=some .local
 own:scope.names.lookup x=some .local
 frees:∀y∈scope.names,y.2=.free->scope.names.lookup y.1=some .free/\QqS
 hd:Nc=x::ix.filterMap (X.N[·]?)
 r0:∀i∈ix,∃y,X.N[i]? = some y/\scope.names.lookup y=some .free
theorem iP{env:Env}:∀{names:DO} {x:Str} {k:NameKind},names.lookup x=some k ->
  (names.map λ(n,k)=>if (k==NameKind.free&&env.scope.kind == .function&&env.kindOf n==some .cell) then(n,NameKind.cell) else(n,k)).lookup x=some (if (k==NameKind.free&&env.scope.kind == .function&&env.kindOf x==some .cell) then .cell else k)
 | [],_,_,h=>by simp at h
 | (n,k')::r,x,k,h=>by
  have b:=@iP env r x k;show List.lookup x (Qp9::_)=_;cases a:x==n with
  | true=>
   simp[mx,a]at h;cases h;have e:x=n:=by grind
   subst e;split<;>simp
  | false=>
   simp[mx,a]at h;split
   .simp only[mx,a];exact b h
   .simp only[mx,a];exact b h
theorem mR{env:Env}:∀{names:DO} {x:Str},names.lookup x=none ->
  (names.map λ(n,k)=>if (k==NameKind.free&&env.scope.kind == .function&&env.kindOf n==some .cell) then(n,NameKind.cell) else(n,k)).lookup x=none
 | [],_,_=>rfl
 | (n,k')::r,x,h=>by
  have b:=@mR env r x;show List.lookup x (Qp9::_)=_;cases a:x==n with
  | true=>simp only[mx,a]at h;cases h
  | false=>
   simp only[mx,a]at h;split
   .simp only[mx,a];exact b h
   .simp only[mx,a];exact b h
variable{Nc:BA}{ix:Ch}{pins:BC}
noncomputable def A5(Y:L2.St)(ix:Ch)(o:Qen):L2.St:=o::ix.map λi=>(Y[i]?).getD none
theorem XY{l:BC}{Y':L2.St}{s':Qb}{f:Heap}(I:QE)(i:∀b∈fp,mX X pins H b)
  (J:Inv Qrh l Y' H' s') (hs:Heap.SameBut s.heap.objs.size s'.heap f):Inv X pins Y H' {s' with heap:=f}:=by
 have un:Un QbB fp H H' s.heap _:=J.base;have j:Un QbB fp H H' s.heap f:=by
  have ne:∀b o,s.heap.get? b=some o->b≠s.heap.objs.size:=λb o e=>l1 (kr e);refine#[λb o e n a h=>(hs.2 b Qpr).trans (un.keep b o e n a h),λb o e n a h=>?_,un.free,λb o e h=>?_,un.yx,un.dB,un.yy]
  .obtain⟨sl,q⟩:=un.slot b o e n a h;exact#[sl,(hs.2 b Qpr).trans q]
  .obtain⟨o',q⟩:=un.there b o e h;exact#[o',(hs.2 b Qpr).trans q]
 have m:H' s.heap.objs.size=none:=J.free;have cV:=λb u e=>by
  refine(J.cV b u e).C3 (λc v r q=>(hs.2 c ?_).trans q) QcQ λ_ _ q=>q;rintro rfl;grind
 obtain⟨p,g,d,t,k⟩:=s';obtain rfl:k=s.os:=J.os;exact I.call j cV J.bare λb a=>#[(i b a).2.2.2.1,(i b a).2.1,(i b a).2.2.2.2.1,(i b a).2.2.2.2.2]
def Kk(X:Cx):Cf->TT
 | []=>λ_ H Q=>Q true H
 | [c]=>yl X c
 | _=>λ_ _ _=>False
def aa0(I:QE)(h:Kk X ifs Y H Q)(a:Qeo) :
  wpAny Qr X.A (forIn ifs true λc r=>if r=true then do let ok ← isTrue c X.env (eval c X.env);pure Quy else pure QmP) Qe3 Qby s:=by
 match ifs,h with
 | [],h=>exact wpAny_tests_nil #[H,I,h]
 | [c],h=>
  have:=h pins s I;rw[a]at this;exact wpAny_tests_one this
def IH(X:Cx)(CL:BM)(b:Bx)(ifs:Cf)(U:BB)(p:Bool):Prop:=
 match ifs with
 | []=>p=true
 | [c]=>qW X CL b c U p U
 | _=>False
theorem IH.sem(h:IH X CL b ifs U p)(S:bD X.K CL b H Z U Y [] [])
  (k:∀H' Z',aC Z Z'->aC H H'->bD X.K CL b H' Z' U Y [] []->Q p H'):Kk X ifs Y H Q:=by
 match ifs,h with
 | [],h=>
  have e:=h;subst e;exact k H Z QA QA S
 | [c],h=>exact(h) H Z Y [] [] Q S k
def A6:(T.lst ts).clean=T.gi ts:=rfl
theorem D3{g:D->T}:∀{ds:At},(∀d∈ds,(g d).clean=true)->T.gi Qpi=true
 | [],_=>rfl
 | d::ds,h=>by
  rw[lx,T.gi,h d iB,D3 λe he=>h e QgR];rfl
theorem aU.at:∀{tl:Bz} {us:B0} {fp:BY} {j:Nat} {t:T},aU K CL H Z tl us fp->tl[j]? = some t->∃v f1 f2 b,us[j]? = some v/\fp=f1++(f2++b)/\bO K CL H Z t v f2 ∧
  ∀{H':Hp} {t':T} {v':V} {g:BY},(∀a∈f1++b,H' a=H a)->bO K CL H' Z t' v' g->aU K CL H' Z (tl.set j t') (us.set j v') QoV
 | _,_,_,_,_,.nil,e=>by simp at e
 | _,_,_,0,_,.cons (fp:=fp) (gp:=gp) r q,e=>by
  simp at e;subst e;exact#[_,[],fp,gp,rfl,rfl,r,λ{H' t' v' g} k c=>aU.cons (fp:=g) c (aU.mono QA (λa d=>k a (‹_›)) q)]
 | _,_,_,j+1,t,.cons (fp:=fp) r q,e=>by
  obtain⟨v,f1,f2,b,h1,h2,h,f⟩:=aU.at q (‹_›);refine#[v,fp++f1,f2,b,‹_›,WA,h,λk c=>?_];rw[ka];exact .cons (r.mono QA λa d=>k a (by simp[d])) (f (λa d=>k a WA) c)
variable{α:Type}
theorem jk{l:Qaf}{x:α}(h:l[i]? = some x):l.set i x=l:=by
 apply Hn;intro j;rw[List.getElem?_set];split
 .rename_i e;subst e;split
  .exact h.symm
  grind
 .rfl
variable{gp:BY}
theorem bD.write{f1 f2 d g f:BY}(S:QaA)(nd:(Qfa++gp).Nodup)(own:∀c∈Qfa++gp,Z c=none/\b.B c=none)(k:a∈f2)
  (m:∃o,H a=some o) (l:gu K CL QnA Z U2 Y QjK) (j:aU K CL QnA Z tl us f) (pm:(QjK++f).Nodup) (sub:∀c∈QjK++f,c∈Qfa++gp) :
  bD K CL b QnA Z U2 Y tl us:=by
 have h:=own a (by simp[k]);refine#[#[_,_,l,j,pm,λc e=>own c (sub c e)],λc o q=>?_,S.zz,λc o q=>?_,S.new,λc o q i=>?_,S.tab]
 .rw[ay (aL q h.2)];exact S.bh c o q
 .rw[ay (aL q h.1)];exact S.zh c o q
 .by_cases e:c=a
  .subst e;rw[aO]at q;cases q;cases i
  .rw[ay e]at q;exact S.tp c o q i
theorem bD.append(S:Qci)(hi:U[i]? = some Qfh) :
  ∃a us,Y[i]? = some Qoz/\H a=some Qff/\us.length=tl.length/\bD K CL b Qtv Z (U.set i Qgb) Y ts vs:=by
 obtain⟨fp,gp,e,r,nd,k⟩:=S.rep;obtain⟨v0,f1,f2,l,hv,o,rt,put,_⟩:=e.get hi;subst o;obtain⟨a,us,g,rfl,rfl,n,rs⟩:=rt.iM;cases r with
 | @cons _ _ _ _ j f q1 q=>
  have ne:∀c∈(f1++(g++l))++(j++f),c≠a:=λc d e=>by
   subst e;have m:((f1++((c::g)++l))++(j++f)).Perm (c::((f1++(g++l))++(j++f))):=by simp
   exact(ml.1 (m.nodup_iff.1 nd)).1 d
  refine#[a,us,hv,n,rs.length.symm,?_];have p:bO K CL _ Z _ Qag _:=
   .lst aO (aU.app (rs.mono QA λc d=>ay (ne c (by simp[d]))) (.cons (q1.mono QA λc d=>ay (ne c (by simp[d]))) .nil))
  have e2:=put QA (λc d=>ay (ne c (by
   obtain h|h:=i8.1 d
   .simp[h]
   .simp[h]))) p
  rw[jk hv]at e2;have m:((f1++((a::(g++(j++[])))++l))++f).Perm ((f1++((a::g)++l))++(j++f)):=by
   simp only[ko,nc,ka];refine pE f1 (List.Perm.cons a (pE g ?_));rw[<- ka,<- ka];exact nh.append_right f
  exact S.write nd k (iB) #[_,n] e2 (q.mono QA λc d=>ay (ne c (by simp[d]))) (m.nodup_iff.2 nd) λc d=>m.mem_iff.1 d
section
variable{tl0:Bz}{D:dI}{pp pa pb:Pos}
def alq(i:Nat)(h0:U[i]? = some Qi5)(h:QaX)(h1:δ1[i]? = some Qfh)(hl:tl.length<sizeLine)(k:D.nx (δ1.set i Qgb))
  (hi:X.N[i]? = some x:=by rfl) (hv:QnP:=by first|exact Or.inl rfl|exact Or.inr (Or.inl rfl)|exact Or.inr (Or.inr rfl)) (hd:AD x:=by decide) (jO:AE x:=by decide)
  (j:QkR:=by rfl)
  (r:Qhq:=by rfl)
  (c:Qhr:=by rfl) (hs:Qaz:=by exact bq rfl) (q:Qk3:=by rfl) :
  Z9 X CL b (.Expr QkO pos) U D:=λH Z Y ts vs E S M=>
 oH (yz (NW y3 MW MU vv Qgz QaQ j r c hs rfl) q) (by
  obtain⟨v0,e0,g⟩:=S.look h0;refine#[v0,e0,?_,?_]
  .obtain⟨_,_,rfl,m,_⟩:=g.iM;exact .inl #[rfl,_,m]
  .refine h H Z Y ts vs _ S λv H1 Z1 f k1 p=>?_;obtain⟨a,us,d,n,l,o⟩:=p.append h1;rw[e0]at d;cases d;exact#[a,us,v,rfl,rfl,n,l▸hl,M.nx _ Y _ Z1 f o k])
end
def NU:Option Qlz->Option T
 | some (some t)=>some Qgw
 | _=>none
noncomputable def NG:Option Qlz->Option T
 | some (some (T.sh d))=>some Qbb
 | _=>none
def D4(U:BB)(ix:Ch):BB:=ix.map λi=>NU U[i]?
def Oa(U:BB)(ix:Ch):BB:=ix.map λi=>NG U[i]?
theorem yO(S:QaA):∀(ix:Ch) (H':Hp),gu K CL H' H (D4 U ix) (ix.map λi=>(Y[i]?).getD none) []
 | [],_=>.nil
 | i::r,H'=>by
  have a:=yO S r H';show gu K CL H' H (NU _::D4 U r) (((Y[i]?).getD none)::r.map _) [];cases e:U[i]? with
  | none=>exact .skip a
  | some o=>
   cases o with
   | none=>exact .skip a
   | some t=>
    obtain⟨v,hv,c⟩:=S.look e;rw[hv];exact .cons (.sh c) a
theorem Ob(S:QaA):∀(ix:Ch) (H':Hp),gu K CL H' Z (Oa U ix) (ix.map λi=>(Y[i]?).getD none) []
 | [],_=>.nil
 | i::r,H'=>by
  have a:=Ob S r H';show gu K CL H' Z (NG _::Oa U r) (((Y[i]?).getD none)::r.map _) [];cases e:U[i]? with
  | none=>exact .skip a
  | some o=>
   cases o with
   | none=>exact .skip a
   | some t=>
    cases t with
    | sh d=>
     obtain⟨v,hv,c⟩:=S.L9 e;rw[hv];exact .cons (.sh c) a
    | tup _=>exact .skip a
    | lst _=>exact .skip a
    | ins _ _=>exact .skip a
    | kT _=>exact .skip a
    | dct _=>exact .skip a
    | pin _ _=>exact .skip a
    | lH _ _ _=>exact .skip a
section
variable{ds:At}
structure Comes(X:Cx)(CL:BM)(b:Bx)(δ1:BB)(Y:L2.St)(ts:Bz)(vs:B0)(Z H:Hp)(ds:At)(J:It)(H1:Hp):Prop where
 ex:∃Z1 us,aC Z Z1/\aC H H1/\bD X.K CL b H1 Z1 δ1 Y ts vs/\aB X.K CL Z1 ds us/\(∀i H2,aC Z1 H2->i<ds.length->J.go i H2) ∧
  (∀i H2 x H',aC Z1 H2->i<ds.length->J.o3 i H2 x H'->H'=H2/\us[i]? = some x)/\(∀H2,aC Z1 H2->J.stop ds.length H2)
def ql(X:Cx)(CL:BM)(b:Bx)(tg e:Expr)(U:BB)(ds:At)(δ1:BB):Prop:=
 ∃a,PI X tg e a/\∀(H Z:Hp) (Y:L2.St) (ts:Bz) (vs:B0) (R:Qg9),bD X.K CL b H Z U Y ts vs->(∀J H1,Comes X CL b δ1 Y ts vs Z H ds J H1->R J H1)->a Y H R
theorem dZ{tg:Expr}(h:bU X CL b iter U Qe1 δ1):ql X CL b tg iter U ds δ1:=by
 refine#[_,Vi cQ,λH Z Y ts vs R S k=>h H Z Y ts vs _ S λv H1 Z1 g k1 e=>?_];obtain⟨fp,gp,_,r,_,_⟩:=e.rep;cases r with
 | cons r _=>
  replace r:=r.Gz;obtain⟨rfl,r⟩:=r;obtain⟨a,us,rfl,c,d⟩:=r.iM;refine#[a,rfl,#[us,e.zh.seq c],k _ _ #[Z1,us,g,k1,e.pop,d,λi H2 s hi=>?_,λi H2 y H' s hi f=>#[f.1,f.2 us (s.seq c)],λH2 s=>#[us,s.seq c,by rw[d.length];grind]]];have j:=d.length▸hi;exact#[us,us[i],s.seq c,Wp]
theorem RJ{tg:Expr}(h:bU X CL b iter U QdH δ1):ql X CL b tg iter U ds δ1:=by
 refine#[_,akP cQ,λH Z Y ts vs R S k=>h H Z Y ts vs _ S λv H1 Z1 g k1 e=>?_];obtain⟨fp,gp,_,r,_,_⟩:=e.rep;cases r with
 | cons r _=>
  replace r:=r.Gz;obtain⟨rfl,r⟩:=r;obtain⟨a,us,rfl,c,d⟩:=r.qy;refine#[a,rfl,#[us,aC.N5 e.zh c],k _ _ #[Z1,us,g,k1,e.pop,d,λi H2 s hi=>?_,λi H2 y H' s hi f=>#[f.1,f.2 us (aC.N5 s c)],λH2 s=>#[us,aC.N5 s c,by rw[d.length];grind]]];have j:=d.length▸hi;exact#[us,us[i],aC.N5 s c,Wp]
noncomputable def b9(lo:Int)(n:Nat):At:=(List.range n).map λ(i:Nat)=>D.int (lo+i)
def Oc(lo:Int)(n:Nat):aB K CL Z (b9 lo n) ((List.range n).map λ(i:Nat)=>V.int (lo+i)):=by
 unfold b9;generalize List.range n=l
 induction l with
 | nil=>exact .nil
 | cons i r a=>exact .cons Qbs a
theorem eo{tg:Expr}{pr pc:Pos}{n:Int}(hm:Qjd)(h:cN X CL b iter U Qdl δ1)(hn:-(2 ^ 62)<=n/\n<2 ^ 62)(f:QjJ)(e:starEach [iter] X.env=[(false,eval iter X.env)]:=by rfl)(a:AC X iter []:=by exact bq rfl) :
  ql X CL b tg (.Call Qvp [iter] [] pc) U (b9 0 n.toNat) δ1:=by
 refine#[_,Xz f hm (bX cQ dY a) e,λH Z Y ts vs R S k=>h H Z Y ts vs _ S λv H1 Z1 d k1 g r=>#[n,by rw[r.sc rfl],hn.1,hn.2,k _ _ #[Z1,_,d,k1,g,Oc 0 _,λi H2 s hi=>?_,λi H2 y H' s hi c=>?_,λH2 s=>?_]]]
 .show i<n.toNat;have:(b9 0 n.toNat).length=n.toNat:=by simp[b9]
  lia
 .have j:i<n.toNat:=by simpa [b9] using hi
  refine#[c.1,?_];rw[k4,pj j,c.2];rfl
 .show n.toNat<=(b9 0 _).length;simp[b9]
theorem Iz{tg:Expr}{pr pc:Pos}{m n:Int}(hm:Qjd)(h1:cN X CL b e1 U (.int m) δ1)(h2:cN X CL b e2 δ1 Qdl U2)(hn:-(2 ^ 62)<=m/\m<2 ^ 62 /\ -(2 ^ 62)<=n/\n<2 ^ 62)(l:QjJ)
  (j:AR X e1 e2:=by rfl) (d:starEach [e2] X.env=[(false,eval e2 X.env)]:=by rfl) (c:QqM:=by rfl) (a:AC X e2 []:=by rfl) :
  ql X CL b tg (.Call Qvp [e1,e2] [] pc) U (b9 m (n-m).toNat) U2:=by
 refine#[_,XA l hm (bX cQ (bX cQ dY a) c) j d,λH Z Y ts vs R S k=>h1 H Z Y ts vs _ S λv H1 Z1 g k1 p r=>h2 H1 Z1 Y ts vs _ p λv2 H2 Z2 f k2 o h=>#[m,n,by rw[r.sc rfl,h.sc rfl],hn,k _ _ #[Z2,_,g.trans f,k1.trans k2,o,Oc m _,λi H2 s hi=>?_,λi H2 y H' s hi e=>?_,λH2 s=>?_]]]
 .show i<(n-m).toNat;have:(b9 m (n-m).toNat).length=(n-m).toNat:=by simp[b9]
  lia
 .have q:i<(n-m).toNat:=by simpa [b9] using hi
  refine#[e.1,?_];rw[k4,pj q,e.2];rfl
 .show(n-m).toNat<=(b9 m _).length;simp[b9]
def Block(X:Cx)(CL:BM)(scope:Scope)(Nc:BA)(ifs:Cf)(elt:Expr)(δc:BB)(ds:At)(p:Qhs)(g:D->T):Prop:=
 ∀C s0 b f0 a d,d∈ds->IH Qte CL a ifs Qgu (p d)/\(p d=true->bU Qte CL a elt Qgu (g d) Qgu)
variable{δc:BB}{p:Qhs}{g:D->T}
end
noncomputable def isD:L3.D->String->Option Bool
 | .non,n=>if n="int" \/ n="str" \/ n="list" \/ n="tuple" \/ n="bool" \/ n="dict" then some false else none
 | .bl _,n=>if n="int" \/ n="bool" then some true else if n="str" \/ n="list" \/ n="tuple" \/ n="dict" then some false else none
 | .int _,n=>if n="int" then some true else if n="str" \/ n="list" \/ n="tuple" \/ n="bool" \/ n="dict" then some false else none
 | .str _, n => if n = "str" then some true else if n = "int" \/ n = "list" \/ n = "tuple" \/ n = "bool" \/ n = "dict" then some false else none
 | .lst _,n=>if n="list" then some true else if n="int" \/ n="str" \/ n="tuple" \/ n="bool" \/ n="dict" then some false else none
 | .tup _,n=>if n="tuple" then some true else if n="int" \/ n="str" \/ n="list" \/ n="bool" \/ n="dict" then some false else none
 | _,_=>none
noncomputable def Kj(t n:Qbi):Option Bool:=if (Value.type t==Value.type n)=true then some true else if PySem.W.kitMeta n=true then(fastBuiltinMro t).map (·.contains QpD) else none
def qB{t n:Qbi}:PySem.W.kitOne K (.type t) QpD=Kj t n:=rfl
def aa1:(["NoneType","bool","int","str","list","tuple"].all λt=>["int","str","list","tuple","bool","dict"].all λn=>Kj t n==some (t==n || Qlq))=true:=by decide +kernel
def vA{t n:Qbi}(a:t∈["NoneType","bool","int","str","list","tuple"])(hn:QqG):Kj t n=some (t==n || Qlq):=by
 have:=aa1;rw[nr]at this;have h:=this t a;rw[nr]at h;simpa using h n hn
noncomputable def sX:L3.D->Option String
 | .non=>some "NoneType"
 | .bl _=>some "bool"
 | .int _=>some "int"
 | .str _ => some "str"
 | .lst _=>some "list"
 | .tup _=>some "tuple"
 | _=>none
theorem XZ:oJ X (.builtin "isinstance") (λxs H Q=>∃y n d t,xs=[y,.ty n]/\bL X.K CL H d y/\sX d=some t/\n∈["int","str","list","tuple","bool","dict"]/\Q Quz H):=by
 intro pins s Y H xs us Q I r h;obtain⟨y,n,d,t,rfl,k,b,hn,q⟩:=h;obtain⟨u,u2,rfl,f,g⟩:=r.two;cases (show u2=Value.type n from g);have fin:∀tk,EP X pins Y Q _ {s with toks:=tk}:=λtk=>#[.bl _,H,I.tok tk,rfl,q];cases k with
 | non=>cases b;cases (show u=Value.none from f);exact wG PySem.W.kitx_none I.AX True.intro (qB.trans (vA Wl hn)) (λz=>nomatch z) fin
 | bl c=>cases b;cases (show u=Value.bool c from f);exact wG PySem.W.kitx_bool I.AX True.intro (qB.trans (vA Wl hn)) (λz=>nomatch z) fin
 | int c=>cases b;obtain⟨tt,e⟩:=(show ∃t,u=Value.int c t from f);cases e;exact wG PySem.W.kitx_int I.AX True.intro QiR (λz=>nomatch z) fin
 | str c=>cases b;obtain⟨tt,e⟩:=(show ∃t,u=Value.str c t from f);cases e;exact wG PySem.W.kitx_str I.AX True.intro QiR (λz=>nomatch z) fin
 | @lst a ws _ i j=>
  cases b;cases (show u=Value.ref a from f);obtain⟨its,_,pl,_⟩:=I.list i;obtain⟨o,l,e,c,_⟩:=pl;exact wG PySem.W.kitx_list I.AX #[o,e,c] QiR (λz=>nomatch z) fin
 | @tup a ws _ i j=>
  cases b;cases (show u=Value.ref a from f);obtain⟨its,_,pl,_⟩:=I.tuple i;obtain⟨o,e,c,_⟩:=pl;exact wG PySem.W.kitx_tuple I.AX #[o,e,c] QiR (λz=>nomatch z) fin
 | ins _ _=>cases b
 | any _=>cases b
 | val _=>cases b
 | kT _ _=>cases b
 | dct _ _=>cases b
 | lH _ _ _=>cases b
variable{pp pq:Pos}
def yP{d:L3.D}{t n:Qbi}{nm:Str}(hm:QfS)(f:X.mg nm=none)(m:QfT)(g:Gl X nm)(i:bootBuiltins nm=some QpD)(a:nm≠"__name__")(c:AD nm)(h:QcF)(l:QfU)(hn:QqG)
  (hs:starEach [e,.Name nm pq] X.env=(false,eval e X.env)::starEach [.Name nm pq] X.env:=by exact bq rfl) :
  bU X CL b (.Call QeF [e,.Name nm pq] [] pos) U (.sh Quz) δ1:=λH Z Y ts vs Q S k=>
 cC (nK (XZ) m hm boot_isinstance (bX cQ (bX (ae8 g f i (v:=.ty n) rfl a c) dY) hs) (he:=hs)) (h H Z Y ts vs _ S λv H1 Z1 j k1 o r=>
  #[v,n,d,t,rfl,r,l,hn,k _ H1 Z1 j k1 (o.push Qfq)])
variable{n:Nat}
def X3(h:Nat.ble n 1000=true):n<=sizeLine:=mi (bZ (i5 h))
structure Vn(X:Cx)(i:Nat)(x:Str):Prop where
 hi:X.N[i]? = some x
 hv:sy X.env.scope x
 hd:QiE=false
 jO:Qsz=false
structure Ln(X:Cx)(i:Nat)(x:Str):Prop extends Vn X i x where
 loc:Loc X.env.scope x
 hf:X.fn x=true\/X.env.scope.names.lookup x=some .local
structure Gx(X:Cx):Prop where
 nd:X.N.Nodup
 calm:X.calm=true
 xe:PassesOwn Qr X.A X.env X.xe
structure Fc(X:Cx)(CL:BM)(x:Str)(k n:Nat){A:Type}(arg:Qah)(Pre:Qab)(res:QaV):Prop where
 ex:∃f fd ps,dg X.prog X.w X.K X.mg X.base oG k f fd ps Qf6/\X.mg x=some Qae/\keepIn X.K Qae=true/\Binds X.K fd ps []
 room:fc k X.A
section
variable{d:L3.D}{D:dI}{fD:CO}{ds:At}
def v_(n:Qa0)(h:U[i]? = some QdN:=by rfl):bU X CL b QaD U Qbb U:=ali i n.hi n.hv n.hd n.jO h
def vF(n:Qa0)(h:U[i]? = some QaK:=by rfl):bU X CL b QaD U Qgw Qio:=afA i n.hi n.hv n.hd n.jO h
def vM(n:Qa0)(h:U[i]? = some QaK:=by rfl):bU X CL b QaD U t QdO:=afB i n.hi n.hv n.hd n.jO h
def vB(n:Qa0)(h:U[i]? = some QaK:=by rfl):cN X CL b QaD U t.fC U:=alj i n.hi n.hv n.hd n.jO h
def iD(h:Qtw):bU X CL b (.UnaryOp .USub e pos) U (.sh (.int (-k))) δ1:=λH Z Y ts vs Q S kk=>
 cC (apJ akY cQ) (h H Z Y ts vs _ S λv H1 Z1 a k1 c r=>#[k,r.sc rfl,kk _ H1 Z1 a k1 (c.push Qbs)])
def vL(n:Qa0)(h:U[i]? = some (some QdP):=by rfl):cN X CL b QaD U Qcq U:=by
 have:=vB (CL:=CL) (b:=b) (pos:=pos) n h
 rwa [T.fC,lI]at this
def c_{k:Nat}{A:Type}{arg:Qah}{Pre:Qab}{res:QaV}(a:A)(F:Qht)(g:Qaw)(h:Qhp)(d:Pre a)(i:Qnt)(hn:QbZ:=by rfl)
  (c:AD x:=by decide) (he:Qaq:=by exact bq rfl) (hpl:QaE:=by rfl) :
  bU X CL b Qbo U QbT δ1:=by
 obtain⟨f,fd,ps,j,m,k,b⟩:=F.ex;exact afH a j F.room m k b h hn d i g c he hpl
def cF{k:Nat}{A:Type}{arg:Qah}{Pre:Qab}{res:QaV}(a:A)(F:Qht)(g:Qaw)(h:Qh0)(d:Pre a)(hn:QbZ:=by rfl)
  (c:AD x:=by decide) (he:Qaq:=by exact bq rfl) (hpl:QaE:=by rfl) :
  bU X CL b Qbo U QbT δ1:=by
 obtain⟨f,fd,ps,i,m,k,b⟩:=F.ex;exact aaY a i F.room m k b h hn d g c he hpl
def aE{pos':Pos}(g:Gx X)(n:Qbt)(h:QaX)(k:Qlr)(hl:QcY:=by exact i5 rfl)(hs:QdC:=by rfl) :
  c7 X CL b Qia U D:=b8 (RH i h k hl g.nd n.hi n.loc hs n.hf)
def aY(h:QaX)(k:D.rt t δ1):c7 X CL b (.Return Qj2 pos::fD) U D:=b8 (alo h k)
def cg{a c:CO}(h:Qce)(h1:p=true->c7 X CL b a δ1 {D with nx:=λU2=>c7 X CL b fD U2 D})(h2:p=false->c7 X CL b c δ1 {D with nx:=λU2=>c7 X CL b fD U2 D}):c7 X CL b QwX U D:=b8 (ap9 h h1 h2)
theorem c7.to{D':dI}(h:c7 X CL b fD U D')(h1:∀U,D'.nx U->D.nx U)(h2:∀t U,D'.rt t U->D.rt t U)(c:∀U,D'.bk U->D.bk U)(a:∀U,D'.ct U->D.ct U):c7 X CL b fD U D:=λH Z Y ts vs E S M=>h H Z Y ts vs E S (M.to h1 h2 c a)
def tU{a c:CO}(J:BB->Prop)(h:Qce)(h1:p=true->c7 X CL b a δ1 {D with nx:=J})(h2:p=false->c7 X CL b c δ1 {D with nx:=J})(k:∀U2,J U2->c7 X CL b fD U2 D):c7 X CL b QwX U D:=
 cg h (λd=>c7.to (h1 d) k Qvq QcQ QcQ) (λd=>c7.to (h2 d) k Qvq QcQ QcQ)
def j9{o:Qhj}{l:Nat}(h:∃c,swapsWith e o l env=pure c):swapsWith e o l env=pure true\/swapsWith e o l env=pure false:=by
 obtain⟨c,h⟩:=h;cases c
 .exact .inr h
 .exact .inl h
def YO{C:Addr}(h1:Nc[i]? = some x)(h2:Qih)(hd:AD x:=by decide)(jO:AE x:=by decide):Vn QbL i x:=
 #[h1,.inl QlR,hd,jO]
def alv{C:Addr}(h1:Nc[i]? = some x)(h2:QlH)(hd:AD x:=by decide)(jO:AE x:=by decide):Vn QbL i x:=by
 refine#[h1,?_,hd,jO];have q:=iP (env:=X.env) h2;show(relabel _ _).names.lookup x=some _\/(relabel _ _).names.lookup x=some _\/(relabel _ _).names.lookup x=some _;rw[show(relabel _ _).names.lookup x=_ from q];split
 .exact .inr Qaj
 .exact .inr QaB
def afL{C:Addr}(h2:Qle):Gl QbL x:=by
 have q:=iP (env:=X.env) h2;show(relabel _ _).names.lookup x=some _;rw[show(relabel _ _).names.lookup x=_ from q];rfl
noncomputable def lK{C:Addr}{k:Nat}{A:Type}{arg:Qah}{Pre:Qab}{res:QaV}(F:Qht):Fc QbL CL x k n arg Pre res:=#[F.ex,F.room]
end
def xG{i j:Bool}(h1:cN X CL b e1 U (.bl i) δ1)(h2:cN X CL b e2 δ1 (.bl j) U2):qW X CL b Qc2 U (!decide (i=j)) U2/\bU X CL b Qc2 U QlP U2:=
 Ck L1 h1 h2 rfl rfl (λ_ _ q=>#[rfl,by rw[show decide (V.bl i=V.bl j)=decide (i=j) by simp];exact q]) (qY _)
variable{d:L3.D}{t:Qbi}
def IA:bootBuiltins "int" = some QxD:=by decide +kernel
def xm(hm:QfS)(a:X.mg "int" = none)(g:QfT)(c:Gl X "int")(h:QcF)(f:QfU:=by rfl)(hs:starEach [e,.Name "int" pq] X.env=(false,eval e X.env)::starEach [.Name "int" pq] X.env:=by exact bq rfl) :
  bU X CL b (.Call QeF [e,.Name "int" pq] [] pos) U (.sh (.bl (t=="int" || (t=="bool" && "int" == "int")))) δ1:=yP hm a g c IA Wl Wl h f Wl hs
def RK:bootBuiltins "bool" = some (.type "bool"):=by decide +kernel
def isB(hm:QfS)(a:X.mg "bool" = none)(g:QfT)(c:Gl X "bool")(h:QcF)(f:QfU:=by rfl)(hs:starEach [e,.Name "bool" pq] X.env=(false,eval e X.env)::starEach [.Name "bool" pq] X.env:=by exact bq rfl) :
  bU X CL b (.Call QeF [e,.Name "bool" pq] [] pos) U (.sh (.bl (t=="bool" || (t=="bool" && "bool" == "int")))) δ1:=yP hm a g c RK Wl Wl h f Wl hs
def X4:bootBuiltins "str" = some Qn7:=by decide +kernel
def xk(hm:QfS)(a:X.mg "str" = none)(g:QfT)(c:Gl X "str")(h:QcF)(f:QfU:=by rfl)(hs:starEach [e,.Name "str" pq] X.env=(false,eval e X.env)::starEach [.Name "str" pq] X.env:=by exact bq rfl) :
  bU X CL b (.Call QeF [e,.Name "str" pq] [] pos) U (.sh (.bl (t=="str" || (t=="bool" && "str" == "int")))) δ1:=yP hm a g c X4 Wl Wl h f Wl hs
def aZ:bootBuiltins "list" = some Qgv:=by decide +kernel
def xl(hm:QfS)(a:QfQ)(g:QfT)(c:QfR)(h:QcF)(f:QfU:=by rfl)(hs:starEach [e,.Name "list" pq] X.env=(false,eval e X.env)::starEach [.Name "list" pq] X.env:=by exact bq rfl) :
  bU X CL b (.Call QeF [e,.Name "list" pq] [] pos) U (.sh (.bl (t=="list" || (t=="bool" && "list" == "int")))) δ1:=yP hm a g c aZ Wl (rfl) h f Wl hs
def tV:bootBuiltins "tuple" = some Qwn:=by decide +kernel
def o6(hm:QfS)(a:QnH)(g:QfT)(c:QoW)(h:QcF)(f:QfU:=by rfl)(hs:starEach [e,.Name "tuple" pq] X.env=(false,eval e X.env)::starEach [.Name "tuple" pq] X.env:=by exact bq rfl) :
  bU X CL b (.Call QeF [e,.Name "tuple" pq] [] pos) U (.sh (.bl (t=="tuple" || (t=="bool" && "tuple" == "int")))) δ1:=yP hm a g c tV Wl Wl h f Wl hs
noncomputable def Q7(sc:Scope)(l:DO):Bool:=l.all λp=>sc.names.lookup p.1==some p.2
def cX{sc:Scope}{l:DO}(h:Q7 sc l=true)(i:Nat){k:NameKind}(hi:l[i]? = some (x,k)):sc.names.lookup x=some k:=by
 unfold Q7 at h;rw[nr]at h;exact si.1 (h _ (l4 hi))
inductive yB(X:Cx):Ch->BA->Prop where
 | nil:yB X [] []
 | cons {i:Nat} {y:Str} {ix:Ch} {ys:BA} (n:Vn X i y) (k:X.env.kindOf y=some .cell\/X.env.kindOf y=some .free) (r:yB X ix ys):yB X (i::ix) (y::ys)
noncomputable def YI(scope:Scope)(x:Str)(a:BA):Bool:=
 scope.kind == .function&&scope.names.lookup x==some .local&&a.all Qq9&&decide ((x::a).Nodup) &&
  scope.names.all λy=>y.2 != .cell&&(y.2 != .local || scope.names.lookup y.1==some .local)&&(y.2 != .free || QqT)
theorem cj{d:BA}(c:yB X ix d)(ok:YI scope x d=true):iV X scope x (x::d) ix:=by
 unfold YI at ok;simp only[l9,nr,pf,si]at ok;obtain⟨⟨⟨⟨h1,h2⟩,h⟩,g⟩,b⟩:=ok;have j:∀y∈d,X.env.kindOf y=some .cell\/X.env.kindOf y=some .free:=by
  clear h g b
  induction c with
  | nil=>intro y a;cases a
  | cons n k r f=>
   intro y a;obtain e|a:=fL.1 a
   .subst e;exact k
   simp_all
 refine#[h1,λy a e=>?_,g,λy a e=>?_,h2,λy a e=>?_,?_,λi hi=>?_]
 .have:=(b y a).1.1;rw[e]at this;simp at this
 .have:=(b y a).1.2;rw[e]at this;simpa using this
 .have:=(b y a).2;simp_all
 .congr 1;clear h g b j
  induction c with
  | nil=>rfl
  | cons n k r f=>rw[nz,n.hi,<- f]
 .clear g b j
  induction c with
  | nil=>cases hi
  | @cons l y ix ys n k r f=>
   obtain e|hi:=fL.1 hi
   .subst e;exact#[y,n.hi,h y iB]
   .exact f Qyc hi
noncomputable def D.wL:D->Int
 | .int i=>i
 | _=>0
noncomputable def D.toS:D->Str
 | .str x => x
 | _=>Str.empty
theorem fZ{bs:AT}(h0:0<=k)(h1:k<bs.length):wg QxH k=some (.int (bs.getD k.toNat 0)):=by
 obtain⟨j,rfl⟩:∃j:Nat,k=j:=#[k.toNat,We];refine cR ?_;simp_all
theorem bu:∀(bs:AT),D.bC QxH=true
 | []=>rfl
 | i::r=>by rw[lx,D.bC,bu r];rfl
theorem gF{lo:Int}{d:D}(h:(b9 lo n)[j]? = some d):d=.int (lo+j)/\j<n:=by
 have hl:=by
  have:=(md.1 h).1;simpa [b9] using this
 refine#[?_,hl];unfold b9 at h;rw[k4,pj hl]at h;simp_all
def gM(l:Qaf):l.filter (λ_=>true)=l:=by simp
theorem Od{K:Frag}{CL:BM}{Z:Hp}:∀(ns:AT),aB K CL Z QxI Qct
 | []=>.nil
 | n::r=>.cons Qdl (Od r)
mutual
def D.toPy:D->PyData
 | .non=>.none
 | .bl b=>.bool b
 | .int i=>.int i
 | .str x => .str x
 | .tup ds=>.tuple Qfl
 | .lst ds=>.list Qfl
 | .ins _ _=>.none
 | .kT _=>.none
 | .dct _=>.none
 | .any=>.none
 | .val _=>.none
 | .lH _ _ _=>.none
def D.kg:At->List PyData
 | []=>[]
 | d::ds=>d.toPy::D.kg ds
end
inductive wM:Nat->D->Prop where
 | non (n:Nat):wM n .non
 | bl (n:Nat) (b:Bool):wM n Qei
 | int (n:Nat) (i:Int):wM n Qa7
 | str (n:Nat) (x:Str) (h:QxJ):wM n Qbl
 | tup {n:Nat} {ds:At} (h:∀d∈ds,wM n d):wM QaC Qd8
 | lst {n:Nat} {ds:At} (h:∀d∈ds,wM n d):wM QaC Qcq
noncomputable def Oe(a b:D):Bool:=PyData.eqv a.toPy b.toPy
theorem wM.Ki{n:Nat}:∀{ds:At},(∀d∈ds,d.toPy.canLay0=true/\d.toPy.depth<=n)->PyData.canLayAll0 Qfl=true/\PyData.depthAll Qfl<=n
 | [],_=>#[ rfl,kx _ ]
 | d::ds,h=>by
  have h1:=h d iB;have h2:=wM.Ki λe he=>h e QgR;rw[D.kg,PyData.canLayAll0,h1.1,h2.1];exact#[rfl,Nat.max_le.2 #[h1.2,h2.2]]
theorem wM.lay{d:D}(h:wM n d):d.toPy.canLay0=true/\d.toPy.depth<=n:=by
 induction h with
 | non n=>exact#[ rfl,kx _ ]
 | bl n b=>exact#[ rfl,kx _ ]
 | int n i=>exact#[ rfl,kx _ ]
 | str n x c=>exact#[ ‹_›,kx _ ]
 | @tup n ds _ a=>
  have:=wM.Ki a;rw[D.toPy,PyData.canLay0,PyData.depth];simp_all
 | @lst n ds _ a=>
  have:=wM.Ki a;rw[D.toPy,PyData.canLay0,PyData.depth];simp_all
def aa7{d:D}(h:wM n d):Oe d d=true:=SeqAt.eqv_refl _ h.lay.1
def J8(I:Qbj){d:D}{u:Value}(hd:wM n d)(q:bL X.K CL H d v)(r:QcW):∃as,Reads s.heap u d.toPy as:=by
 refine bL.rec
  (motive_2:=λds vs _=>∀(n:Nat) (us:Qem),(∀d∈ds,wM n d)->Vals vs us->∃as,ReadsAll s.heap us Qfl as) (motive_3:=λ_ _ _=>True) (motive_4:=λ_ _ _=>True) (motive_5:=λ_ _ _=>True)
  (λ_ _ _ r=>?non) (λb _ _ _ r=>?bl) (λi _ _ _ r=>?int) (λx _ _ _ r=>?str) (λ_ _ _ hd _=>by cases hd) (λ_ _ _ hd _=>by cases hd) (λl _ a n u hd r=>?tup) (λl _ a n u hd r=>?lst) (λ_ _ _ _ _ hd _=>by cases hd) (λ_ _ _ _ _ hd _=>by cases hd) (λ_ _ _ _ _ hd _=>by cases hd) (λ_ _ _ _ _ _ _ hd _=>by cases hd)
  (λ_ _ _ r=>?nil) (λ_ _ a j n us h r=>?cons) trivial Qax trivial Qax trivial Qax q n u hd r
 case non=>cases r;exact#[[],.none]
 case bl=>cases r;exact#[[],.bool b]
 case int=>obtain⟨t,rfl⟩:=r;exact#[[],.int i t]
 case str=>obtain⟨t,rfl⟩:=r;exact#[[],.str x t]
 case tup=>
  cases hd with
  | tup hd=>
   cases r;obtain⟨its,f,⟨o,e,c,k,m⟩,_⟩:=I.tuple l;obtain⟨as,g⟩:=a _ _ hd f;exact#[as,.tuple e c m (‹_›)]
 case lst=>
  cases hd with
  | lst hd=>
   cases r;obtain⟨its,f,⟨o,k,e,c,_,m⟩,_⟩:=I.list l;obtain⟨as,g⟩:=a _ _ hd f;exact#[_,.list e c m (‹_›)]
 case nil=>cases r;exact#[[],.nil]
 case cons=>
  cases r with
  | cons r rs=>
   obtain⟨as,g⟩:=a n _ (h _ iB) r;obtain⟨bs,p⟩:=j n _ Qyd rs;exact#[ _,.cons g p]
variable{δ3:BB}{p2:Pos}{t:T}{fD:CO}{DD:dI}{d1 d2:D}{ds:At}
theorem alx(k:Qa5):yE X Qvl (λx y H Q=>∃a c,bL X.K CL H a x/\bL X.K CL H c y/\wM 60 a/\wM 60 c/\Q (.bl (!Oe a c)) H):=by
 intro pins s Y H x y v u Q I f e h;obtain⟨a,c,g,rc,b,d,q⟩:=h;obtain⟨as,j⟩:=J8 I b g f;obtain⟨bs,i⟩:=J8 I d rc e;exact SeqAt.rcNeAt_reads j i b.lay.1 d.lay.1 (by have:=b.lay.2;lia) _ X.w X.xe _ #[.bl _,H,I,rfl,q]
def atu{op:CmpOp}{f:Bool->Bool}(n:yE X Qrp (λx y H Q=>∃a c,bL X.K CL H a x/\bL X.K CL H c y/\wM 60 a/\wM 60 c/\Q (.bl (f (Oe a c))) H))(h1:QiO)(h2:QiI)(k1:wM 60 d1)(k2:wM 60 d2)
  (hm:QuZ):qW X CL b Qis U (f (Oe d1 d2)) U2/\bU X CL b Qis U (.sh (.bl (f (Oe d1 d2)))) U2:=by
 constructor
 .intro H Z Y ts vs Q S k;refine yL (vq n cQ cQ hm) (h1 H Z Y ts vs _ S λv1 H1 Z1 h e m j=>h2 H1 Z1 Y ts vs _ m λv2 H2 Z2 g d l i=>?_);exact#[d1,d2,j.mono d,i,k1,k2,_,rfl,k H2 Z2 QoX QoY l]
 .intro H Z Y ts vs Q S k;refine cC (yF n cQ cQ hm) (h1 H Z Y ts vs _ S λv1 H1 Z1 h e m j=>h2 H1 Z1 Y ts vs _ m λv2 H2 Z2 g d l i=>?_);exact#[d1,d2,j.mono d,i,k1,k2,k _ H2 Z2 QoX QoY (l.push Qfq)]
def aly(a:Qa5)(h1:QiO)(h2:QiI)(k1:wM 60 d1)(k2:wM 60 d2):qW X CL b Qc2 U (!Oe d1 d2) U2/\bU X CL b Qc2 U (.sh (.bl (!Oe d1 d2))) U2:=
 atu (alx a) h1 h2 k1 k2 (qY _)
def cutD(xs:Qaf)(lo hi:Co):List α:=(xs.drop Qt3).take QqL
theorem aB.drop{K:Frag}{Z:Hp}:∀{ds:At} {vs:B0} (n:Nat),aB K CL Z ds vs->aB K CL Z (ds.drop n) (vs.drop n)
 | _,_,0,r=>r
 | _,_,_+1,.nil=>.nil
 | _,_,n+1,.cons _ t=>aB.drop n t
theorem aB.take{K:Frag}{Z:Hp}:∀{ds:At} {vs:B0} (n:Nat),aB K CL Z ds vs->aB K CL Z (ds.take n) (vs.take n)
 | _,_,0,_=>.nil
 | _,_,_+1,.nil=>.nil
 | _,_,n+1,.cons r t=>.cons r (aB.take n t)
theorem aB.cut{ds:At}(r:QfO)(lo hi:Co):aB K CL Z (cutD ds lo hi) (yA vs lo hi):=by
 unfold cutD yA;rw[r.length];exact(r.drop _).take _
theorem qC:∀{ds:At},D.bC ds=true->∀d∈ds,d.mZ=true
 | [],_,_,h=>by cases h
 | d::ds,k,e,h=>by
  rw[D.bC,l9]at k;obtain h|h:=fL.1 h
  .subst h;exact k.1
  .exact qC k.2 e h
theorem jr:∀{ds:At},(∀d∈ds,d.mZ=true)->D.bC ds=true
 | [],_=>rfl
 | d::ds,h=>by rw[D.bC,h d iB,jr λe he=>h e QgR];rfl
def afM{xs:Qaf}{lo hi:Co}{x:α}(h:x∈cutD xs lo hi):x∈xs:=List.mem_of_mem_drop (y0 h)
def IF(X:Cx)(CL:BM)(b:Bx)(e:Qhj)(U:BB)(k:Co)(U':BB):Prop:=
 ∃t,PO X e t/\∀(H Z:Hp) (Y:L2.St) (ts:Bz) (vs:B0) (Q:QxE),bD X.K CL b H Z U Y ts vs->(∀H' Z',aC Z Z'->aC H H'->bD X.K CL b H' Z' U' Y ts vs->Q k H')->t Y H Q
def Dp:IF X CL b none U none U:=#[_,afl,λH Z Y ts vs Q S k=>k H Z QA QA S]
def Dq(h:Qtw):IF X CL b Qj2 U (some k) δ1:=#[_,afm cQ,λH Z Y ts vs Q S kk=>h H Z Y ts vs _ S λv H1 Z1 a k1 c r=>#[k,r.sc rfl,kk H1 Z1 a k1 c]]
def yQ{lo hi:Qhj}{l h:Co}(h1:Qc3)(g:Qdy)(h2:IF X CL b lo δ1 l U2)(x:IF X CL b hi U2 h δ3):bU X CL b Qrf U (.lst ((cutD ds l h).map T.sh)) δ3:=λH Z Y ts vs Q S k=>by
 obtain⟨t2,f,q⟩:=h2;obtain⟨t3,a,o⟩:=x;refine cC (aaC afo cQ f a) (h1 H Z Y ts vs _ S λv H1 Z1 n k1 A r=>q H1 Z1 Y ts vs _ A λH2 Z2 m k2 z=>o H2 Z2 Y ts vs _ z λB Z3 j k3 i=>?_);have t:=r.mono (k2.trans k3);obtain⟨_,_,rfl,u,s⟩:=t.iM;refine#[_,_,rfl,u,λp w=>?_];have rc:=aB.mZ i.tp (jr λd hd=>qC g d (afM hd)) (s.cut l h);obtain⟨c,y⟩:=(bD.qz rc i).nO (g0:=[]) (by simp[rc.length]) w;exact k _ _ _ (n.trans (m.trans j)) (k1.trans (k2.trans (k3.trans c))) y
def fM(hm:QnH)(h:Qc3)(hi:Qdy)(n:QoW)(hs:Qaz:=by exact bq rfl):bU X CL b Qrw U QdH δ1:=λH Z Y ts vs Q S k=>
 cC (jP wJ n hm tV QaQ (he:=hs)) (h H Z Y ts vs _ S λv H1 Z1 j k1 g r=>by
  obtain⟨_,_,rfl,m,d⟩:=r.iM;refine#[_,_,rfl,.inl #[m,λl hl=>?_]];obtain⟨a,c,o⟩:=(bD.qz (aB.mZ g.tp hi d) g).J2 (by simp[d.length]) hl;obtain⟨Z3,i,f⟩:=o.JY;rw[T.fC,lI]at f;exact k _ _ Z3 (j.trans (a.trans i)) Qcw f)
def ja{tl0:Bz}{pa pb:Pos}(n:Qa0)(h0:U[i]? = some Qi5)(h:QaX)(h1:δ1[i]? = some Qfh)(hl:Qnu)(k:Qr5)
  (c:QkR:=by rfl)
  (f:Qhq:=by rfl)
  (a:Qhr:=by rfl) (hs:Qaz:=by exact bq rfl) (d:Qk3:=by rfl) :
  c7 X CL b Qvr U DD:=
 b8 (alq i h0 h h1 (oI hl Wl) k n.hi n.hv n.hd n.jO c f a hs d)
def bS(hn:ds.length=n)(hm:Qoe)(h:Qc3)(a:QpC)(hs:Qaz:=by exact bq rfl):bU X CL b Qlk U QbR δ1:=by
 subst hn;exact yN hm h a hs
def bR(h:Qme):cN X CL b e U Qcq δ1:=by
 have:=Vu h
 rwa [T.fC,lI]at this
noncomputable def Vx{a:At}(h:Qme)(c:ds=a):cN X CL b e U (.lst a) δ1:=c▸bR h
theorem fq{f:α->D}{l:Qaf}(z:α)(h0:0<=k)(h1:k<l.length):wg Qfm k=some (f QvQ):=by
 obtain⟨j,rfl⟩:∃j:Nat,k=j:=#[k.toNat,We];refine cR ?_;simp_all
theorem aa8{β:Type}{f:α->β}{l:Qaf}{lo hi:Co}:cutD Qfm lo hi=(cutD l lo hi).map f:=by
 unfold cutD;simp_all
theorem eO{α:Type}{f:α->D}(h:∀a,(f a).mZ=true):∀(l:Qaf),D.bC Qfm=true
 | []=>rfl
 | a::l=>by rw[lx,D.bC,h a,eO h l];rfl
variable{d:D}
def afO{u:Tok}(hm:X.mg x=some (.int k u))(a:Qaw)(hd:AD x:=by decide):bU X CL b QaD U Qjm U:=λH Z Y ts vs Q S kk=>
 cC (ae7 (v:=.int k) a hm #[u,rfl] hd) (kk _ H Z QA QA (S.push (.int k)))
def aM(hm:∃u,X.mg x=some (.int k u))(a:Qaw)(hd:AD x:=by decide):bU X CL b QaD U Qjm U:=by
 obtain⟨u,hm⟩:=hm;exact afO hm a hd
noncomputable def vE(n:Qa0)(h:U[i]? = some QaK)(e:t.fC=d):cN X CL b QaD U d U:=e▸vB n h
theorem J9(x:Str):∀l:BA,ti Qbl (l.map V.str)=decide Qj7
 | []=>by simp[ti]
 | y::l=>by
  have b:=J9 x l;unfold ti at b ⊢;have e:∀a c,q2 (.str a) (.str c)=(a==c):=λ_ _=>rfl;grind
theorem aB.strs{K:Frag}{Z:Hp}:∀{l:BA} {vs:B0},aB K CL Z (l.map D.str) vs->vs=l.map V.str
 | [],_,r=>by
  have a:=r;cases a;rfl
 | y::l,_,r=>by
  have a:=r;cases a with
  | cons c b=>rw[c.sc rfl,aB.strs b];rfl
theorem rj:∀l:BA,(l.map V.str).all wI=true
 | []=>rfl
 | y::l=>by rw[lx,List.all_cons,rj l];rfl
def afP(hm:X.mg "int" = none)(h:cN X CL b e U Qks δ1)(c:Gl X "int")(hs:Qaz:=by exact bq rfl):bU X CL b (.Call (.Name "int" pp) [e] [] pos) U (.sh (.int (if p then 1 else 0))) δ1:=λH Z Y ts vs Q S k=>
 cC (jP XF c hm IA QaQ (he:=hs)) (h H Z Y ts vs _ S λv H1 Z1 a k1 d r=>.inr #[p,by rw[r.sc rfl],k _ H1 Z1 a k1 (d.push Qbs)])
theorem YG{l:Qaf}(z:α)(h0:0<=k)(h1:k<l.length):wg l k=some QvQ:=by
 obtain⟨j,rfl⟩:∃j:Nat,k=j:=#[k.toNat,We];refine cR ?_;have hl:j<l.length:=by lia
 rw[kA hl];simp[List.getD,hl]
theorem RL(h0:0<=k)(h1:k<n):oo n k=some k.toNat:=by
 unfold oo;simp_all
def str_len(x y:Str):(x++y).length=x.length+y.length:=by
 show(x.cps++y.cps).size=_;rw[Array.size_append];rfl
def Cp(l:AT):T.gi ((l.map D.int).map T.sh)=true:=by
 rw[kc]
 induction l with
 | nil=>rfl
 | cons i r a=>rw[lx,T.gi,a];rfl
noncomputable def Zp(K:Frag)(a:Addr)(n:Nat):It:=
 #[λi H=>i<n/\∃xs,nF K H a xs/\xs.length=n,λi H x H'=>H'=H/\∀xs,nF K H a xs->xs[n-1-i]? = some x,λi _=>i=n]
variable{tg:Expr}
theorem abb(a it:Addr)(n:Nat):Turn P w K tg (Zp K a n) [it] it (λi h=>PySem.Heap.IsRevIter h it a ((n:Int)-1-(i:Int))) where
 mem:=by simp
 obj:=λi h st b g=>by
  have e:b=it:=by simpa using g
  subst e;obtain⟨o,e,c,d⟩:=st;exact#[o,e,λv z=>by rw[d]at z;cases z]
 keep:=λi h h' st k=>st.at λo e=>k it Wp o e
 item:=by
  intro X m hw q B i pins s Y H E I hf st l;subst m hw q;obtain⟨hi,xs,A,hl⟩:=l;obtain⟨its,F,p,hz⟩:=I.list A;have y:n-1-i<xs.length:=by lia
  obtain⟨u,L,G⟩:=F.get (kA y);obtain⟨f0,f1,f2,t,f4,r⟩:=hf it Wp;have e1:(n:Int)-1-(i:Int)=((n-1-i:Nat):Int):=by lia
  have f:PySem.Heap.IsRevIter s.heap it a ((n-1-i:Nat):Int):=e1▸st;refine PySem.wpAny_pyNext_rev_item f p.isList (x:=u) (by simpa using L) λh' C D=>?_;have N:L2.Inv X pins Y H {s with heap:=h'}:=I.turned (t':=s.toks) (λb o g e=>(D.2 b g).trans e) f0 f1 t f4 r;have e2:((n-1-i:Nat):Int)-1=(n:Int)-1-((i+1:Nat):Int):=by lia
  have j:PySem.Heap.IsRevIter h' it a ((n:Int)-1-((i+1:Nat):Int)):=e2▸C;obtain⟨o,e,c,d⟩:=id C;exact#[u,rfl,NC (s:={s with heap:=h'}) e c d Wl #[_,H,N,G,#[rfl,λys J=>by rw[I.DQ J A];exact kA y],j,λb g=>(hf b g).1]]
 done:=by
  intro X m hw q B i pins s Y H E I hf st l;subst m hw q;obtain⟨f0,f1,f2,t,f4,r⟩:=hf it Wp;have e1:(n:Int)-1-(i:Int)=-1:=by have:i=n:=l;lia
  have f:PySem.Heap.IsRevIter s.heap it a (-1):=e1▸st;exact PySem.wpAny_pyNext_rev_end (I.ok.hd B) f λh' M=>#[rfl,I.turned (t':=s.toks) (λb o g e=>M b o g e) f0 f1 t f4 r]
 self:=λ_ _ _ _ _ st h=>PySem.wpAny_pyIter_revIter st h
def atw(K:Frag)(ta:TA):TI:=λY H R=>ta Y H λvs H1=>∃a xs,vs=[.ref a]/\nF K H1 a xs/\R (Zp K a xs.length) H1
theorem alz{a:Expr}{ta:TA}{p:Pos}(j:Qjk)(hm:QiW)(m:QpB)(hs:AC X a []):PI X tg (.Call (.Name "reversed" p) [a] [] pos) (atw X.K ta):=by
 intro pins s Y H R I h;refine Call_ (nJ I j hm boot_reversed (va (d9 Ql2 λus s1 zz=>?_) hs rfl));obtain⟨vs,H1,c,g,q1⟩:=zz;obtain⟨l,xs,e,i,q⟩:=q1;subst e;cases g with
 | cons r f=>
  cases f;cases r;obtain⟨its,d,p,hz⟩:=c.list i;refine PySem.call_reversed_list p.isList ?_;have hl:=d.length;have e0:Qq3=xs.length-1-(0:Int):=by grind
  have n:L2.Inv X pins Y H1 {s1 with heap:=s1.heap.push QtL}:=c.kept λb o e=>lr _ e;have st:PySem.Heap.IsRevIter (s1.heap.push QtL) s1.heap.objs.size l (xs.length-1-(0:Int)):=e0▸#[_,mf _ rfl,rfl,rfl];refine PySem.wpAny_pyIter_revIter st ?_;refine#[ _,_,_,_,H1,rfl,n,abb l _ _,st,λb k=>?_,q];have e:=by simpa using k
  subst e;exact c.DR (js _) QiV
variable{pr pc:Pos}{ds:At}
theorem aB.rev{ds:At}(r:Qoa):aB K CL Z ds.reverse us.reverse:=by
 have go:∀{ds:At} {us:B0} {es:At} {ws:B0},aB K CL Z ds us->aB K CL Z es ws->aB K CL Z (ds.reverse++es) (us.reverse++ws):=by
  intro ds us es ws r
  induction ds generalizing us es ws with
  | nil=>cases r;simp_all
  | cons d ds c=>
   cases r with
   | cons b a=>
    intro q;rw[rf,rf,ka,ka];exact c a (.cons b q)
 simpa using go r .nil
theorem alA(hm:QiW)(h:Qmf)(l:Qjk)(hs:Qaz:=by exact bq rfl):ql X CL b tg (.Call (.Name "reversed" pr) [e] [] pc) U ds.reverse δ1:=by
 refine#[_,alz l hm QaQ hs,λH Z Y ts vs R S k=>h H Z Y ts vs _ S λv H1 Z1 j k1 d=>?_];obtain⟨fp,gp,_,r,_,_⟩:=d.rep;cases r with
 | cons r _=>
  replace r:=r.Gz;obtain⟨rfl,r⟩:=r;obtain⟨a,us,rfl,c,f⟩:=r.iM;have hlen:=f.length;refine#[a,us,rfl,d.zh.seq c,k _ _ #[Z1,_,j,k1,d.pop,aB.rev f,λi H2 s hi=>?_,λi H2 y H' s hi g=>?_,λH2 s=>?_]]
  .rw[sx]at hi;exact#[We,us,s.seq c,rfl]
  .rw[sx]at hi;refine#[g.1,?_];rw[List.getElem?_reverse We];exact g.2 us (s.seq c)
  .rw[sx];exact hlen
variable{ds:At}
def C4(n:Qa0)(h:U[i]? = some (some QdP)):bU X CL b QaD U Qe1 (U.set i (some Qe1)):=by
 have:=vF (CL:=CL) (b:=b) (pos:=pos) n h
 rwa [T.fC,lI]at this
theorem mQ.get:∀{fs:EQ} {gs:CA} {f:Str} {d:D},mQ K CL Z fs gs->fs.lookup f=some d->∃v,gs.lookup f=some v/\bL K CL Z d v
 | _,_,_,_,.nil,e=>by simp at e
 | _,_,f,d,.cons (x:=x) r t,e=>by
  rw[mx]at e ⊢;cases h:f==x with
  | true=>rw[h]at e;grind
  | false=>rw[h]at e;exact mQ.get t e
noncomputable def nR(f:Str)(t:T):BS->BS
 | []=>[(f,t)]
 | (g,x)::r=>if g=f then(g,t)::r else(g,x)::nR f t r
theorem cS.length{gs:CA}(h:cS K CL H Z fs gs fp):fs.length=gs.length:=
 cS.ind (P:=λd v _=>d.length=v.length) rfl Qit h
theorem cS.put{f:Str}{g:BY}{gs:CA}(q:QxF):cS K CL H Z fs gs fp →
  ∃b a,cS K CL H Z Qpb (oF f v gs) b/\a.Sublist fp/\b.Perm (g++a):=
 cS.ind (P:=λfs gs fp=>∃b a,cS K CL H Z Qpb (oF f v gs) b/\a.Sublist fp/\b.Perm (g++a)) #[ _,[],.cons q .nil,n3 _,List.Perm.refl _] λ{x _ _ _ _ fp gp} r rs i=>by
  rw[nR,oF];by_cases h:x=f
  .rw[cq h,cq h];exact#[ _,gp,.cons q rs,xc _ _,List.Perm.refl _]
  .rw[bW h,bW h];obtain⟨p,c,h1,h2,d⟩:=i;refine#[ _,_,.cons r h1,pv (n3 _) h2,(pE fp d).trans ?_];rw[<- ka,<- ka];exact nh.append_right c
theorem bD.TK{f e:BY}(hm:jH o=false)(S:QaA)(own:∀c∈fp++gp,Z c=none/\b.B c=none)(j:a∈fp++gp)
  (k:gu K CL QbC Z U2 Y f) (h:aU K CL QbC Z tl us e) (pm:(f++e).Nodup) (sub:∀c∈f++e,c∈fp++gp) :
  bD K CL b QbC Z U2 Y tl us:=by
 have g:=own a j;refine#[#[_,_,k,h,pm,λc d=>own c (sub c d)],λc u q=>?_,S.zz,λc u q=>?_,S.new,λc u q i=>?_,S.tab]
 .rw[ay (aL q g.2)];exact S.bh c u q
 .rw[ay (aL q g.1)];exact S.zh c u q
 .by_cases d:c=a
  .subst d;rw[aO]at q;grind
  .rw[ay d]at q;exact S.tp c u q i
variable{f:Str}{d:D}{fs:EQ}
def bV(i:QfV)(n:Qhu)(h:cN X CL b e U Qa3 δ1)(hl:fs.lookup f=some d)(j:QkB:=by rfl) :
  cN X CL b Qgo U d δ1:=λH Z Y ts vs Q S k=>
 cC (Ro cQ j) (h H Z Y ts vs _ S λv H' Z' z s m r=>by
  obtain⟨a,dx,gs,rfl,l,g⟩:=r.D0;obtain⟨w,hw,o⟩:=g.get hl;exact#[a,CL c,dx,gs,w,rfl,l,i,n,hw,k w H' Z' z s m o])
def tX(j:QfV)(n:Qhu)(h:bU X CL b e U (.sh Qa3) δ1)(hl:fs.lookup f=some d)(l:QkB:=by rfl) :
  bU X CL b Qgo U Qbb δ1:=λH Z Y ts vs Q S k=>
 cC (Ro cQ l) (h H Z Y ts vs _ S λv H' Z' z s g=>by
  obtain⟨fp,gp,_,r,_,_⟩:=g.rep;cases r with
  | cons r _=>
   replace r:=r.Gz;obtain⟨rfl,r⟩:=r;obtain⟨a,dx,gs,rfl,m,i⟩:=r.D0;obtain⟨w,hw,o⟩:=i.get hl;exact#[a,CL c,dx,gs,w,rfl,g.zh _ _ m,j,n,hw,k w H' Z' z s (g.pop.push o)])
def rq(K:Frag)(CL:BM){A:Type}(c:Str)(n:Nat)(arg:Qah)(Pre:Qab)(res:Qdz):Sp:=λvs H Q _=>
 ∃(W b:Hp) (a:A) (x dx:Addr) (us:B0),vs=.ref x::us/\b x=none/\b dx=none/\dx≠x/\H=upd (upd b dx QgQ) x Qvs ∧
  aC W b/\(∀c o,b c=some o->jH o=true->W c=some o)/\aB K CL W Qcx us/\(arg a).length+1=n/\Pre a/\nM CL W ∧
  ∀H' W' fp,aC b H'->aC W W'->aC W' H'->(∀c o,W' c=some o->W c=none->b c=none)->(∀c o,H' c=some o->jH o=true->W' c=some o) →
   bO K CL H' W' Qjj Qdj fp->fp.Nodup->(∀c∈fp,W' c=none/\b c=none)->Q .non H'
variable{A:Type}{k:Nat}{f:Addr}{arg:Qah}{Pre:Qab}
def afQ{res:Qdz}(a:A)(M:Mk X.K (CL c) f)(F:Qqo)(s:Qhh)(hm:X.mg x=some QgH)(v:Qho)
  (h:Qhp) (hn:Qjf) (t:Pre a) (z:T.c6 QbT=true) (u:Qaw)
  (o:AD x:=by decide) (he:Qaq:=by exact bq rfl) (hpl:QaE:=by rfl) :
  bU X CL b Qbo U Qjj δ1:=λH Z Y ts vs Q S kk=>
 cC (JL M F s u hm v .nil Cg JW o he hpl) (h H Z Y ts vs _ S λus H1 Z1 j k1 g r x dx p d ne=>by
  rw[ko];refine#[H1,H1,a,x,dx,us,rfl,p,d,ne,rfl,.refl _,λ_ _ q _=>q,r,hn,t,g.N8,λH' W' fp i ww m nw tp rt nd own=>#[rfl,?_]];obtain⟨Z',l,y⟩:=g.back i g.zh ww m nw tp rt nd own (.inr (‹_›));exact kk _ H' Z' (j.trans l) (k1.trans i) y)
theorem abe{res:Qdz}(a:A)(M:Mk X.K (CL c) f)(F:Qqo)(r:Qhh)(hm:X.mg x=some QgH)(u:Qho)
  (h:Qh0) (hn:Qjf) (s:Pre a) (t:Qaw)
  (p:AD x:=by decide) (he:Qaq:=by exact bq rfl) (hpl:QaE:=by rfl) :
  bU X CL b Qbo U Qjj δ1:=λH Z Y ts vs Q S kk=>
 cC (JL M F r t hm u .nil Cg JW p he hpl) (h H Z Y ts vs _ S λus H1 Z1 hl l k1 g x dx q i ne=>by
  rw[ko];have d:us.length=(arg a).length:=by grind
  have v:=g.drops (by simp[d]);refine#[Z1,H1,a,x,dx,us,rfl,q,i,ne,rfl,g.zh,g.tp,g.yM d,hn,s,g.N7,λH' W' fp j ww o nw tp rt nd own=>#[rfl,?_]];obtain⟨Z',m,y⟩:=v.back j QA ww o nw tp rt nd own Qaj;exact kk _ H' Z' (l.trans m) (k1.trans j) y)
def Dr{arg:Qah}{Pre:Qab}{res:Qdz}(F:Qds)(S:Qdt)
  (I:∀(ez:Value) (l:Qav) (outer:D2) (s:Qb) (H:Hp) (E:XK) (b:Bx) (a:A) (y:Addr),fc k Qwr->Pre a →
   c7 (tS oG P w K mg base N qual Qa6 f ez l outer s H E).Q6 CL b QbV (some Qvt::((arg a).map QiC++List.replicate (N.length-((arg a).length+1)) none))
    {nx:=λU=>U[0]? = some (some (.pin y Qjj)),rt:=λ_ _=>False}) :
  dg P w K mg base oG QaZ f fd ps (rq K CL c ps.length arg Pre res):=by
 refine J5 F S (λvs H Q E h=>?_) (λez l outer s H vs Q E _ D h=>?_)
 .obtain⟨W,j,a,y,dx,us,rfl,_,_,_,_,_,_,r,hl,_⟩:=h;rw[mM,<- r.length];exact hl
 .obtain⟨W,j,a,y,dx,us,rfl,m,n,ne,rfl,u,tp,r,hl,G,tb,kk⟩:=h;have old:∀{d:Addr} {o:HO},j d=some o->upd (upd j dx (.own y)) y Qvs d=some o:=λ{d o} q=>by
   rw[ay (aL q m),ay (aL q n)];exact q
  refine#[_,oa,I ez l outer s _ E #[j,W] a y D G _ W _ [] [] _ #[#[[y]++[],[],?_,.nil,Wp,λd hd=>?_],λd o q=>old q,.refl _,λd o q=>old (u d o q),λd o q z=>?_,λd o q i=>?_,tb] #[λU' Y' H' Z' s' g e=>?_,λt v H' Z' U' Y' s' g e=>e.elim,λ_ _ _ _ _ _ e=>e.elim,λ_ _ _ _ _ _ e=>e.elim]]
  .unfold L2.start;rw[lx,mM,nc,<- r.length];exact .cons (.pin (.ins aO .nil)) (nP _ r)
  .have:d=y:=by simpa using hd
   subst this;exact#[JX u m,m]
  .have C:W d=some o:=q;have p:W d=none:=z;rw[C]at p;cases p
  .by_cases h1:d=y
   .subst h1;rw[aO]at q;cases q;cases i
   .rw[ay h1]at q;by_cases h2:d=dx
    .subst h2;rw[aO]at q;cases q;cases i
    .rw[ay h2]at q;exact tp d o q i
  .obtain⟨fp,gp,J,_,nd,own⟩:=g.rep;obtain⟨v,f1,f2,L,hv,B,rt,_,_⟩:=J.get e;subst B;replace rt:=rt.Rz;obtain⟨rfl,rt⟩:=rt;refine kk H' Z' f2 g.bh g.zz g.zh g.new g.tp rt ?_ λd hd=>own d (by simp[hd]);have h1:=(ma.1 nd).1;exact(ma.1 (ma.1 h1).2.1).1
variable{body:CO}{ds Ka:At}
theorem Kc(g:Gx X)(P:Qhv)(m:Nat)(h0:P m U)
  (hs:∀m U,P m U->∃p δ1,qW X CL b e U p δ1 ∧
   (p=true->c7 X CL b body δ1 {nx:=λU2=>∃a,a<m/\P a U2,rt:=DD.rt,bk:=λU2=>c7 X CL b fD U2 DD,ct:=λU2=>∃a,a<m/\P a U2})/\(p=false->c7 X CL b fD δ1 DD)) :
  c7 X CL b (.While e body [] pos::fD) U DD:=b8 λH Z Y ts vs E S M=>
 oH (aap g.xe rr oa) (by
  refine#[λm Y H=>∃Z2 U2,aC Z Z2/\bD X.K CL b H Z2 U2 Y ts vs/\P m U2,#[m,Z,U,.refl _,S,h0],?_];rintro m Y H ⟨Z2,U2,f,k,p2⟩;obtain⟨p,δ3,j,h1,h2⟩:=hs m U2 p2;refine j H Z2 Y ts vs _ k λi Z3 d k3 h=>?_;cases p with
  | true=>
   refine#[ _,λY' H' q=>q,?_];refine h1 rfl i Z3 Y ts vs _ h #[λU' Y' H' Z' s' c ⟨a,l,q⟩=>#[a,l,Z',U',f.trans Qno,c,q],λt v H' Z' U' Y' s' c q=>M.rt t v H' Z' U' Y' Qyo c q,
    λU' Y' H' Z' s' c q=>M.nx U' Y' H' Z' Qyo c q,λU' Y' H' Z' s' c ⟨a,l,q⟩=>#[a,l,Z',U',f.trans Qno,c,q]]
  | false=>
   exact M.nx δ3 Y i Z3 (f.trans d) h (h2 rfl))
def aqg(K:Frag):R2:=λx y H Q=>∃l b xs zs,x=.ref l/\y=.ref b/\nF K H l xs/\nF K H b zs/\xs.length+zs.length<=sizeLine/\∀p,H p=none->Q QbU (upd H p QsG)
theorem afR:yE X QgA (aqg X.K):=by
 intro pins s Y H x y v u Q I k j h;obtain⟨l,b,xs,zs,rfl,rfl,p,t,hz,q⟩:=h;cases k;cases j;obtain⟨its,r,pl,_⟩:=I.list p;obtain⟨i,f,d,_⟩:=I.list t;have e1:=r.length;have e2:=f.length;obtain⟨⟨D,dd,A,sl⟩,g,o,n,hd⟩:=pl.isList;obtain⟨⟨C,e,z,c⟩,a,B,m,hd2⟩:=d.isList;cases o;cases B;cases hd;cases hd2;refine concat_meets #[_,g,rfl] #[_,a,rfl] noFill_list_add seq_list_add PySem.F.slot_list_add PySem.F.entry_list_add (PySem.F.args_list_add_2 _ _)
  (list_addW l b _ _ n m dd e sl c WE) #[g,a,?_]
 have w:its.toArray++i.toArray=(its++i).toArray:=by simp
 rw[w];exact#[.ref _,_,I.OR (r.append f) WA,rfl,q _ I.fresh]
theorem aB.app{ds Ka:At}{a:B0}(h:QfO)(b:aB K CL Z Ka a):aB K CL Z (ds++Ka) (vs++a):=
 aB.ind (P:=λds vs=>aB K CL Z (ds++Ka) (vs++a)) b (λr _ i=>.cons r i) h
def rA(h1:Ql0)(h2:cN X CL b e2 δ1 (.lst Ka) U2)(i1:Qdy)(n:D.bC Ka=true)(hz:QlQ) :
  bU X CL b Qgh U (.lst ((ds++Ka).map T.sh)) U2:=λH Z Y ts vs Q S k=>
 cC (NK afR cQ cQ) (h1 H Z Y ts vs _ S λv1 H1 Z1 j k1 r m=>h2 H1 Z1 Y ts vs _ r λv2 H2 Z2 i k2 h l=>by
  have e:=m.mono k2;obtain⟨_,_,rfl,g,d⟩:=e.iM;obtain⟨_,_,rfl,f,a⟩:=l.iM;refine#[_,_,_,_,rfl,rfl,g,f,by rw[<- d.length,<- a.length];exact hz,λp o=>?_];have rc:=aB.app (aB.mZ h.tp i1 d) (aB.mZ h.tp n a);obtain⟨c,q⟩:=(bD.qz rc h).nO (g0:=[]) (by simp[d.length,a.length]) o;exact k _ _ _ QjT Qtx q)
def boot_max:bootBuiltins "max" = some QvO:=by decide +kernel
def boot_str:bootBuiltins "str" = some Qn7:=by decide +kernel
def afS{i j:Int}(g:Gx X)(hm:X.mg "max" = none)(e:Gl X "max")(h:XW X CL b [e1,e2] U [.int i,.int j] δ1)(hs:QqM:=by exact bq rfl)(hpl:(backTo pos (starEach [e2] X.env)).any (·.1)=false:=by rfl) :
  bU X CL b (.Call (.Name "max" pp) [e1,e2] [] pos) U (.sh Qrc) δ1:=λH Z Y ts vs Q S k=>
 cC (nK (XD g.calm) e hm boot_max JW (he:=hs) (hpl:=hpl)) (h H Z Y ts vs _ S λus H1 Z1 a k1 f r=>by
  cases r with
  | cons d r=>
   cases r with
   | cons c r=>
    cases r;rw[d.sc rfl,c.sc rfl];exact#[i,j,rfl,k _ H1 Z1 a k1 (f.push Qbs)])
def yR{i:Int}(hm:X.mg "str" = none)(c:Gl X "str")(h:cN X CL b e U Qa7 δ1)(hi:i.natAbs.log2<1920)(hs:Qaz:=by exact bq rfl) :
  bU X CL b (.Call (.Name "str" pp) [e] [] pos) U (.sh QuV) δ1:=λH Z Y ts vs Q S k=>
 cC (jP JG c hm boot_str QaQ (he:=hs)) (h H Z Y ts vs _ S λv H1 Z1 a k1 d r=>r.sc rfl▸#[i,rfl,hi,k _ H1 Z1 a k1 (d.push (.str _))])
structure Fm(X:Cx)(CL:BM)(x:Str)(k n:Nat){A:Type}(arg:Qah)(Pre:Qab)(res:Qdz):Prop where
 ex:∃f fd ps,Mk X.K (CL x) f/\dg X.prog X.w X.K X.mg X.base oG k f fd ps (rq X.K CL x n arg Pre res)/\X.mg x=some (.ref (CL x))/\Binds X.K fd ps []
 room:fc QaZ X.A
structure Fq(X:Cx)(CL:BM)(c m:Str)(k n:Nat){A:Type}(arg:Qah)(Pre:Qab)(res:QaV):Prop where
 ex:∃f fd ps,Meth X.K (CL c) m f/\dg X.prog X.w X.K X.mg X.base oG k f fd ps Qf6/\Binds X.K fd ps []
 room:fc k X.A
 cls:yG X.K (CL c)
noncomputable def Kd(N:BA)(y:Addr)(c:Str)(ds:At):BB:=some Qvt::(ds.map QiC++List.replicate (N.length-(ds.length+1)) none)
section
variable{m:Str}{D:dI}
def mk_{arg:Qah}{Pre:Qab}{res:Qdz}(a:A)(F:Ql3)(g:Qaw)(h:Qhp)(d:Pre a)(i:T.c6 QbT=true)(hn:Qjf:=by rfl)
  (c:AD x:=by decide) (he:Qaq:=by exact bq rfl) (hpl:QaE:=by rfl) :
  bU X CL b Qbo U QxK δ1:=by
 obtain⟨f,fd,ps,M,j,m,b⟩:=F.ex;exact afQ a M j F.room m b h hn d i g c he hpl
def NN{arg:Qah}{Pre:Qab}{res:Qdz}(a:A)(F:Ql3)(g:Qaw)(h:Qh0)(d:Pre a)(hn:Qjf:=by rfl)
  (c:AD x:=by decide) (he:Qaq:=by exact bq rfl) (hpl:QaE:=by rfl) :
  bU X CL b Qbo U QxK δ1:=by
 obtain⟨f,fd,ps,M,i,m,b⟩:=F.ex;exact abe a M i F.room m b h hn d g c he hpl
end
def Ke{f:Str}{d:α}{fs:List (Str×α)}:((f,d)::fs).lookup f=some d:=by simp
def yS{f:Str}:nR f t []=[(f,t)]:=rfl
def ic{f g:Str}{u:T}{fs:BS}(h:¬ g=f):nR f t ((g,u)::fs)=(g,u)::nR f t fs:=by
 rw[nR,bW h]
variable{d:L3.D}
theorem yT(x:Int):∀l:AT,ti Qec (l.map V.int)=decide Qj7
 | []=>rfl
 | y::l=>by
  have a:=yT x l;unfold ti at a ⊢;rw[lx,pd,a];show(y==x || _)=_;by_cases h:y=x
  .subst h;simp
  .have h':¬ x=y:=λe=>h e.symm;simp[h,h']
theorem aB.ints{K:Frag}{Z:Hp}:∀{l:AT} {vs:B0},aB K CL Z Qof vs->vs=l.map V.int
 | [],_,r=>by
  have a:=r;cases a;rfl
 | y::l,_,r=>by
  have a:=r;cases a with
  | cons c b=>rw[c.sc rfl,aB.ints b];rfl
theorem kh:∀l:AT,(l.map V.int).all wI=true
 | []=>rfl
 | y::l=>by rw[lx,List.all_cons,kh l];rfl
noncomputable def D5(d:L3.D):Option At:=match d with
 | .lst ds=>some ds
 | .tup ds=>some ds
 | _=>none
theorem bL.D5{ds:At}(r:Qdw)(h:L3.D5 d=some ds):∃p us,v=.ref p/\(nF K Z p us\/tP K Z p us)/\aB K CL Z ds us:=by
 cases r with
 | tup b a=>cases h;exact#[_,_,rfl,.inr b,a]
 | lst b a=>cases h;exact#[_,_,rfl,.inl b,a]
 | non=>cases h
 | bl=>cases h
 | int=>cases h
 | str=>cases h
 | any=>cases h
 | val=>cases h
 | kT=>cases h
 | dct=>cases h
 | ins=>cases h
 | lH=>cases h
variable{l:AT}
def oM{i:Int}(h1:Qbv)(h2:QmF)(hd:L3.D5 d=some Qb5)(hm:Ql5) :
  qW X CL b Qim U Qyp U2/\bU X CL b Qim U (.sh (.bl Qyp)) U2:=by
 constructor
 .intro H Z Y ts vs Q S k;refine yL (vq Ir cQ cQ hm) (h1 H Z Y ts vs _ S λv1 H1 Z1 f k1 n a=>h2 H1 Z1 Y ts vs _ n λv2 H2 Z2 c k2 m h=>?_);obtain⟨p,us,rfl,j,g⟩:=bL.D5 h hd;have e:=g.ints;subst e;refine#[_,_,rfl,j,by rw[a.sc rfl];rfl,kh l,_,rfl,?_];rw[a.sc rfl,yT];exact k H2 Z2 Qd3 Qao m
 .intro H Z Y ts vs Q S k;refine cC (yF Ir cQ cQ hm) (h1 H Z Y ts vs _ S λv1 H1 Z1 f k1 n a=>h2 H1 Z1 Y ts vs _ n λv2 H2 Z2 c k2 m h=>?_);obtain⟨p,us,rfl,j,g⟩:=bL.D5 h hd;have e:=g.ints;subst e;refine#[_,_,rfl,j,by rw[a.sc rfl];rfl,kh l,?_];rw[a.sc rfl,yT];exact k _ H2 Z2 Qd3 Qao Qyu
def vC{i:Int}(h1:Qbv)(h2:QmF)(hd:L3.D5 d=some Qb5)(hm:Qin) :
  qW X CL b QeB U (!decide Qou) U2/\bU X CL b QeB U (.sh (.bl (!decide Qou))) U2:=by
 constructor
 .intro H Z Y ts vs Q S k;refine yL QwY (h1 H Z Y ts vs _ S λv1 H1 Z1 f k1 n a=>h2 H1 Z1 Y ts vs _ n λv2 H2 Z2 c k2 m h=>?_);obtain⟨p,us,rfl,j,g⟩:=bL.D5 h hd;have e:=g.ints;subst e;refine#[_,_,rfl,j,by rw[a.sc rfl];rfl,kh l,_,rfl,?_];rw[a.sc rfl,yT];exact k H2 Z2 Qd3 Qao m
 .intro H Z Y ts vs Q S k;refine cC QwZ (h1 H Z Y ts vs _ S λv1 H1 Z1 f k1 n a=>h2 H1 Z1 Y ts vs _ n λv2 H2 Z2 c k2 m h=>?_);obtain⟨p,us,rfl,j,g⟩:=bL.D5 h hd;have e:=g.ints;subst e;refine#[_,_,rfl,j,by rw[a.sc rfl];rfl,kh l,?_];rw[a.sc rfl,yT];exact k _ H2 Z2 Qd3 Qao Qyu
def afT{l:BA}(h1:Qma)(h2:QmF)(hd:L3.D5 d=some (l.map .str))(hm:Qin) :
  qW X CL b QeB U (!decide Qj7) U2/\bU X CL b QeB U (.sh (.bl (!decide Qj7))) U2:=by
 constructor
 .intro H Z Y ts vs Q S k;refine yL QwY (h1 H Z Y ts vs _ S λv1 H1 Z1 f k1 m a=>h2 H1 Z1 Y ts vs _ m λv2 H2 Z2 c k2 j h=>?_);obtain⟨p,us,rfl,i,g⟩:=bL.D5 h hd;have e:=g.strs;subst e;refine#[_,_,rfl,i,by rw[a.sc rfl];rfl,rj l,_,rfl,?_];rw[a.sc rfl,J9];exact k H2 Z2 Qd3 Qao j
 .intro H Z Y ts vs Q S k;refine cC QwZ (h1 H Z Y ts vs _ S λv1 H1 Z1 f k1 m a=>h2 H1 Z1 Y ts vs _ m λv2 H2 Z2 c k2 j h=>?_);obtain⟨p,us,rfl,i,g⟩:=bL.D5 h hd;have e:=g.strs;subst e;refine#[_,_,rfl,i,by rw[a.sc rfl];rfl,rj l,?_];rw[a.sc rfl,J9];exact k _ H2 Z2 Qd3 Qao Qyv
variable{ds:At}
def aV:GA X CL b [] U (([]:At).map T.sh) U:=bM
def aq(h1:QiD)(h2:GA X CL b es δ1 Qb3 U2)(hs:Qaq:=by exact bq rfl):GA X CL b Qap U ((d::ds).map T.sh) U2:=aH h1 h2 hs
theorem fY(h:Qt5)(hl:Qcd):bU X CL b Qn8 U QdP δ1:=dF h WA
def tY(l:BA):D.bC (l.map L3.D.str)=true:=eO QcP _
def gQ(h:Qme):bU X CL b e U Qe1 δ1:=by
 have:=RB h
 rwa [T.fC,lI]at this
noncomputable def jt(h:QaX)(q:t.fC=d):bU X CL b e U Qbb δ1:=q▸RB h
def afU(h:DD.bk U):c7 X CL b (.Break pos::fD) U DD:=b8 (aaZ h)
def alE(h:DD.ct U):c7 X CL b (.Continue pos::fD) U DD:=b8 (afI h)
noncomputable def sY{d2:L3.D}(h:QcF)(q:d=d2):cN X CL b e U d2 δ1:=q▸h
noncomputable def aK{t2:T}(h:QaX)(q:t=t2):bU X CL b e U t2 δ1:=q▸h
structure Kf(Z H Z' H':Hp):Prop where
 z:aC Z Z'
 h:aC H H'
 zh:aC Z' H'
 new:∀a o,Z' a=some o->Z a=none->H a=none
 tp:∀a o,H' a=some o->jH o=true->Z' a=some o
theorem Kf.refl(zh:QfW)(tp:∀a o,H a=some o->jH o=true->Z a=some o):Kf Z H Z H:=#[.refl _,.refl _,zh,λa o q z=>WE,tp]
theorem Kf.tup{p:Addr}(zh:QfW)(tp:∀a o,H a=some o->jH o=true->Z a=some o)(b:Qdx):Kf Z H (upd Z p Qbr) (upd H p Qbr):=by
 have c:=zh.free b;refine#[aC.upd c,aC.upd b,λa o q=>?_,λa o q z=>?_,λa o q i=>?_]
 .by_cases e:a=p
  .subst e;rw[aO]at q ⊢;exact q
  .rw[ay e]at q ⊢;exact zh a o q
 .by_cases e:a=p
  .subst e;exact b
  .rw[ay e,z]at q;cases q
 .by_cases e:a=p
  .subst e;rw[aO]at q ⊢;exact q
  .rw[ay e]at q ⊢;exact tp a o q i
theorem bD.grow(S:QaA)(g:Kf Z H Z' H'):bD K CL b H' Z' U Y ts vs:=by
 obtain⟨fp,gp,e,r,nd,k⟩:=S.rep;have old:=λa c=>(i8.1 c).elim (e.there a) (r.there a);have keep:∀a∈fp++gp,H' a=H a:=λa c=>by
  obtain⟨o,q⟩:=old a c;rw[q];exact g.h a o q
 refine#[#[fp,gp,e.mono g.z (λa c=>keep a (kq _ c)),r.mono g.z (λa c=>keep a (jN _ c)),nd,λa c=>#[?_,(k a c).2]],S.bh.trans g.h,S.zz.trans g.z,g.zh,λa o q z=>?_,g.tp,S.tab]
 .cases q:Z' a with
  | none=>rfl
  | some o=>
   obtain⟨u,d⟩:=old a c;rw[g.new a o q (k a c).1]at d;cases d
 .cases e2:Z a with
  | none=>exact S.bh.free (g.new a o q e2)
  | some u=>
   have:=g.z a u e2;rw[q]at this;cases this;exact S.new a o e2 z
noncomputable def Vy(U:BB):Ch->At->BB
 | i::is,d::ds=>Vy QnB is ds
 | _,_=>U
noncomputable def D6(Y:L2.St):Ch->B0->L2.St
 | i::is,v::vs=>D6 QeY is vs
 | _,_=>Y
theorem bD.sets{ps:At}{ys:B0}:∀{is:Ch} {U:BB} {Y:L2.St},bD K CL b H Z U Y ts vs->aB K CL Z ps ys->(∀i∈is,i<U.length)->bD K CL b H Z QoL (D6 Y is ys) ts vs:=by
 intro is
 induction is generalizing ps ys with
 | nil=>
  intro U Y S r _;cases ps<;>cases ys<;>exact S
 | cons i is c=>
  intro U Y S r hl;cases r with
  | nil=>exact S
  | cons r a=>exact c ((S.push r).set (hl i iB)) a (λj d=>by rw[p4];exact hl j Qkl)
section
variable{ds:At}
structure D7(X:Cx)(CL:BM)(b:Bx)(δ1:BB)(Y:L2.St)(ts:Bz)(vs:B0)(Z H:Hp)(ds:At)(J:It)(H1:Hp):Prop where
 ex:∃Z1,aC Z Z1/\aC H H1/\bD X.K CL b H1 Z1 δ1 Y ts vs/\(∀i H2,aC Z1 H2->i<ds.length->J.go i H2) ∧
  (∀i Z2 H2 x H',aC Z1 Z2->aC Z2 H2->(∀a o,H2 a=some o->jH o=true->Z2 a=some o)->i<ds.length->J.o3 i H2 x H'->∃Z3 d,ds[i]? = some d/\Kf Z2 H2 Z3 H'/\bL X.K CL Z3 d x)/\(∀H2,aC Z1 H2->J.stop ds.length H2)
def sR(X:Cx)(CL:BM)(b:Bx)(tg e:Expr)(U:BB)(ds:At)(δ1:BB):Prop:=
 ∃a,PI X tg e a/\∀(H Z:Hp) (Y:L2.St) (ts:Bz) (vs:B0) (R:Qg9),bD X.K CL b H Z U Y ts vs->(∀J H1,D7 X CL b δ1 Y ts vs Z H ds J H1->R J H1)->a Y H R
def Og(h:ql X CL b tg iter U ds δ1):sR X CL b tg iter U ds δ1:=by
 obtain⟨f,pi,hw⟩:=h;refine#[f,pi,λH Z Y ts vs R S k=>hw H Z Y ts vs R S λJ H1 zz=>?_];obtain⟨Z1,us,a,k1,n,g,go,c,st⟩:=zz;refine k J H1 #[Z1,a,k1,n,go,λi Z2 H2 x H' s1 s2 tp hi l=>?_,st];obtain⟨e,m⟩:=c i H2 x H' Qog hi l;subst e;obtain⟨d,hd,j⟩:=g.yn m;exact#[Z2,d,hd,.refl s2 tp,j.mono s1]
def z3(X:Cx)(CL:BM)(tg:Expr)(is:Ch)(parts:QjB):Prop:=
 ∃t:TG,PG X tg t/\∀(Z H:Hp) (d:D) (ps:At) (x:V) (Y:L2.St) (Q:QvR),aC Z H->bL X.K CL Z d x->parts d=some ps->(∀ys,aB X.K CL Z ps ys->Q (D6 Y is ys) H)->t x Y H Q
noncomputable def part1(d:D):Option At:=some [d]
noncomputable def part2:D->Option At
 | .tup [a,c]=>some [a,c]
 | _=>none
theorem X5{d:D}{ps:At}(h:part2 d=some ps):∃d1 d2,d=.tup [d1,d2]/\ps=[d1,d2]:=by
 cases d with
 | tup ds=>
  obtain _|⟨a,_|⟨c,_|⟨e,l⟩⟩⟩:=ds
  .cases h
  .cases h
  .cases h;exact#[_,_,rfl,rfl]
  .cases h
 | _=>cases h
theorem RN{d:D}{ps:At}{x:V}{Q:QvR}(zh:QfW)(r:bL K CL Z d x)(e:part2 d=some ps)(k:∀ys,aB K CL Z ps ys->Q (D6 Y [i,j] ys) H):OM K 2 (L4 (Nz i) (L4 (Nz j) ON)) x Y H Q:=by
 obtain⟨d1,d2,rfl,rfl⟩:=X5 e;obtain⟨_,_,rfl,f,a⟩:=r.qy;cases a with
 | cons c a=>
  cases a with
  | cons b a=>
   cases a;exact#[_,_,rfl,aC.N5 zh f,rfl,_,_,rfl,_,_,rfl,rfl,k _ (.cons c (.cons b .nil))]
def Oh{px:Pos}(a:QbH)(n:Qbt):z3 X CL QoM [i] part1:=
 #[ _,yC a n.hi n.loc n.hf,λZ H d ps x Y Q zh r e k=>by
  cases e;exact k [x] Qn9]
def Ds{y:Str}{px py pt:Pos}(a:QbH)(c:Qbe)(n:Qbt)(m:Ln X j y)(hs:(assignEach [.Name x px,.Name y py] X.env).map (·.2)=assign QoM X.env::(assignEach [.Name y py] X.env).map (·.2):=by rfl)(f:(assignEach [.Name y py] X.env).map (·.2)=assign QiB X.env::(assignEach [] X.env).map (·.2):=by rfl)
  (hn:(assignEach [.Name x px,.Name y py] X.env).length=2:=by rfl) (b:(assignEach [.Name x px,.Name y py] X.env).findIdx? (·.1)=none:=by rfl):z3 X CL (.Tuple [.Name x px,.Name y py] k pt) [i,j] part2:=
 #[ _,akJ c (NB (yC a n.hi n.loc n.hf) (NB (yC a m.hi m.loc m.hf) afb f) hs) hn b,λZ H d ps x Y Q zh r e k=>RN zh r e k]
theorem afV{D:dI}(is:Ch)(parts:QxL)(P:Qhv)(h:Qhw)(n:Qws)(h0:P 0 δ1)(hl:∀j U,P j U->∀i∈is,i<U.length)
  (hs:∀j d U,ds[j]? = some d->P j U->∃ps,parts d=some ps/\c7 X CL b fD QoL {nx:=P QU,rt:=D.rt,bk:=D.nx,ct:=P QU}) (hd:∀U,P ds.length U->D.nx U)
  (F:QlG) (G:Qbe) (C:QcE:=by intro _;rfl) :
  Z9 X CL b (.For tg iter fD [] pos) U D:=λH Z Y ts vs E S M=>by
 obtain⟨O,pi,hw⟩:=h;obtain⟨t,pg,n⟩:=n;refine oH (X0 F G pi pg oa C) (hw H Z Y ts vs _ S λJ H1 zz=>?_);obtain⟨Z1,f,k1,N,go,u,st⟩:=zz;refine#[λj m Y H2=>m=ds.length-j/\j<=ds.length/\∃Z2 U2,aC Z1 Z2/\bD X.K CL b H2 Z2 U2 Y ts vs/\P j U2,#[_,rfl,kx _,Z1,δ1,.refl _,N,h0],?_];rintro j m Y H2 ⟨rfl,R,Z2,U2,s,c,p2⟩;by_cases l:j<ds.length
 .refine .inr #[go j H2 QxM l,_,λY' H' h=>#[ _,We,rfl,l,h],λy H' B=>?_];obtain⟨Z3,d,p,q,x⟩:=u j Z2 H2 y H' s c.zh c.tp l B;obtain⟨ps,o,I⟩:=hs j d U2 p p2;have r:=c.grow q;refine n Z3 H' d ps y Y _ r.zh x o λys g=>?_;have L:=r.sets g (hl j U2 p2);have s3:=s.trans q.z;exact I _ Z3 _ ts vs _ L #[λU' Y' H' Z' s' a k=>#[Z',U',s3.trans s',a,k],λt v H' Z' U' Y' s' a k=>M.rt t v H' Z' U' Y' Qty a k,λU' Y' H' Z' s' a k=>M.nx U' Y' H' Z' Qty a k,λU' Y' H' Z' s' a k=>#[Z',U',s3.trans s',a,k]]
 .have e:j=ds.length:=by lia
  subst e;exact .inl #[st H2 QxM,M.nx U2 Y H2 Z2 (f.trans s) c (hd U2 p2)]
def Kg{D:dI}{is:Ch}{parts:QxL}(g:Gx X)(a:Qws)(P:Qhv)(h:Qhw)(h0:P 0 δ1)(hl:∀j U,P j U->∀i∈is,i<U.length)
  (hs:∀j d U,ds[j]? = some d->P j U->∃ps,parts d=some ps/\c7 X CL b body QoL {nx:=P QU,rt:=D.rt,bk:=λU2=>c7 X CL b fD U2 D,ct:=P QU}) (hd:∀U,P ds.length U->c7 X CL b fD U D) (c:QcE:=by intro _;rfl) :
  c7 X CL b (.For tg iter body [] pos::fD) U D:=
 b8 (afV is _ P h a h0 hl hs hd g.xe g.calm c)
def eS{D:dI}{pos':Pos}(g:Gx X)(n:Qbt)(P:Qhv)(h:ql X CL b Qjp iter U ds δ1)(h0:P 0 δ1)(hl:∀j U,P j U->i<U.length)
  (hs:∀j d U,ds[j]? = some d->P j U->c7 X CL b body QnB {nx:=P QU,rt:=D.rt,bk:=λU2=>c7 X CL b fD U2 D,ct:=P QU}) (hd:∀U,P ds.length U->c7 X CL b fD U D) (c:QcE:=by intro _;rfl) :
  c7 X CL b (.For Qjp iter body [] pos::fD) U D:=
 Kg g (Oh g.nd n) P (Og h) h0 (λj U a k e=>lh.1 e▸hl j U a) (λj d U f a=>#[_,rfl,hs j d U f a]) hd c
end
structure rB(X:Cx)(scope:Scope)(xs:BA)(Nc:BA)(ix:Ch):Prop where
 kind:scope.kind=.function
 A4:∀y∈scope.names,y.2 ≠ .cell
 nd:Nc.Nodup
 names:∀y∈scope.names,y.2=.local->scope.names.lookup y.1=some .local
 own:∀x∈xs,scope.names.lookup x=some .local
 frees:∀y∈scope.names,y.2=.free->scope.names.lookup y.1=some .free/\QqS
 hd:Nc=xs++ix.filterMap (X.N[·]?)
 r0:∀i∈ix,∃y,X.N[i]? = some y/\scope.names.lookup y=some .free
noncomputable def X6(Y:L2.St)(ix:Ch)(os:Qg7):L2.St:=os++ix.map λi=>(Y[i]?).getD none
variable{xs:BA}
theorem Oi(sc:Qep)(I:QE)(x:∀b∈fp,mX X pins H b/\b<s.heap.objs.size){h':Heap}{m:Bi}{tk:Nat}
  (hn:h'.Ns s.heap.objs.size m) (d:∀b o,s.heap.get? b=some o->h'.get? b=some o) :
  Inv Qrh [] (X6 Y ix Qr6) H {s with heap:=h',toks:=tk}:=by
 have frees:∀y∈scope.names,y.2=.free->∃c,X.env.cells.lookup y.1=some c:=λy J e=>I.ok.has y.1 (sc.frees y J e).2;have sub:∀{y:Str} {c:Addr},(fj X.env scope.names []).lookup y=some c->X.env.cells.lookup y=some c:=λ{y c} e=>q8 frees (λ_ _ z=>by cases z) e;have hlen:(X6 Y ix Qr6).length=Nc.length:=by
  have all:∀l:Ch,(∀i∈l,∃y,X.N[i]? = some y/\scope.names.lookup y=some .free)->(l.filterMap (X.N[·]?)).length=l.length:=by
   intro l
   induction l with
   | nil=>intro _;rfl
   | cons i r G=>
    intro h;obtain⟨y,e,_⟩:=h i iB;rw[nz,e];show _+1=_+1;rw[G λj C=>h j (i3 _ C)]
  unfold X6;rw[sc.hd,lj,lj,cM,sk,all ix sc.r0]
 have C0:s.heap.get? s.heap.objs.size=none:=Heap.get?_none_of_le (js _);refine#[#[I.ok.mod,sc.kind,I.ok.glob,I.ok.blt,js _,λy z c h1 h2=>I.ok.inj y z c (sub h1) (sub h2),λy J=>?_,λy c hf _=>(by cases (show false=true from hf)),I.ok.hd,I.ok.frames,.inl rfl,λb g=>#[l1 (x b g).2,λy c e=>(x b g).1.2.2.2.2.1 y c Qg4],I.bs,l6 I.ok.ZZ I.sz,λb o e g=>?_,λb g hf=>?_,I.stack,I.Di],
  rfl,I.bare,Un.kept d,#[m,hn,λi y v h1 h2 h3=>?_],λy c e=>?_,I.cV.fresh (js _),λy c e=>I.nI y c Qg4,λp W=>absurd (show p∈([]:BC) from W) Wp,I.cV.kept d,hlen]
 .
  have B:(relabel scope X.env).names.lookup y=some .cell\/(relabel scope X.env).names.lookup y=some .free:=J;cases e:scope.names.lookup y with
  | none=>
   have:=mR (env:=X.env) e;obtain q|q:=B<;>(rw[show(relabel scope X.env).names.lookup y=none from this]at q;cases q)
  | some k=>
   have q:=iP (env:=X.env) e;have d:k=.free:=by
    by_cases d:k=.free
    .exact d
    .have g:Qm8=false:=by simpa using d
     rw[bW (by rw[g];simp)]at q;have V:k ≠ .cell:=λz=>by
      subst z;exact sc.A4 _ (rh e) rfl
     obtain z|z:=B
     .rw[show(relabel scope X.env).names.lookup y=some k from q]at z;exact absurd (mu z) V
     .rw[show(relabel scope X.env).names.lookup y=some k from q]at z;exact absurd (mu z) d
   subst d;exact nQ e
 .
  rcases(x b g).1.2.2.2.1 with z|z
  .exact I.ok.Rf b o e z
  .exact absurd (my (kr e) (l6 I.ok.ZZ z)) (r8 _)
 .obtain z|z:=fL.1 (I.JD b hf)
  .exact(x b g).1.2.1 z
  .exact(x b g).1.2.2.1 z
 .
  unfold X6 at h2;by_cases hi:i<xs.length
  .rw[y4 (by rw[sk];exact hi),Mn,cq hi]at h2;cases h2
  .obtain⟨n,rfl⟩:∃n,i=xs.length+n:=#[i-xs.length,We];rw[y5 (by rw[sk];lia),sk,Nat.add_sub_cancel_left,k4]at h2;cases F:ix[n]? with
   | none=>rw[F]at h2;cases h2
   | some j=>
    rw[F]at h2;have t:(Y[j]?).getD none=some v:=mu h2;have C:Y[j]? = some Qbc:=by
     cases q:Y[j]? with
     | none=>rw[q]at t;cases t
     | some o=>rw[q]at t;exact congrArg some t
    obtain⟨f,A,w⟩:=sc.r0 j (l4 F);have M:Nc[xs.length+n]? = some f:=by
     have all:∀(l:Ch) (i:Nat),(∀j∈l,∃y,X.N[j]? = some y/\scope.names.lookup y=some .free)->l[i]? = some j->(l.filterMap (X.N[·]?))[i]? = some f:=by
      intro l
      induction l with
      | nil=>intro i _ h;simp at h
      | cons a r G=>
       intro i h hi;obtain⟨ya,O,_⟩:=h a iB;rw[nz,O];cases i with
       | zero=>
        simp at hi;subst hi;rw[A]at O;cases O;rfl
       | succ i=>exact G i (λj C=>h j (List.mem_cons_of_mem _ C)) (by simpa using hi)
     rw[sc.hd,y5 We,Nat.add_sub_cancel_left];exact all ix n sc.r0 F
    have ey:f=y:=by
     have E:Nc[xs.length+n]? = some y:=h1;rw[M]at E;exact mu E
    subst ey;have R:=(sc.frees (f,.free) (rh w) rfl).2;have P:sy X.env.scope f:=R.elim Qtf QsH;obtain⟨m0,Z,L⟩:=I.loc;obtain⟨u,U,lk⟩:=L j f v A C P;refine#[u,U,?_];obtain⟨kk,_⟩|⟨_,c,hc,T⟩:=lk
    .obtain z|z:=R
     .rw[kk]at z;cases z
     .rw[kk]at z;cases z
    .obtain⟨S,D⟩:=nQ (env:=X.env) (cs:=[]) w;have:S=c:=by
      have:=sub D;rw[hc]at this;exact(mu this).symm
     subst this;obtain⟨o,K,hd⟩:=T;refine .inr #[?_,S,D,o,d _ _ K,hd];have q:=iP (env:=X.env) w;show(relabel scope X.env).names.lookup f=some .cell\/(relabel scope X.env).names.lookup f=some .free;rw[show(relabel scope X.env).names.lookup f=_ from q];split
     .exact .inl rfl
     .exact .inr rfl
 .obtain⟨v,o,K,hd⟩:=I.cell y c Qg4;exact#[v,o,d _ _ K,hd]
def LS(X:Cx)(tg elt:Expr)(ifs:Cf)(n:Nat)(Y:L2.St)(ix:Ch)(D:Addr)(N:Qj3)(e:V)(os:Qg7)(g:Hp):Prop:=
 ∃t:TG,PG X tg t/\t e (X6 Y ix os) g λa f=>∃b,b.length=n/\a=X6 Y ix b/\Kk X ifs a f λok d=>
  if ok=true then yK X elt a d λy c=>∃acc,c D=some (.lst acc)/\acc.length<sizeLine/\N (upd c D Qw0) else N d
variable{it:Addr}{E:BN}
def D8{J:It}{tn:Qi4}{G:Addr->Hp->Prop}{RR:Qrm}
  (sc:Qep) (hc:Qbe) (I:QE) (l:Qr7) (st:tn 0 s.heap) (hf:∀b∈fp,mX X pins H b)
  (loop:∀D,H D=none->∃W:Nat->Nat->Hp->Prop,(∃m,W 0 m Qyq)/\∀i m H2,W i m H2->(J.stop i H2/\G D H2) ∨
   (J.go i H2/\∃N:Hp->Prop,(∀H',N H'->∃m',m'<m/\W Qbd m' H')/\∀L H3,J.o3 i H2 L H3->∀C s0 H0 f0 os,os.length=xs.length->LS QsY tg elt ifs xs.length Y ix D N L os H3))
  (aI:∀D C s' H',(∃m,s'.heap.Ns C m)->(∃o,s'.heap.get? C=some o/\∀v,o.data ≠ .cell v)->H' C=none->(C≠X.env.locals/\C∉X.fs/\X.jj.heap.objs.size<=C/\(∀y c,X.env.cells.lookup y=some c->c≠C)/\∀q∈X.pn++pins,q.1≠C)->(∀h',Heap.SameBut C s'.heap h'->Inv X pins Y H' {s' with heap:=h'})->G D H'->RR Qfu C QjS s') :
  wpAny Qr X.A QoA (λacc O=>wpAny Qr X.A Qqi (λaa M=>
   codeAny Qr X.A (.compStart QdD 0 Qb7 acc {aa with scope:=relabel scope X.env}) (RR acc aa.locals) M) E O) E s:=by
 refine wpAny_newObj_type ?_;have F:Inv X pins Y QhI {s with heap:=s.heap.push {cls:=.type "list",dict:=none,data:=.seq ([]:B1).toArray}}:=
  I.laid (t':=s.toks) QmD (js _) #[by show 0<=sizeLine;exact kx _,[],0,.nil,mf _ rfl]
 have hD:H s.heap.objs.size=none:=I.cV.fresh (js _);obtain⟨W,⟨m0,w0⟩,turn⟩:=loop _ hD;have j:∀b∈fp,mX X pins QhI b/\b<(s.heap.push {cls:=.type "list",dict:=none,data:=.seq ([]:B1).toArray}).objs.size:=λb a=>by
  obtain⟨f0,f1⟩:=hf b a;obtain⟨o,ho,_⟩:=l.obj 0 _ st b a;have mG:=kr ho;refine#[#[by rw[ay (l1 mG)];exact f0,f1],?_];rw[Heap.size_push];exact Nat.lt_succ_of_lt mG
 have S:tn 0 (s.heap.push {cls:=.type "list",dict:=none,data:=.seq ([]:B1).toArray}):=l.keep 0 _ _ st λb _ o e=>lr _ e;generalize ag:({s with heap:=s.heap.push {cls:=.type "list",dict:=none,data:=.seq ([]:B1).toArray}}:Shared)=s3 at F ⊢;have ax:s3.heap=s.heap.push {cls:=.type "list",dict:=none,data:=.seq ([]:B1).toArray}:=by rw[<- ag]
 rw[<- ax]at j S;refine wpAny_newFunctionEnv sc.A4 (by intro y hy;simp at hy) (λh bb ba=>?_) sc.kind;have old:∀b o,s3.heap.get? b=some o->h.get? b=some o:=λb o e=>(ba.2 b QjN).trans Qfy;have J0:=Oi (tk:=s3.toks+([]:D1).length) sc F j bb old;have R:tn 0 h:=l.keep 0 _ _ S λb _ o e=>old b o e;have Z:∀s4:Shared,s4={s3 with heap:=h,toks:=s3.toks+([]:D1).length}->codeAny Qr X.A (.compLoop QdD 0 Qb7 Qcj (compEnvC scope Qcg s3.heap.objs.size X.env)) (RR Qcj s3.heap.objs.size) s4:=by
  rintro s4 rfl;have f:∀{H':Hp},(∀b∈fp,H' b=none)->∀b∈fp,mX Qeu [] H' b:=λ{H'} hn b a=>by
   obtain⟨⟨f0,f1,f2,f3,f4,f5⟩,mG⟩:=j b a;refine#[hn b a,l1 mG,λz=>?_,.inl a,λy c e=>f4 y c (q8 (λy hy e=>I.ok.has y.1 (sc.frees y hy e).2) (λ_ _ z=>by cases z) e),λp hp=>absurd (show p∈([]:BC) from hp) Wp];obtain q|q:=fL.1 (F.JD b z)
   .exact f1 q
   .exact f2 q
  refine J6 (λn s'=>∃i o H',o.length=xs.length/\Inv Qeu [] (X6 Y ix o) H' s'/\tn i s'.heap/\(∀b∈fp,H' b=none)/\W i n H') ?_ m0 #[0,_,_,sk,J0,R,λb a=>(j b a).1.1,w0];rintro n s5 ⟨i,o5,H5,af,I5,P,V,w5⟩;obtain⟨stop,g⟩|⟨go,N,hN,step⟩:=turn i n H5 w5
  .refine d9 (l.done Qeu rfl rfl rfl hc i [] s5 _ H5 _ I5 (f V) P stop) λr s6 zz=>?_;obtain⟨hr,I6⟩:=zz;subst hr;obtain⟨m6,U,_⟩:=I6.loc;obtain⟨oc,bo,bp,aw,az,_⟩:=id U;have k:=F.DR (js s3.heap.objs.size) (H':=λ_=>none) rfl;refine aI _ _ s6 H5 #[m6,U] #[oc,aw,λv z=>by rw[az]at z;cases z] I6.free #[k.2.1,k.2.2.1,?_,k.2.2.2.2.1,k.2.2.2.2.2] (λh' ar=>XY F (λb a=>(j b a).1) I6 ar) g;exact F.sz
  .refine d9 (l.item Qeu rfl rfl rfl hc i [] s5 _ H5 _ I5 (f V) P go) λr s6 zz=>?_;obtain⟨u,hr,h6⟩:=zz;subst hr;refine d9 h6 λ_ s7 zz=>?_;obtain⟨L,H7,I7,r7,y7,B,aT⟩:=zz;have bc:=I7.pinned (f aT) (l.obj _ _ B);obtain⟨t,hg,ht⟩:=step L _ y7 s3.heap.objs.size s3 QhI fp o5 af;refine d9 (hg _ s7 _ H7 L u _ bc r7 ht) λ_ s8 zz=>?_;obtain⟨bj,H8,I8,T,ae,e8,h8⟩:=zz;subst e8;refine d9 (aa0 I8 h8 rfl) λok s9 zz=>?_;obtain⟨H9,I9,q9⟩:=zz;have again:∀{x:Hp} {sa:Qb},Inv Qeu ([]++DS fp s7.heap) (X6 Y ix T) x sa->N x->∃m,m<n/\∃i o H',o.length=xs.length/\Inv Qeu [] (X6 Y ix o) H' sa/\tn i sa.heap/\(∀b∈fp,H' b=none)/\W i m H':=λ{x sa} Ia na=>by
    obtain⟨m',hm,wa⟩:=hN x na;refine#[m',hm,i+1,T,x,ae,Ia.tR,l.keep _ _ _ B λb a o e=>(Ia.pin (b,o) Qu2).1,λb a=>?_,wa];obtain⟨o,e,d⟩:=l.obj _ _ B b a;exact(Ia.pin (b,o) Qu2).2.1
   cases ok with
   | false=>
    rw[bW mn]at q9 ⊢;exact again I9 q9
   | true=>
    rw[cq rfl]at q9 ⊢;refine d9 (q9 _ s9 I9) λv sa zz=>?_;obtain⟨y,x,Ia,ra,acc,Oj,hlen,na⟩:=zz;refine d9 (vv (X:=dO X scope Nc s3.heap.objs.size s3 QhI fp) _ sa _ x Qcj [y] Qcj [v] (λ_ Hb=>Hb=upd x s.heap.objs.size Qw0) Ia rfl (.cons ra .nil) #[_,acc,y,rfl,rfl,Oj,hlen,rfl]) λ_ sb zz=>?_;obtain⟨_,Hb,Ib,_,eb⟩:=zz;subst eb;exact again Ib na
 exact codeAny_compStart_list (Z _ rfl) (l.self _ 0 _ _ _ R (Z _ rfl))
noncomputable def X7(ps:At):BB:=ps.map λp=>some (.sh p)
theorem IB:∀{ys:B0} {os:Qg7} {pre r:L2.St},os.length=ys.length->D6 (pre++(os++r)) (List.range' pre.length ys.length) ys=pre++(ys.map some++r)
 | [],os,pre,r,h=>by
  have:=Me.1 h;subst this;rfl
 | y::ys,os,pre,r,h=>by
  match os,h with
  | o::os,h=>
   show D6 _ _ ys=_;have:=IB (pre:=pre++[some y]) (r:=r) (by simpa using h);simp_all
def afY:∀{ps:At} {ys:B0} {δc:BB} {a:L2.St},aB K CL Z ps ys->gu K CL H Z δc a []->gu K CL H Z Qfg (ys.map some++a) []:=λ{ps ys δc a} h e=>
 aB.ind (P:=λps ys=>gu K CL H Z Qfg (ys.map some++a) []) e (λr _ i=>.cons Qkr i) h
section
variable{W1:Hp}{δc:BB}{J:It}{ds:At}{p:Qhs}{g:D->T}{parts:QjB}
def A7(X:Cx)(CL:BM)(scope:Scope)(Nc:BA)(n:Nat)(tg:Expr)(parts:QjB)(ifs:Cf)(elt:Expr)(δc:BB)(ds:At)(p:Qhs)(g:D->T):Prop:=
 ∀C s0 a f0 b,z3 QlU CL tg Qwt parts/\∀d,d∈ds->∃ps,parts d=some ps/\ps.length=n/\IH QlU CL b ifs Qfg (p d)/\(p d=true->bU QlU CL b elt Qfg (g d) Qfg)
structure GW(K:Frag)(CL:BM)(H W1:Hp)(D:Addr)(l:Bz)(k:Nat)(H2 Z2:Hp)(Q8:B0)(fp:BY):Prop where
 a1:aC H H2
 a2:aC W1 Z2
 a3:aC Z2 H2
 a4:Z2 D=none
 a5:∀a o,Z2 a=some o->W1 a=none->H a=none
 a6:∀a o,H2 a=some o->jH o=true->Z2 a=some o
 a7:H2 D=some QpE
 a8:aU K CL H2 Z2 l Q8 fp
 a9:fp.Nodup
 b1:D∉fp
 b2:∀a∈fp,Z2 a=none/\H a=none
 b3:Q8.length<=k
theorem xH(S:Qhx)(zw:aC Z W1)(wh:aC W1 H)(tp:∀a o,H a=some o->jH o=true->W1 a=some o)
  (ba:∀H',gu X.K CL H' W1 δc (ix.map λi=>(Y[i]?).getD none) []) (inner:A7 X CL scope Nc n tg parts ifs elt δc ds p g)
  (aT:∀i H2,aC W1 H2->i<ds.length->J.go i H2)
  (hy:∀i Z2 H2 x H',aC W1 Z2->aC Z2 H2->(∀a o,H2 a=some o->jH o=true->Z2 a=some o)->i<ds.length->J.o3 i H2 x H'->∃Z3 d,ds[i]? = some d/\Kf Z2 H2 Z3 H'/\bL X.K CL Z3 d x)
  (oB:∀H2,aC W1 H2->J.stop ds.length H2) (hlen:Qcd) (c:W1=Z\/∀d∈ds,(g d).clean=true) :
  ∀D,H D=none->∃W:Nat->Nat->Hp->Prop,(∃m,W 0 m Qyq)/\∀i m H2,W i m H2->(J.stop i H2/\∃Z2,aC Z Z2/\aC H H2/\bD X.K CL b H2 Z2 U Y Qlv Qpc) ∨
   (J.go i H2/\∃N:Hp->Prop,(∀H',N H'->∃m',m'<m/\W Qbd m' H')/\∀xv k,J.o3 i H2 xv k->∀C s0 H0 f0 os,os.length=n->LS QsY tg elt ifs n Y ix D N xv os k):=by
 intro D hD;have wD:W1 D=none:=wh.free hD;refine#[λi m H2=>m=ds.length-i/\i<=ds.length/\∃Z2 Q8 fp,GW X.K CL H W1 D (((ds.take i).filter p).map g) i H2 Z2 Q8 fp,#[ds.length,rfl,kx _,W1,[],[],aC.upd hD,.refl _,wh.trans (aC.upd hD),wD,λa o q z=>?_,λa o q i=>?_,aO,.nil,oy,Wp,Wp,Wp],?_]
 .rw[q]at z;cases z
 .by_cases f:a=D
  .subst f;rw[aO]at q;cases q;cases i
  .rw[ay f]at q;exact tp a o q i
 .rintro i m H2 ⟨rfl,hi,Z2,Q8,fp,hh,R,zh,zD,nw,I,E,T,nd,nD,own,bc⟩;by_cases mG:i<ds.length
  .refine .inr #[aT i H2 (R.trans zh) mG,λH'=>∃Z2 Q8 fp,GW X.K CL H W1 D (((ds.take Qbd).filter p).map g) Qbd H' Z2 Q8 fp,λH' h=>#[ds.length-Qbd,We,rfl,mG,h],λxv k y C s0 H0 f0 os aI=>?_];obtain⟨Z3,d,hd,w,rd⟩:=hy i Z2 H2 xv k R zh I mG y;have O:∀a,Z2 a=none->(∃o,H2 a=some o)->Z3 a=none:=λa e ⟨o,e2⟩=>by
    cases q:Z3 a with
    | none=>rfl
    | some u=>rw[w.new a u q e]at e2;cases e2
   have ae:∀a o,Z3 a=some o->W1 a=none->H a=none:=λa o q z=>by
    cases e:Z2 a with
    | none=>exact hh.free (w.new a o q e)
    | some u=>
     have:=w.z a u e;rw[q]at this;cases this;exact nw a o e z
   have l:aU X.K CL k Z3 (((ds.take i).filter p).map g) Q8 fp:=T.mono w.z λa f=>by
    obtain⟨o,e⟩:=T.there a f;rw[e];exact w.h a o e
   have B:∀a∈fp,Z3 a=none/\H a=none:=λa f=>#[O a (own a f).1 (T.there a f),(own a f).2];have G:Z3 D=none:=O D zD #[_,E];have j:k D=some QpE:=w.h D _ E;have s:=hh.trans w.h;have A:=R.trans w.z;have V:=w.zh;have aw:=w.tp;clear own nw T zD E hh R zh I w O;have Ol:d∈ds:=l4 hd;have AK:ds.take Qbd=ds.take i++[d]:=by rw[sm,hd];rfl
   obtain⟨kf,RP⟩:=inner C s0 H0 f0 #[k,Z3];obtain⟨ps,az,hpl,it,ie⟩:=RP d Ol;obtain⟨t,pg,ht⟩:=kf;refine#[t,pg,ht Z3 k d ps xv _ _ V rd az λys aa=>?_];have M:ys.length=n:=by rw[<- aa.length];exact hpl
   have es:D6 (X6 Y ix os) Qwt ys=X6 Y ix Qtz:=by
    have:=IB (ys:=ys) (os:=os) (pre:=[]) (r:=ix.map λi=>(Y[i]?).getD none) (by rw[aI,M]);rw[M]at this;exact this
   refine#[ys.map some,by rw[cM];exact M,es,?_];rw[es];have S0:bD X.K CL #[k,Z3] k Z3 Qfg Qyr [] []:=
    #[#[[],[],afY aa ((ba k).mono A λa f=>by cases f),.nil,oy,λa f=>by cases f],.refl _,.refl _,V,λa o q z=>(by have z':Z3 a=none:=z;rw[show Z3 a=some o from q]at z';cases z'),aw,(S.N7.mono zw).mono A]
   refine it.sem S0 λH4 Z4 P L S4=>?_;have bb:∀a∈fp,H4 a=k a:=λa f=>by
    obtain⟨o,e⟩:=l.there a f;rw[e];exact L a o e
   have ar:∀a,Z3 a=none->(∃o,k a=some o)->Z4 a=none:=λa e ⟨o,e2⟩=>by
    cases q:Z4 a with
    | none=>rfl
    | some u=>
     have:=S4.new a u q e;rw[show k a=none from this]at e2;cases e2
   cases hp:p d with
   | false=>
    refine Rx #[Z4,Q8,fp,s.trans L,A.trans P,S4.zh,ar D G #[_,j],λa o q z=>?_,S4.tp,L D _ j,?_,nd,nD,λa f=>#[ar a (B a f).1 (l.there a f),(B a f).2],We]
    .cases e:Z3 a with
     | none=>exact s.free (S4.new a o q e)
     | some u=>
      have:=P a u e;rw[q]at this;cases this;exact ae a o e z
    .rw[AK,ph,y2 (by simp[hp]),uj,ko];exact l.mono P bb
   | true=>
    refine Ry ((ie hp) H4 Z4 Qyr [] [] _ S4 λyv H5 Z5 z5 k5 S5=>#[Q8,k5 D _ (L D _ j),We,?_]);obtain⟨f1,g1,e1,r1,af,ag⟩:=S5.rep;cases r1 with
    | @cons _ _ _ _ fy fn ry rn=>
     cases rn;rw[ko]at af ag;have ax:fy.Nodup:=(ma.1 af).2.1;have F:∀a∈fy,Z5 a=none/\k a=none:=λa f=>ag a (jN _ f);have RQ:∀a,Z3 a=none->(∃o,k a=some o)->Z5 a=none:=λa e ⟨o,e2⟩=>by
      cases q:Z5 a with
      | none=>rfl
      | some u=>
       have:=S5.new a u q e;rw[show k a=none from this]at e2;cases e2
     have yD:∀a∈fy,a≠D:=λa f e=>by
      subst e;rw[(F a f).2]at j;cases j
     have bj:H5 D=some QpE:=k5 D _ (L D _ j);have sD:aC H (upd H5 D Qw1):=λa o q=>by
      rw[ay (aL q hD)];exact k5 a o (L a o (s a o q))
     refine#[Z5,Q8++[yv],fp++fy,sD,A.trans (P.trans z5),λa o q=>?_,RQ D G #[_,j],λa o q z=>?_,λa o q im=>?_,aO,?_,?_,?_,λa f=>?_,?_]
     .rw[ay (aL q (RQ D G #[_,j]))];exact S5.zh a o q
     .cases e:Z3 a with
      | none=>exact s.free (S5.new a o q e)
      | some u=>
       have:=z5 a u (P a u e);rw[q]at this;cases this;exact ae a o e z
     .by_cases f:a=D
      .subst f;rw[aO]at q;cases q;cases im
      .rw[ay f]at q;exact S5.tp a o q im
     .rw[AK,ph,y1 hp,uj,ky];refine aU.app (l.mono (P.trans z5) λa f=>?_) (by
       have:=aU.cons (fp:=fy) (gp:=[]) (ry.mono QA λa f=>ay (yD a f)) (aU.nil (H:=upd H5 D Qw1) (Z:=Z5))
       rwa [ko]at this)
      have:a≠D:=λe=>nD (e▸f);rw[ay this];obtain⟨o,e⟩:=l.there a f;rw[e];exact k5 a o (L a o e)
     .refine ma.2 #[nd,ax,λa f a' Z8 e=>?_];subst e;obtain⟨o,e⟩:=l.there a f;rw[(F a Z8).2]at e;cases e
     .intro h;obtain h|h:=i8.1 h
      .exact nD h
      .exact yD D h rfl
     .obtain h|h:=i8.1 f
      .exact#[RQ a (B a h).1 (l.there a h),(B a h).2]
      .exact#[(F a h).1,s.free (F a h).2]
     .rw[lj,oP];lia
  .have e:i=ds.length:=by lia
   subst e;refine .inl #[oB H2 (R.trans zh),?_];rw[mv]at T;obtain⟨Z',z',S'⟩:=S.back (H':=H2) (W:=W1) (W':=Z2) (t:=.lst ((ds.filter p).map g)) (v:=.ref D) (fp:=D::fp) hh zw R zh nw I (.lst E T) (ml.2 #[nD,nd]) (λa f=>by
    obtain h|h:=fL.1 f
    .subst h;exact#[zD,hD]
    .exact own a h) (c.imp id λc=>by
     rw[A6];exact D3 λd hd=>c d (l0.1 hd).1)
   exact#[Z',z',hh,S']
end
variable{δc:BB}{ds:At}{p:Qhs}{g:D->T}{parts:QjB}
def IC{J:It}{tn:Qi4}{H1:Hp}{RR:Qrm}
  (sc:Qep) (F:Qbe) (C:D7 X CL b δ1 Y ts vs Z H ds J H1) (I:L2.Inv X pins Y H1 s) (L:Qr7) (st:tn 0 s.heap) (hf:∀b∈fp,mX X pins H1 b)
  (G:(δc=D4 δ1 ix/\∀d∈ds,(g d).clean=true)\/δc=Oa δ1 ix) (inner:QhN) (hlen:Qcd)
  (l:∀D C s' H' Z',(∃m,s'.heap.Ns C m)->(∃o,s'.heap.get? C=some o/\∀v,o.data ≠ .cell v)->H' C=none->(C≠X.env.locals/\C∉X.fs/\X.jj.heap.objs.size<=C/\(∀y c,X.env.cells.lookup y=some c->c≠C)/\∀q∈X.pn++pins,q.1≠C)->(∀h',Heap.SameBut C s'.heap h'->L2.Inv X pins Y H' {s' with heap:=h'})->aC Z Z'->aC H H'->bD X.K CL b H' Z' δ1 Y Qlv Qpc->RR Qfu C QjS s') :
  wpAny Qr X.A QoA (λacc h=>wpAny Qr X.A Qqi (λk f=>
   codeAny Qr X.A (.compStart QdD 0 Qb7 acc {k with scope:=relabel scope X.env}) (RR acc k.locals) f) E h) E s:=by
 obtain⟨Z1,x,k1,a,go,n,j⟩:=C.ex;have lp:∀D,H1 D=none->∃W:Nat->Nat->Hp->Prop,(∃m,W 0 m (upd H1 D QjU))/\∀i m H2,W i m H2->(J.stop i H2/\∃Z2,aC Z1 Z2/\aC H1 H2/\bD X.K CL b H2 Z2 δ1 Y Qlv Qpc) ∨
   (J.go i H2/\∃N:Hp->Prop,(∀H',N H'->∃t,t<m/\W Qbd t H')/\∀r u,J.o3 i H2 r u->∀C s0 O f0 os,os.length=xs.length->LS (dO X scope Nc C s0 O f0) tg elt ifs xs.length Y ix D N r os u):=by
  obtain⟨e,cl⟩|e:=G
  .subst e;exact xH a a.zh QA Qu3 (yO a ix) inner (λi H2 s=>go i H2 Qn2) (λi Z2 H2 y H' s=>n i Z2 H2 y H' Qn2) (λH2 s=>j H2 Qn2) hlen (.inr cl)
  .subst e;exact xH a QA a.zh a.tp (Ob a ix) inner go n j hlen Qaj
 refine D8 sc F I L st hf lp λD C s' H' m io B ch ci zz=>?_;obtain⟨Z',z,k',M⟩:=zz;exact l D C s' H' Z' m io B ch ci (x.trans z) (k1.trans k') M
def tZ(sc:Qep)(I:Qbj):closureFor scope X.env=pure Qcg:=
 pI λy a e=>I.ok.has y.1 (sc.frees y a e).2
def D9(sc:Qep)(i:Qbe)(h:Qhw)(j:(δc=D4 δ1 ix/\∀d∈ds,(g d).clean=true)\/δc=Oa δ1 ix)(inner:QhN)(hlen:Qcd)
  (hs:QcE:=by intro _;rfl):bU X CL b QdD U Qga δ1:=λH Z Y ts vs Q S k pins s I=>by
 obtain⟨q,pi,hw⟩:=h;refine ME rfl hs (tZ sc I) sc.kind sc.names ?_;refine d9 (pi pins s Y H _ I (hw H Z Y ts vs _ S λJ H1 C=>C)) λv s1 h1=>d9 h1 λf s2 zz=>?_;obtain⟨it,fp,tn,J,H1,e,o,l,st,hf,C⟩:=zz;subst e;refine IC sc i C o l st hf j inner hlen λD t s' H' Z' m io r ch ci c k' n=>?_;obtain⟨m,hn⟩:=m;exact#[m,hn,λh' a=>#[.ref D,H',ci h' a,rfl,k _ H' Z' c k' n]]
variable{y:Str}
def af0{E:Ends}{D' a:Addr}{s':Qb}{py:Pos}(I:QbH)(hi:X.N[i]? = some y)(F:QxN)(j:AM X y)(m:∃m,s'.heap.Ns a m)(io:∃s,s'.heap.get? a=some s/\∀v,s.data ≠ .cell v)(D:H' a=none)
  (ch:a≠X.env.locals/\a∉X.fs/\X.jj.heap.objs.size<=a/\(∀y c,X.env.cells.lookup y=some c->c≠a)/\∀q∈X.pn++pins,q.1≠a) (ci:∀h',Heap.SameBut a s'.heap h'->L2.Inv X pins Y H' {s' with heap:=h'}) (q:E.nx Qys H') :
  compPost Qr X.A X.xe Qoh QrC QgM a QjS s':=by
 obtain⟨m,hn⟩:=m;obtain⟨o,t,C⟩:=io;have x:L2.Inv X pins Y H' s':=ci s'.heap (.refl ..);have L:L2.Inv X (pins++[(a,o)]) Y H' s':=x.Dj λq h=>by
  obtain z|z:=i8.1 h
  .exact x.pin q (jN _ z)
  .have e:q=(a,o):=by simpa using z
   subst e;exact#[t,D,ch.1,ch.2.1,C]
 show wpAny _ X.A (assign QiB X.env QgM) _ _ s';have G:PG X QiB (Nz i):=yC I hi F j;refine d9 (G _ s' Y H' QgM QgM (λd B=>d=Y.set i QtA/\B=H') L rfl #[rfl,rfl]) λ_ r zz=>?_;obtain⟨d,B,n,J,l⟩:=zz;subst J;subst l;obtain⟨k,f,_⟩:=n.pin (a,o) (jN _ (jN _ Wp));refine#[m,hn.at' λo' u=>by rw[t]at u;cases u;exact k,λh' g=>?_];have K:L2.Inv X pins Qys _ r:=n.Dj λq h=>n.pin q (jN _ (kq _ h));have p:=K.turned (it:=a) (h':=h') (t':=r.toks) (λb o H e=>(g.2 b H).trans e) f ch.1.symm.symm (.inr ch.2.2.1) ch.2.2.2.1 ch.2.2.2.2;exact#[_,_,p,q]
def af1{D:dI}{py a:Pos}(i:Nat)(sc:Qep)(q:Qbe)(h:Qhw)(r:(δc=D4 δ1 ix/\∀d∈ds,(g d).clean=true)\/δc=Oa δ1 ix)(inner:QhN)(hlen:Qcd)
  (k:D.nx (δ1.set i (some Qga))) (hl:QcY) (t:QbH) (hi:X.N[i]? = some y) (n:QxN) (c:AM X y)
  (z:swapsWith QdD (some QiB) a.line X.env=pure true)
  (hs:QcE:=by intro _;rfl):Z9 X CL b (.Assign [.Name y py] QdD a) U D:=λH Z Y ts vs E S M pins s I=>by
 obtain⟨F,pi,hw⟩:=h;rw[exec_Assign_Name_used _ _ _ _ z];refine ec (wpAny_standAt (ec ?_));show wpAny _ X.A (do let _ ← comprehension QdD scope X.env _ QoA false Qwi Qoh) _ _ s;refine ec (me (ME (use:=some Qql) (Q:=λ_ s'=>SP X pins E .next s') rfl hs (tZ sc I) sc.kind sc.names ?_) (λ_ s' o=>j3 (j3 o)) λ_ _ e=>e);refine d9 (pi pins s Y H _ I (hw H Z Y ts vs (λJ H1=>D7 X CL b δ1 Y ts vs Z H ds J H1) S λJ H1 C=>C)) λv s1 h1=>d9 h1 λl s2 zz=>?_;obtain⟨it,fp,tn,J,H1,e,B,u,st,hf,C⟩:=zz;subst e;refine IC (RR:=λacc C=>compPost Qr X.A X.xe Qoh QrC acc C) sc q C B u st hf r inner hlen λD' G s' H' Z' m io j ch ci f k' x=>?_;exact af0 t hi n c m io j ch ci (M.nx _ _ _ Z' f (x.set hl) k)
variable{pos':Pos}
def alL{D:dI}(c:Gx X)(n:Qbt)(sc:Qep)(h:Qhw)
  (e:(δc=D4 δ1 ix/\∀d∈ds,(g d).clean=true)\/δc=Oa δ1 ix) (inner:QhN) (hlen:Qcd) (k:c7 X CL b fD (δ1.set i (some Qga)) D) (hl:QcY)
  (a:swapsWith QkZ QhL pos.line X.env=pure true\/swapsWith QkZ QhL pos.line X.env=pure false) (hs:QcE:=by intro _;rfl) :
  c7 X CL b (.Assign [.Name x pos'] QkZ pos::fD) U D:=by
 obtain a|a:=a
 .exact b8 (af1 i sc c.calm h e inner hlen k hl c.nd n.hi n.loc n.hf a hs)
 .exact b8 (RH i (D9 sc c.calm h e inner hlen hs) k hl c.nd n.hi n.loc a n.hf)
noncomputable def NO(scope:Scope)(xs a:BA):Bool:=
 scope.kind == .function&&xs.all (λy=>scope.names.lookup y==some .local)&&a.all Qq9&&decide ((xs++a).Nodup) &&
  scope.names.all λy=>y.2 != .cell&&(y.2 != .local || scope.names.lookup y.1==some .local)&&(y.2 != .free || QqT)
theorem af2{d:BA}(c:yB X ix d)(ok:NO scope xs d=true):rB X scope xs (xs++d) ix:=by
 unfold NO at ok;simp only[l9,nr,pf,si]at ok;obtain⟨⟨⟨⟨h1,h2⟩,h⟩,g⟩,b⟩:=ok;have j:∀y∈d,X.env.kindOf y=some .cell\/X.env.kindOf y=some .free:=by
  clear h g b
  induction c with
  | nil=>intro y a;cases a
  | cons n k r f=>
   intro y a;obtain e|a:=fL.1 a
   .subst e;exact k
   simp_all
 refine#[h1,λy a e=>?_,g,λy a e=>?_,h2,λy a e=>?_,?_,λi hi=>?_]
 .have:=(b y a).1.1;rw[e]at this;simp at this
 .have:=(b y a).1.2;rw[e]at this;simpa using this
 .have:=(b y a).2;simp_all
 .congr 1;clear h g b j
  induction c with
  | nil=>rfl
  | cons n k r f=>rw[nz,n.hi,<- f]
 .clear g b j
  induction c with
  | nil=>cases hi
  | @cons l y ix ys n k r f=>
   obtain e|hi:=fL.1 hi
   .subst e;exact#[y,n.hi,h y iB]
   .exact f Qyc hi
variable{C:Addr}
def RT(h1:Nc[i]? = some x)(h2:Qih)(hd:AD x:=by decide)(jO:AE x:=by decide):Ln QbL i x:=
 #[YO h1 h2 hd jO,.inl QlR,.inr QlR]
def Z0(K:Frag)(a:Addr):It:=
 #[λi H=>∃xs x,nF K H a xs/\xs[i]? = some x,λi H x H'=>∃T y,H T=none/\x=.ref T/\(∀xs,nF K H a xs->xs[i]? = some y)/\H'=upd H T (.tup [.int i,y]),λi H=>∃xs,nF K H a xs/\xs.length<=i]
theorem IE(I:Qbj)(fp:QjE)(new:fK X.prog X.w QbC s.heap a o):L2.Inv X pins Y QbC s:=by
 have hn:=fp.1;refine I.step (ch:=[a]) (λb f=>?_) (λb o _ _ _ e _=>e) (λb o _ _ _ e _=>#[ _,e]) (λb o d _ n=>by rw[ay λz=>d (by simp[z])];exact n)
  (λb o _ e=>#[o,e]) (λb xs e=>ay Qfp▸e) (λb o u e=>ay Qfp▸e) (λb ps e=>#[#[],by rw[ay Qfp,e];simp]) (λm hm=>hm) (λb u e=>?_) I.bare
 .have e:=by simpa using f
  subst e;exact#[fp.2.2.2.1,fp.2.1,fp.2.2.2.2.1,fp.2.2.2.2.2]
 .by_cases z:b=a
  .subst z;rw[aO]at e;grind
  .rw[ay z]at e;exact(I.cV b u e).C3 (λ_ _ _ q=>q) (λc q=>ay QcT▸q) (λc xs q=>ay QcT▸q) λc z q=>ay QcT▸q
def X8{t':Nat}{h':Heap}{S:BY}(I:Qbj)(hf:∀b∈S,mX X pins H b)(k:∀b o,b∉S->s.heap.get? b=some o->h'.get? b=some o):L2.Inv X pins Y H {s with heap:=h',toks:=t'}:=by
 have n:∀b u,H b=some u->b∉S:=λb u e z=>by rw[(hf b z).1]at e;cases e
 refine I.step (ch:=S) (λb f=>?_) (λb o _ _ a e _=>k b o a e) (λb o _ _ a e _=>#[_,k b o a e]) Quj (λb o a e=>#[o,k b o a e]) Qvj QuP (λb ps e=>#[#[],by rw[e];simp]) (λm hm=>?_) (λb u e=>?_) I.bare
 .obtain⟨_,f1,_,h,f4,g⟩:=hf b f;exact#[h,f1,f4,g]
 .obtain⟨o,es,ep,d,r⟩:=hm;exact#[o,es,ep,k _ o (λz=>(hf _ z).2.1 rfl) d,r]
 .exact(I.cV b u e).C3 (λc v a q=>k c v (by obtain z|z:=a<;>first|(rw[z];exact n b u e)|exact n c _ z) q) QcQ λ_ _ q=>q
variable{elts:Cf}{kk:Nat}{pt:Pos}
theorem X9(a e it:Addr)(F:e≠it):Turn P w K QiX (Z0 K a) [e,it] e (λi h=>(∃old,PySem.IsEnum h e it i old)/\h.IsListIter it a i) where
 mem:=by simp
 obj:=λi h st b f=>by
  obtain⟨⟨old,he⟩,hit⟩:=st;obtain z|z:=fL.1 f
  .subst z;exact#[_,he,λv z=>by
    have J:Data.fields _=Data.cell v:=z;cases J]
  .have z:b=it:=by simpa using z
   subst z;obtain⟨o,e,c,d⟩:=hit;exact#[o,e,λv z=>by rw[d]at z;cases z]
 keep:=λi h h' st k=>by
  obtain⟨⟨old,he⟩,hit⟩:=st;exact#[#[old,k e Wp _ he],hit.at λo q=>k it Wp o q]
 item:=by
  intro X B hw C G i pins s Y H E I hf st r;subst B hw C;obtain⟨xs,x,l,n⟩:=r;obtain⟨its,m,p,hz⟩:=I.list l;obtain⟨u,N,L⟩:=m.get n;obtain⟨⟨old,he⟩,hit⟩:=st;have fe:=hf e Wp;have fi:=hf it Wp;have g:H s.heap.objs.size=none:=I.cV.fresh (js _);have V:=I.DR (js s.heap.objs.size) g;refine PySem.wpAny_pyNext_enum_item he hit p.isList (x:=u) (by simpa using N) F λh' O D T hsz R=>#[_,rfl,?_];refine PySem.wpAny_letOwnedTupleGo_enum O λh2 t j=>?_;replace j:Heap.SameBut e h' h2:=j;have eT:e<s.heap.objs.size:=kr he;have keep:∀b o,b≠e->b≠it->s.heap.get? b=some o->h2.get? b=some o:=λb o h1 U q=>(j.2 b h1).trans (R b o h1 U q);have A:h2.get? s.heap.objs.size=some {cls:=.type "tuple",data:=.seq (List.toArray [.int i s.toks,u])}:=(j.2 _ (Nat.ne_of_gt eT)).trans T;have I1:L2.Inv X pins Y H {s with heap:=h2,toks:=s.toks+1}:=X8 (S:=[e,it]) I hf λb o f=>keep b o (λz=>f (by simp[z])) λz=>f (by simp[z]);have I':=IE (a:=s.heap.objs.size) (o:=.tup [.int i,x]) I1 V #[mi (bZ QaF),[.int i s.toks,u],.cons #[s.toks,rfl] (.cons L .nil),#[_,A,rfl,_,rfl]];have ei:((i+1:Nat):Int)=(i:Int)+1:=by lia
  refine#[.ref s.heap.objs.size,_,I',rfl,#[_,x,g,rfl,λys M=>by rw[I.DQ M l];exact n,rfl],#[#[u,by rw[ei];exact t],D.at λo q=>(j.2 it (nf F)).trans q],λb f=>?_];have y:=hf b f;obtain⟨o,Xv,_⟩:∃o,s.heap.get? b=some o/\True:=by
   obtain z|z:=fL.1 f
   .subst z;exact#[_,he,trivial]
   .have z:b=it:=by simpa using z
    subst z;obtain⟨o,q,_⟩:=hit;exact#[o,q,trivial]
  rw[ay (l1 (kr Xv))];exact y.1
 done:=by
  intro X B hw C G i pins s Y H E I hf st r;subst B hw C;obtain⟨xs,l,n⟩:=r;obtain⟨its,m,p,hz⟩:=I.list l;obtain⟨⟨old,he⟩,hit⟩:=st;obtain⟨f0,f1,f2,Z,f4,W⟩:=hf it Wp;have hl:=m.length;exact PySem.wpAny_pyNext_enum_end (I.ok.hd G) he hit p.isList WF λh' eb=>#[rfl,I.turned (t':=s.toks) (λb o f e=>eb b o f e) f0 f1 Z f4 W]
 self:=λ_ _ _ _ _ st h=>by
  obtain⟨⟨old,he⟩,_⟩:=st;exact PySem.wpAny_pyIter_enum he h
def aqk(K:Frag)(ta:TA):TI:=λY H R=>ta Y H λvs H1=>∃a xs,vs=[.ref a]/\nF K H1 a xs/\R (Z0 K a) H1
theorem af4{a:Expr}{ta:TA}{p:Pos}(j:QnI)(hm:QmQ)(m:QpB)(hs:AC X a []):PI X QiX (.Call (.Name "enumerate" p) [a] [] pos) (aqk X.K ta):=by
 intro pins s Y H R I h;refine Call_ (nJ I j hm boot_enumerate (va (d9 Ql2 λus s1 zz=>?_) hs rfl));obtain⟨vs,H1,c,f,q1⟩:=zz;obtain⟨l,xs,e,g,q⟩:=q1;subst e;cases f with
 | cons r d=>
  cases d;cases r;obtain⟨its,o,p,hz⟩:=c.list g;refine PySem.call_enumerate_list p.isList λh' he hit hsz i=>?_;have n:=c.kept (t':=s1.toks) i;refine PySem.wpAny_pyIter_enum he ?_;refine#[ _,_,_,_,H1,rfl,n,X9 l _ _ (Nat.succ_ne_self _),#[#[_,he],hit],λb k=>?_,q];obtain z|z:=fL.1 k
  .subst z;exact c.DR (ox _) (c.cV.fresh (ox _))
  .have z:=by simpa using z
   subst z;exact c.DR (js _) QiV
noncomputable def Ea(ds:At):At:=(List.range ds.length).map λ(i:Nat)=>.tup [.int i,ds.getD i .non]
def IG(ds:At):(Ea ds).length=ds.length:=by simp[Ea]
def Yb{ds:At}{d:D}(h:ds[i]? = some d):(Ea ds)[i]? = some (.tup [.int i,d]):=by
 have hi:=(md.1 h).1;unfold Ea;rw[k4,pj hi];show some (D.tup _)=_;rw[km,h];rfl
variable{ds:At}
theorem af5(hm:QmQ)(h:Qmf)(p:QnI)(hs:Qaz:=by exact bq rfl):sR X CL b QiX Qri U (Ea ds) δ1:=by
 refine#[_,af4 p hm QaQ hs,λH Z Y ts vs R S k=>h H Z Y ts vs _ S λv H1 Z1 l k1 f=>?_];obtain⟨fp,gp,_,r,_,_⟩:=f.rep;cases r with
 | cons r _=>
  replace r:=r.Gz;obtain⟨rfl,r⟩:=r;obtain⟨a,us,rfl,c,g⟩:=r.iM;have hl:=g.length;refine#[a,us,rfl,f.zh.seq c,k _ _ #[Z1,l,k1,f.pop,λi H2 s hi=>?_,λi Z2 H2 x H' s1 s2 tp hi n=>?_,λH2 s=>?_]]
  .rw[IG]at hi;have t:i<us.length:=hl▸hi;exact#[us,_,s.seq c,kA t]
  .obtain⟨T,y,q,rfl,o,rfl⟩:=n;obtain⟨d,hd,m⟩:=g.yn (o us ((s1.trans s2).seq c));have j:=Kf.tup (xs:=[.int i,y]) s2 tp q;exact#[_,_,Yb hd,j,.tup (tP.of aO) (.cons Qbs (.cons ((m.mono s1).mono j.z) .nil))]
  .rw[IG];exact#[us,s.seq c,by simp_all ]
noncomputable def insI(x:Int):AT->AT
 | []=>[x]
 | y::l=>if x<=y then x::y::l else y::insI x l
def sortI:AT->AT
 | []=>[]
 | x::l=>insI x (sortI l)
theorem insI_perm(x:Int):∀l,(insI x l).Perm (x::l)
 | []=>.refl _
 | y::l=>by
  rw[insI];split
  .exact .refl _
  .exact((insI_perm x l).cons y).trans (.swap x y l)
theorem sortI_perm:∀l,(sortI l).Perm l
 | []=>.refl _
 | x::l=>(insI_perm x _).trans ((sortI_perm l).cons x)
def jQ{x:Int}:x∈sortI l↔x∈l:=(sortI_perm l).mem_iff
def kY(l:AT):(sortI l).length=l.length:=(sortI_perm l).length_eq
theorem Cq(x:Int):∀{l:AT},l.Pairwise (· <= ·)->(insI x l).Pairwise (· <= ·)
 | [],_=>nZ _ _
 | y::l,h=>by
  rw[insI];obtain⟨h1,h2⟩:=mN.1 h;split
  .rename_i e;refine mN.2 #[λz hz=>?_,h];obtain rfl|hz:=fL.1 hz
   .exact e
   .exact Int.le_trans e (h1 z hz)
  .refine mN.2 #[λz hz=>?_,Cq x h2];obtain rfl|hz:=fL.1 ((insI_perm x l).mem_iff.1 hz)
   .lia
   simp_all
theorem ki:∀l,(sortI l).Pairwise (· <= ·)
 | []=>.nil
 | x::l=>Cq x (ki l)
theorem Cr:∀{a b:AT},a.Perm b->a.Pairwise (· <= ·)->b.Pairwise (· <= ·)->a=b
 | [],b,p,_,_=>(List.nil_perm.1 p).symm
 | x::a,[],p,_,_=>absurd p.length_eq Wp
 | x::a,y::b,p,d,c=>by
  obtain⟨a1,a2⟩:=mN.1 d;obtain⟨b1,b2⟩:=mN.1 c;have e:x=y:=by
   have h1:=p.mem_iff.1 iB;have h2:=p.mem_iff.2 iB;obtain e|h1:=fL.1 h1
   .exact e
   .obtain e|h2:=fL.1 h2
    .exact e.symm
    .exact Int.le_antisymm (a1 y h2) (b1 x h1)
  subst e;rw[Cr (List.Perm.cons_inv p) a2 b2]
def yU{z:AT}(p:z.Perm l)(s:z.Pairwise (· <= ·)):z=sortI l:=Cr (p.trans (sortI_perm l).symm) s (ki l)
def Om(s:l.Pairwise (· <= ·)):sortI l=l:=(yU QA s).symm
theorem yV{us:B1}{ns:AT}(h:IntsAre us ns):Vals Qct us:=by
 induction h with
 | nil=>exact .nil
 | cons n t r i=>exact .cons #[t,rfl] i
theorem Kh:oJ X QiS (λxs H Q=>∃p ns,xs=[.ref p]/\nF X.K H p (ns.map .int)/\ns.length<64/\∀l,H l=none->Q Qfs (upd H l (.lst ((sortI ns).map .int)))):=by
 intro pins s Y H xs us Q I r h;obtain⟨p,ns,rfl,d,hl,q⟩:=h;obtain⟨u,rfl,b⟩:=vals1 r;cases b;obtain⟨its,a,pl,hz⟩:=I.list d;have hlen:=a.length;rw[cM]at hlen;refine sorted_ints pl.isList (intsAre_of a) We λout c a1 a2 a3=>?_;obtain⟨e,he⟩:=sortedAll_at _ its out;have e2:=yU a2 a3;subst e2;refine#[.ref _,_,I.laid Qsg (ox _) (show fK _ X.w _ _ _ Qfv from#[?_,_,e,yV a1,?_]),rfl,q _ QmJ]
 .rw[cM,kY];simp_all
 omega
def rC:bootBuiltins "sorted" = some QiS:=by decide +kernel
theorem vD(h:aB K CL Z Qof us):us=l.map V.int:=by
 refine aB.ind (P:=λds us=>∀l,ds=l.map D.int->us=l.map V.int) ?_ ?_ h l rfl
 .simp_all
 .intro d v ds vs r _ i l e;cases l with
  | nil=>cases e
  | cons a l=>
   injection e with e1 e2;subst e1;rw[i l e2];cases r;rfl
theorem ints_rep{K:Frag}{Z:Hp}:∀(l:AT),aB K CL Z Qof (l.map V.int)
 | []=>.nil
 | _::l=>.cons Qbs (ints_rep l)
def kZ(hm:Qi7)(h:Qlw)(hl:l.length<64)(j:QjC)(hs:Qaz:=by exact bq rfl):bU X CL b (.Call QmR [e] [] pos) U (.lst (((sortI l).map D.int).map T.sh)) δ1:=λH Z Y ts vs Q S k=>
 cC (nK Kh j hm rC QaQ (he:=hs)) (h H Z Y ts vs _ S λv H1 Z1 d k1 n r=>by
  obtain⟨a,us,rfl,g,f⟩:=r.iM;have:=vD f;subst this;refine#[a,l,rfl,g,hl,λp i=>?_];obtain⟨c,m⟩:=(bD.qz (ints_rep _) n).nO (g0:=[]) Wp i;exact k _ _ _ d Qcw m)
def Yc(g:Qbe):oJ X QvS (λxs H Q=>∃(p:Addr) (ns:AT),xs=[.ref p]/\nF X.K H p Qct/\Q (.int ns.sum) H):=by
 intro pins s Y H xs us Q I r h;obtain⟨p,ns,rfl,d,q⟩:=h;obtain⟨u,rfl,b⟩:=vals1 r;cases b;obtain⟨its,c,pl,hz⟩:=I.list d;have hi:=intsAre_of c;obtain⟨xs,a⟩:=hi.allInts.items;have hn:=hi.numsOf;have hl:=pl.isList;rw[a]at hl;refine sum_intListG (I.ok.hd g) hl λh' tk t' f=>#[ _,H,I.kept f,?_,q];refine#[t',?_];have e:its=(intItems xs).toList:=by rw[<- a]
 rw[e,nums_intItems]at hn;rw[preSum_eq,List.take_of_length_le Wp,hn]
def Yd:bootBuiltins "sum" = some QvS:=by decide +kernel
def af6(g:Gx X)(hm:X.mg "sum" = none)(h:Qlw)(i:Gl X "sum")(hs:Qaz:=by exact bq rfl):bU X CL b (.Call (.Name "sum" pp) [e] [] pos) U (.sh (.int l.sum)) δ1:=λH Z Y ts vs Q S k=>
 cC (nK (Yc g.calm) i hm Yd QaQ (he:=hs)) (h H Z Y ts vs _ S λv H1 Z1 c k1 j r=>by
  obtain⟨a,us,rfl,f,d⟩:=r.iM;have:=vD d;subst this;exact#[a,l,rfl,f,k _ H1 Z1 c k1 (j.push Qbs)])
def RV:typeLookup QrV "__len__" = pure none:=by kernel_rfl
def abm:typeLookup QrV "__length_hint__" = pure (some (.builtin "list_reverseiterator.__length_hint__")):=by kernel_rfl
variable{A:Qav}
def abn{l:Addr}{i:Int}{Q:Qmo}(e:s.heap.IsRevIter it l i)(h:Q false s):wpAny Qay A (Builtin.List.listLengthHint Qb7) Q E s:=by
 unfold Builtin.List.listLengthHint;refine ec (uk e.typeIs RV ?_);refine ec (uk e.typeIs abm ?_);generalize c:("list_reverseiterator.__length_hint__":String)=d
 wp_delta
 rw[show splitId d=some ("list_reverseiterator","__length_hint__") from by subst c;decide +kernel];subst c;refine ec (wpAny_isInstance (T:="list_reverseiterator") (b:=true) e.typeIs (by rw[isSubtype_type];kernel_rfl) ?_);refine wpAny_ite_split Qcm (λ_=>?_);refine wpAny_ite_split (λ_=>?_) (λa=>absurd Wi a);refine wpAny_ite_split (λa=>absurd a Wi) (λ_=>?_);exact j3 h
def GO{Q:BN}{l:Addr}{items:Cc}(z:Qhi)(g:s.heap.IsRevIter it l ((items.size:Int)-1))(hl:s.heap.IsList l items)(x:l≠it)(hlen:items.size<=sizeLine)
  (hQ:∀h' tk m u,(∀b o,b≠it->s.heap.get? b=some o->h'.get? b=some o) →
   h'.get? s.heap.objs.size=some {cls:=.type "list",dict:=none,data:=.seq m u,slots:=#[]}->ItemsOf (λi v=>items[items.size-1-i]? = some v) m items.size->Q Qcj {s with heap:=h',toks:=tk}) :
  wpAny Qay A (call Qgv [.ref it]) Q E s:=by
 refine callType_codes (Q₁:=λobj c=>obj=.ref s.heap.objs.size/\c={s with heap:=s.heap.push _}) F.called_list (F.typeCall_list_1 _) F.entry_list_init
  (code_list_new _ #[rfl,rfl]) λobj c f=>?_
 obtain⟨rfl,rfl⟩:=f;have k:(s.heap.push _).get? s.heap.objs.size=some {cls:=.type "list",data:=.seq #[]}:=mf _ rfl;have lt {b o} (e:s.heap.get? b=some o):b≠s.heap.objs.size:=l1 (kr e);have hit:it≠s.heap.objs.size:=by obtain⟨o,e,_⟩:=g;exact lt e
 have y:l≠s.heap.objs.size:=by obtain⟨o,e,_⟩:=hl;exact lt e
 refine#[#[_,k,rfl],F.args_list_init_2 _ _,ec ?_];unfold Builtin.List.listItems;refine ec (wpAny_seqItems k rfl (j3 ?_));refine ec (wpAny_updateSeq k rfl ?_);have j:=wq (Obj.mapSeq (λ_=>(#[]:Cc))) k rfl;refine ec (wpAny_letGo ?_);have RW:∀b o,s.heap.get? b=some o->((s.heap.push {cls:=.type "list",data:=.seq #[]}).update s.heap.objs.size (Obj.mapSeq (λ_=>(#[]:Cc)))).get? b=some o:=
  λb o e=>(wt _ _ (lt e).symm).trans Qfy
 have key:∀(h:Heap) (c₁ tk:Nat),(∀b o,s.heap.get? b=some o->h.get? b=some o) →
   h.get? s.heap.objs.size=some {cls:=.type "list",data:=.seq #[] c₁}->codeAny Qay A.in1 (.builtin "list.extend.loop" #[[.ref s.heap.objs.size,.ref it,.none],[]]) (wants (λr d=>r=.none/\Q Qcj d) E) {s with heap:=h,toks:=tk}:=λh c₁ tk n j=>
  codeAny_extend_loopS (Walks.listRev (prog:=prog) (w:=w) (A:=A.in1.in1) z it l x items).toS hlen _ (by simp[Ne.symm hit,Ne.symm y]) .none items.size 0 _ #[] c₁ rfl (Nat.zero_le _) #[Nat.zero_le _,by simpa using g.at λo q=>n it o q,hl.at λo q=>n l o q] j (ItemsOf.nil _) λs' m u hm t C=>by
   rw[Moved.eq_with hm];exact#[rfl,hQ s'.heap s'.toks m u (λb o p e=>hm.heap b o (by simp[lt e,p]) (n b o e)) t C]
 unfold Builtin.List.listExtendWith;refine ec (wpAny_typeOf (T:="list_reverseiterator") (g.at λo q=>RW it o q).typeIs ?_);have h1:Builtin.List.listSameRef Qcj Qb7=false:=by simp[Builtin.List.listSameRef,nf hit]
 have h2:(Value.type "list_reverseiterator" == Value.type "list")=false:=by decide
 have B:(Value.type "list_reverseiterator" == Value.type "tuple")=false:=by decide
 simp only[h1,h2,B,wy,sv,if_false];refine ec (wpAny_pyIter_revIter QsZ ?_);refine ec (u5 (abn QsZ ?_));refine wpAny_ite_split (λ_=>?_) (λ_=>j3 #[plainId_quiet F.plain_extend_loop _,key _ _ _ RW j]);refine ec (wpAny_rule ?_);refine ec ?_;show wpAny _ _ (updateSeq s.heap.objs.size (·.push .none) >>= λ_=>updateSeq s.heap.objs.size (·.pop)) _ _ _;refine ec (wpAny_updateSeq j rfl ?_);have a:=wq (Obj.mapSeq (·.push Value.none)) j rfl;refine wpAny_updateSeq (hz:=by seq_fits) a rfl ?_;exact j3 #[plainId_quiet F.plain_extend_loop _,key _ _ _ (λb o e=>(wt _ _ (lt e).symm).trans ((wt _ _ (lt e).symm).trans (RW b o e))) (wq (Obj.mapSeq (·.pop)) a rfl)]
theorem Ye{items acc:Cc}(h:ItemsOf (λi v=>items[items.size-1-i]? = some v) acc items.size):acc.toList=items.toList.reverse:=by
 obtain⟨h1,h2⟩:=h;apply Hn;intro j;by_cases a:j<items.size
 .rw[List.getElem?_reverse (‹_›)];simp_all
 simp_all
def tLR(K:Frag)(ta:TA):TE:=λY H Q=>ta Y H λvs H1=>∃a xs,vs=[.ref a]/\nF K H1 a xs/\∀l,H1 l=none->Q Qfs (upd H1 l QvT)
def RX{x:Expr}{ta:TA}{p q:Pos}(B:Qbe)(g:QfR)(G:QfQ)(f:Qjk)(c:QiW)(C:PA X [x] ta)(hs:AC X x [])
  (t:starEach [.Call QlB [x] [] pq] X.env=(false,eval QtM X.env)::starEach [] X.env):PE X (.Call (.Name "list" p) [.Call QlB [x] [] pq] [] pos) (tLR X.K ta):=by
 intro pins s Y H Q I h;refine rg (nJ I g G aZ ?_ Wl Wl);refine va ?_ t rfl;rw[t];show wpAny _ _ (spliced ((false,eval QtM X.env)::backTo pos Qvu)) _ _ s;refine Calls.spliced_cons ?_;refine Call_ (nJ I f c boot_reversed (va (d9 (C pq pins s Y H _ I h) λus s1 zz=>?_) hs rfl));obtain⟨vs,H1,a,y,q1⟩:=zz;obtain⟨l,xs,e,z,q⟩:=q1;subst e;cases y with
 | cons r v=>
  cases v;cases r;obtain⟨its,m,p,hz⟩:=a.list z;have d:=m.length;refine PySem.call_reversed_list p.isList ?_;refine Calls.spliced_nil ?_;have D:l<s1.heap.objs.size:=by obtain⟨o,e,_⟩:=p.isList;exact kr e
  have st:PySem.Heap.IsRevIter (s1.heap.push QhQ) s1.heap.objs.size l ((its.toArray.size:Int)-1):=#[_,mf _ rfl,rfl,rfl];refine GO (s:={s1 with heap:=s1.heap.push QhQ}) (a.ok.hd B) st (p.isList.at λo q=>lr _ q) (l1 D) (by rw[oD,<- d];exact hz) λh' tk k n A j F=>?_;have hsz:(s1.heap.push QhQ).objs.size=s1.heap.objs.size+1:=Heap.size_push ..;have i:h'.get? QuA=some {cls:=.type "list",dict:=none,data:=.seq k n,slots:=#[]}:=hsz▸j;have E:k.toList=its.reverse:=by simpa using Ye F
  show EP X pins Y Q (.ref (s1.heap.push QhQ).objs.size) _;rw[hsz];refine#[.ref QuA,_,a.laid (t':=tk) (λb u e=>A b u QjN Qfy) (ox _) (show fK X.prog X.w _ _ _ QvT from#[by rw[sx];exact hz,its.reverse,n,Vals.reverse m,?_]),rfl,q _ Qu4];have e2:k=its.reverse.toArray:=by rw[<- E]
  rw[<- e2];exact i
variable{ds:At}
def Eb(g:Gx X)(q:QfQ)(a:QiW)(h:Qc3)(hi:Qdy)(f:QfR)(d:Qjk)(hs:Qaz:=by exact bq rfl)
  (p:starEach [.Call Qmp [e] [] pr] X.env=(false,eval (.Call Qmp [e] [] pr) X.env)::starEach [] X.env:=by exact bq rfl):bU X CL b (.Call (.Name "list" pp) [.Call Qmp [e] [] pr] [] pos) U (.lst (ds.reverse.map T.sh)) δ1:=λH Z Y ts vs Q S k=>
 cC (RX g.calm f q d a QaQ hs p) (h H Z Y ts vs _ S λv H1 Z1 m k1 j r=>by
  obtain⟨_,_,rfl,n,i⟩:=r.iM;refine#[_,_,rfl,n,λl hl=>?_];obtain⟨c,o⟩:=(bD.qz (aB.rev (aB.mZ j.tp hi i)) j).nO (g0:=[]) (by simp[i.length]) hl;exact k _ _ _ m Qcw o)
theorem jI{β:Type}{f:α->β}{l:Qaf}{d:β}(h:(l.map f)[j]? = some d):∃x,d=f x/\l[j]? = some x/\x∈l/\j<l.length/\l.drop j=x::l.drop QU/\l.take QU=l.take j++[x]:=by
 rw[k4]at h;cases a:l[j]? with
 | none=>rw[a]at h;cases h
 | some x=>
  rw[a]at h;cases h;have b:=(md.1 a).1;have e:=(md.1 a).2;exact#[x,rfl,rfl,l4 a,b,by rw[u7 b,e],by rw[sm,a];rfl]
noncomputable def D.JU:L3.D->L3.D
 | .tup (a::_)=>a
 | d=>d
noncomputable def D.at2:L3.D->L3.D
 | .tup (_::a::_)=>a
 | d=>d
def Yg(f:α->L3.D)(z:α)(l:Qaf):Ea Qfm=(List.range l.length).map λ(i:Nat)=>L3.D.tup [.int i,f QoN]:=by
 unfold Ea;rw[cM];apply nv;intro i hi;have hi:=nk.1 hi;have:(l.map f).getD i .non=f QoN:=by
  rw[km,km,k4,kA hi];rfl
 rw[this]
def Oq{f:α->L3.D}{l:Qaf}(z:α)(hm:QmQ)(h:bU X CL b e U (.sh (.lst Qfm)) δ1)(a:QnI)(hs:Qaz:=by exact bq rfl) :
  sR X CL b QiX Qri U ((List.range l.length).map λ(i:Nat)=>L3.D.tup [.int i,f QoN]) δ1:=by
 have:=af5 (elts:=elts) (kk:=kk) (pt:=pt) (pr:=pr) (pc:=pc) hm h a hs
 rwa [Yg f z l]at this
variable{ds:At}
def aql(K:Frag):R2:=λx y H Q=>∃l k xs,x=.ref l/\y=.int k/\nF K H l xs /\ -(2 ^ 63)<=k/\k<2 ^ 63/\xs.length*k.toNat<=sizeLine ∧
 ∀p,H p=none->Q QbU (upd H p (.lst (List.replicate k.toNat xs).flatten))
theorem af7:yE X Qwk (aql X.K):=by
 intro pins s Y H x y v u Q I j i h;obtain⟨l,k,xs,rfl,rfl,p,h1,h2,hz,q⟩:=h;cases j;obtain⟨t,rfl⟩:=i;obtain⟨its,r,pl,_⟩:=I.list p;have hl:=r.length;obtain⟨⟨B,dd,w,sl⟩,e,o,n,hd⟩:=pl.isList;cases o;cases hd;have hlen:its.toArray.size*k.toNat<=sizeLine:=by simp_all
 have c:¬ its.toArray.size*k.toNat > (2 ^ 63-1) / 8:=by
  have:(sizeLine:Nat)<=(2 ^ 63-1) / 8:=by decide
  lia
 have b:¬ (!Builtin.List.listFitsIndex k)=true:=by
  rw[fitsIndex_both h1 h2];grind
 have z:¬ Builtin.List.listTooLong (its.toArray.size*k.toNat)=true:=by
  rw[DY hlen];grind
 have d:List.foldl (λg f=>g++f) #[] (List.replicate (if its.toArray.isEmpty=true then 0 else k.toNat) its.toArray)=(List.replicate k.toNat its).flatten.toArray:=by
  have f0:=λm=>by
   have:=foldl_rep its m [];rw[ui]at this;exact this
  rw[f0];cases its with
  | nil=>simp
  | cons a A=>rw[bW Wp]
 refine wpAny_binaryOp_repeat_ref (T:="list") (U:="int") Wl #[_,e,rfl] (λs'=>typeIs_int s' k t) noFill_list_mul F.fills_int_mul F.slot_int_rmul repeat_list F.slot_int_index.lookup
  (ue F.slot_int_rmul (typeIs_int s k t) F.entry_int_rmul (F.args_int_rmul_2 _ _) (lm_int_rmul_list_any k t l its.toArray n dd sl)
   #[e,rfl,#[_,e,rfl],ue F.slot_list_mul #[_,e,rfl] F.entry_list_mul (F.args_list_mul_2 _ _) (lm_list_mul_any l its.toArray n dd sl k t b c z) #[e,?_]])
 rw[d];exact#[.ref _,_,I.OR (r.rep k.toNat) (by rw[len_rep,Nat.mul_comm];exact hz),rfl,q _ I.fresh]
theorem aB.rep{K:Frag}{Z:Hp}{ds:At}{vs:B0}(r:QfO):∀k:Nat,aB K CL Z (List.replicate k ds).flatten (List.replicate k vs).flatten
 | 0=>.nil
 | k+1=>aB.app r (aB.rep r k)
theorem Vz{k:Int}(h1:Ql0)(h2:QfP)(i1:Qdy)(k1:-(2 ^ 63)<=k)(k2:k<2 ^ 63)(hz:ds.length*k.toNat<=sizeLine) :
  bU X CL b Qtu U (.lst ((List.replicate k.toNat ds).flatten.map T.sh)) U2:=λH Z Y ts vs Q S kk=>
 cC (NK af7 cQ cQ) (h1 H Z Y ts vs _ S λv1 H1 Z1 i q1 o l=>h2 H1 Z1 Y ts vs _ o λv2 H2 Z2 h f g j=>by
  have d:=l.mono f;obtain⟨_,_,rfl,e,a⟩:=d.iM;cases j with
  | int=>
   refine#[_,_,_,rfl,rfl,e,k1,k2,a.length▸hz,λp m=>?_];have rc:=aB.rep (aB.mZ g.tp i1 a) k.toNat;obtain⟨c,n⟩:=(bD.qz rc g).nO (g0:=[]) (by rw[cM,rc.length]) m;exact kk _ _ _ (i.trans h) (q1.trans Qd3) n)
def c0{A:Type}{arg:Qah}{Pre:Qab}{res:QaV}(a:A)(F:Qht)(i:Qaw)(l:arg a=[])(h:Pre a)(j:Qnt)(hn:QbZ:=by rfl)
  (g:AD x:=by decide):bU X CL b (.Call QaW [] [] pos) U QbT U:=by
 obtain⟨f,fd,ps,r,m,kk,o⟩:=F.ex;intro H Z Y ts vs Q S k;refine cC (aay r F.room i m kk o .nil Cg g) ?_;refine#[H,a,.refl _,λ_ _ q _=>q,by rw[l];exact .nil,hn,h,S.N8,λv H' W' fp c ww e nw tp rt nd own=>?_];obtain⟨Z',d,p⟩:=S.back c S.zh ww e nw tp rt nd own (.inr j);exact k v H' Z' d c p
noncomputable def C7:Key->D
 | .inl i=>.int i
 | .inr x=>.str x
noncomputable def yW(kvs:CS)(k:Key):Option D:=(kvs.find? λkv=>decide Qeb).map (·.2)
noncomputable def Ct(kvs:CS)(k:Key)(d:D):CS:=
 if Qey=true then kvs.map Qqe else kvs++[(k,d)]
variable{d:D}{kvs:CS}
theorem cB.length{kvs:CS}(h:Qhy):kvs.length=gs.length:=
 cB.ind (P:=λkvs gs=>kvs.length=gs.length) rfl Qit h
theorem cB.keys{kvs:CS}(h:Qhy):kvs.map (·.1)=gs.map (·.1):=
 cB.ind (P:=λkvs gs=>kvs.map _=gs.map _) rfl (λ{x _ _ _ _} _ _ i=>congrArg _ i) h
theorem cB.val{k:Key}{kvs:CS}:cB K CL Z kvs gs->(yW kvs k=none/\ji gs k=none)\/∃d v,yW kvs k=some d/\ji gs k=some v/\bL K CL Z d v:=
 cB.ind (P:=λkvs gs=>(yW kvs k=none/\ji gs k=none)\/∃d v,yW kvs k=some d/\ji gs k=some v/\bL K CL Z d v) QtB λ{x d v _ _} h r i=>by
  by_cases e:x=k
  .exact .inr #[d,v,by simp[yW,e],qw e,h]
  .obtain⟨h1,h2⟩|⟨d',v',h1,h2,a⟩:=i
   .exact .inl #[by simpa [yW,e] using h1,by rw[nL e];exact h2]
   .exact .inr #[d',v',by simpa [yW,e] using h1,by rw[nL e];exact h2,a]
theorem cB.any{k:Key}{kvs:CS}:cB K CL Z kvs gs->Qey=Qx9:=
 cB.ind (P:=λkvs gs=>(kvs.any λkv=>decide Qeb)=Qx9) rfl λ_ _ i=>by rw[pd,pd,i]
theorem cB.n8{k:Key}(q:Qdw){kvs:CS}:cB K CL Z kvs gs->cB K CL Z Qwu Qw2:=
 cB.ind (P:=λkvs gs=>cB K CL Z Qwu Qw2) .nil λ{x _ _ _ _} h r i=>by
  rw[lx,lx];by_cases e:x=k
  .rw[cq e,cq e];exact .cons q i
  .rw[bW e,bW e];exact .cons h i
theorem cB.snoc{k:Key}(q:Qdw){kvs:CS}:cB K CL Z kvs gs->cB K CL Z (kvs++[(k,d)]) QjF:=
 cB.ind (P:=λkvs gs=>cB K CL Z (kvs++[(k,d)]) QjF) (.cons q .nil) λh _ i=>.cons h i
theorem cB.put{k:Key}(q:Qdw)(r:Qhy):cB K CL Z (Ct kvs k d) Qm9:=by
 unfold Ct putK;rw[r.any];split
 .exact r.n8 q
 .exact r.snoc q
theorem bL.key{k:Key}(r:bL K CL Z (C7 k) v):v=kV k:=by
 cases k with
 | inl i=>exact r.sc rfl
 | inr x=>exact r.sc rfl
theorem af9(k:Key):bL K CL Z (C7 k) (kV k):=by
 cases k with
 | inl i=>exact .int i
 | inr x=>exact .str x
theorem yX{Z:Hp}:∀ks:CU,aB K CL Z QoZ QmL
 | []=>.nil
 | k::ks=>.cons (af9 k) (yX ks)
theorem bD.alM{p:Addr}(S:QaA)(d:Qdx):aC H Qi2/\bD K CL b Qi2 Z U Y (.kT []::ts) Qfe:=by
 obtain⟨fp,gp,e,r,nd,k⟩:=S.rep;have f:=S.zh.free d;have sh:aC H Qi2:=aC.upd d;have keep:∀a∈fp++gp,a≠p:=λa c=>by
  have:∃o,H a=some o:=by
   obtain h|h:=i8.1 c
   .exact e.there a h
   .exact r.there a h
  obtain⟨o,q⟩:=this;exact aL q d
 refine#[sh,#[#[fp,_,e.mono QA Qez,.cons (.kT aO .nil) (r.mono QA λa c=>ay (keep a (by simp[c]))),?_,λa c=>?_],S.bh.trans sh,S.zz,S.zh.trans sh,S.new,λa o q i=>?_,S.tab]]
 .refine(rk).nodup_iff.2 Qh1
 .obtain h|h:=fL.1 ((rk).mem_iff.1 c)
  .subst h;exact#[f,S.bh.free d]
  .exact k a h
 .by_cases c:a=p
  .subst c;rw[aO]at q;cases q;cases i
  .rw[ay c]at q;exact S.tp a o q i
theorem bD.alN(k:Key)(S:Qr8)(hi:U[i]? = some (some Qdi)) :
  ∃a gs,Y[i]? = some Qoz/\H a=some (.dK gs)/\gs.length=kvs.length/\bD K CL b Qyf Z (U.set i Qtg) Y ts vs:=by
 obtain⟨fp,gp,e,r,nd,kk⟩:=S.rep;obtain⟨v0,f1,f2,j,hv,l,rt,put,_⟩:=e.get hi;subst l;cases rt with
 | @kT a gs _ p rs=>
  cases r with
  | @cons _ _ _ _ q g q1 n=>
   replace q1:=q1.Gz;obtain⟨rfl,q1⟩:=q1;have ne:∀c∈(f1++j)++g,c≠a:=λc f e=>by
    subst e;have o:((f1++([c]++j))++([]++g)).Perm (c::((f1++j)++g)):=by simp
    exact(ml.1 (o.nodup_iff.1 nd)).1 f
   refine#[a,gs,hv,p,rs.length.symm,?_];have m:bO K CL Qyf Z _ _ [a]:=.kT aO (rs.put q1);have e2:=put QA (λc f=>ay (ne c (by
    obtain h|h:=i8.1 f
    .simp[h]
    .simp[h]))) m
   rw[jk hv]at e2;exact S.TK rfl kk Wp e2 (n.mono QA λc f=>ay (ne c (by simp[f]))) nd λc f=>f
def Ec(A:Qbe):oJ X Qgv (λxs H Q=>∃p kvs,xs=[.ref p]/\H p=some QbE/\∀l,H l=none->Q Qfs (upd H l (.lst ((kvs.map (·.1)).map kV)))):=by
 intro pins s Y H xs us Q I r h;obtain⟨p,kvs,rfl,o,q⟩:=h;obtain⟨u,rfl,g⟩:=vals1 r;cases g;obtain⟨z,hd,ws,rel,dd⟩:=Pm I.cV o;obtain⟨ep,C⟩:=dd.dictAt;refine PySem.W.kdl_call (PySem.W.kdl_dict (knd:=fW X.prog X.w) (kvs:=ws) (ep:=ep) hd) (I.ok.hd A) C (by rw[<- rel.length];exact z) λh' tk a B v e d=>?_;have hl:a.toList.length=ws.length:=by rw[zt];exact d.1
 have hv:Vals ((kvs.map (·.1)).map kV) a.toList:=by
  rw[rel.keys];have gen:∀(l:Qvo) (m:B1),m.length=l.length->(∀(j:Nat) (x:Value),m[j]? = some x->∃k y,l[j]? = some (k,y)/\(fW X.prog X.w).is k x=true)->Vals ((l.map (·.1)).map kV) m:=by
   intro l
   induction l with
   | nil=>intro m hm _;cases m with
    | nil=>exact .nil
    | cons _ _=>simp at hm
   | cons p l n=>
    intro m hm c;cases m with
    | nil=>simp at hm
    | cons x m=>
     obtain⟨k,y,e1,e2⟩:=c 0 x rfl;simp at e1;subst e1;refine .cons ?_ (n m (by simpa using hm) λj f b=>by simpa using c QU f (by simpa using b));obtain⟨i,t,h1,h2⟩|⟨i,t,h1,h2⟩:=fJ e2
     .subst h1 h2;exact#[t,rfl]
     .subst h1 h2;exact#[t,rfl]
  exact gen ws a.toList hl λj x b=>d.2 j x (by rw[<- Array.getElem?_toList];exact b)
 refine#[.ref s.heap.objs.size,_,I.laid (t':=tk) v Qw3 (show fK X.prog X.w _ h' _ (.lst ((kvs.map (·.1)).map kV)) from#[by simpa using z,a.toList,B,hv,by simpa using e]),rfl,q _ (I.cV.fresh Qw3)]
section
variable{d:L3.D}{D:dI}{ps:Pos}{kvs:Qna}{k:Key}
def VA:bU X CL b QeX U (.kT []) U:=λH Z Y ts vs Q S kk=>cC aaO λp a=>by
 obtain⟨c,d⟩:=S.alM a;exact kk _ _ Z QA c d
theorem TC(k:Key)(r:Qa5)(n:Qa0)(h:QiD)(h2:cN X CL b e2 δ1 (C7 k) δ1)(h1:δ1[i]? = some (some Qdi))(hl:Qw4)(kk:c7 X CL b fD (δ1.set i Qtg) D)
  (hs:swapsWith e (some (.Subscript QaW e2 ps)) pos.line X.env=pure false:=by rfl) :
  c7 X CL b (.Assign [.Subscript QaW e2 ps] e pos::fD) U D:=b8 λH Z Y ts vs E S M=>
 oH (Vr We QeE cQ cQ hs) (h H Z Y ts vs _ S λv H1 Z1 j k1 f=>by
  obtain⟨v0,e0,_⟩:=f.look h1;refine#[v0,e0,h2 H1 Z1 Y _ _ _ f λv2 H2 Z2 g k2 q l=>?_];obtain⟨a,gs,c,o,m,p⟩:=q.alN k h1;rw[e0]at c;cases c;exact#[a,_,rfl,l.key▸N2.k o (by rw[m];exact oI hl Wl),λ_=>M.nx _ Y _ Z2 (j.trans g) p kk])
theorem aga(k:Key)(p:Qa5)(h1:cN X CL b e1 U Qdi δ1)(h2:cN X CL b e2 δ1 (C7 k) U2)(e:yW kvs k=some d)(hs:N3 e2:=by exactλ_ _=>rfl):cN X CL b Qc5 U d U2:=λH Z Y ts vs Q S kk=>
 cC (Vq We cQ cQ hs) (h1 H Z Y ts vs _ S λv H1 Z1 g k1 o l=>h2 H1 Z1 Y ts vs _ o λv2 H2 Z2 f k2 n j=>by
  cases l with
  | @kT a gs _ m h=>
   have c:=h.mono k2;rcases c.val (k:=k) with⟨h0,_⟩|⟨d',v',h0,hv,i⟩
   .rw[e]at h0;cases h0
   .rw[e]at h0;cases h0;refine#[a,v',rfl,?_,kk v' H2 Z2 QjV Qao n i];rw[j.key,<- hv];exact xD.k (k2 _ _ m))
def abq(a:Qhy):(ji gs k).isSome=(yW kvs k).isSome:=by
 rcases a.val (k:=k) with⟨h0,h1⟩|⟨d',v',h0,h1,_⟩
 .rw[h0,h1];rfl
 .rw[h0,h1];rfl
theorem Kl(k:Key)(l:Qa5)(h1:cN X CL b e1 U (C7 k) δ1)(h2:cN X CL b e2 δ1 Qdi U2)(hm:Ql5) :
  qW X CL b Qim U (yW kvs k).isSome U2:=λH Z Y ts vs Q S kk=>
 yL (DP (ald We cQ cQ) hm) (h1 H Z Y ts vs _ S λv H1 Z1 d k1 j g=>h2 H1 Z1 Y ts vs _ j λv2 H2 Z2 c k2 i f=>by
  cases f with
  | @kT a gs _ h e=>
   refine#[a,ji gs k,rfl,by rw[g.key];exact xD.k h,_,rfl,?_];rw[abq e];exact kk H2 Z2 (d.trans c) Qao i)
def abr(g:Gx X)(hm:QfQ)(h:cN X CL b e U Qdi δ1)(i:QfR)(hs:Qaz:=by exact bq rfl):bU X CL b Qli U (.lst (((kvs.map (·.1)).map C7).map T.sh)) δ1:=λH Z Y ts vs Q S k=>
 cC (jP (Ec g.calm) i hm aZ QaQ (he:=hs)) (h H Z Y ts vs _ S λv H1 Z1 d k1 n r=>by
  cases r with
  | @kT a gs _ j f=>
   refine#[a,gs,rfl,j,λl hl=>?_];rw[<- f.keys];obtain⟨c,m⟩:=(bD.qz (yX _) n).nO (g0:=[]) Wp hl;exact k _ _ _ d Qcw m)
end
variable{w:V}{f:Str}{fs2:BS}
theorem cS.FV{c:BY}(rt:bO K CL H Z t v c):∀{a:BS} {gs:CA} {fp:BY},cS K CL H Z Qyl gs fp->∃b,cS K CL H Z (a++(f,t)::fs2) gs b/\b.Perm (fp++c)
 | [],_,_,r=>by
  cases r with
  | @cons _ _ v' _ _ f1 gp h r=>
   replace h:=h.Gz;obtain⟨rfl,h⟩:=h;cases h;exact#[ _,.cons rt r,nh]
 | (y,u)::a,_,_,r=>by
  cases r with
  | @cons _ _ v' _ _ f1 gp h r=>
   obtain⟨b,d,p⟩:=cS.FV rt r;refine#[ _,.cons h d,?_];rw[ka];exact p.append_left f1
theorem bD.FV{i:BS}(S:bD K CL b H Z U Y (.ins c (i++(f,.sh QgU)::fs2)::t::ts) (w::v::vs)):bD K CL b H Z U Y (.ins c (i++(f,t)::fs2)::ts) (w::vs):=by
 obtain⟨fp,gp,e,r,nd,k⟩:=S.rep;cases r with
 | @cons _ _ _ _ g1 g2 o n=>
  cases n with
  | @cons _ _ _ _ g3 g m l=>
   obtain⟨a,dx,gs,h,rfl,rfl,s,j⟩:=o.D0;obtain⟨u,d,p⟩:=cS.FV m j;have pm:(fp++((a::u)++g)).Perm (fp++((a::h)++(g3++g))):=by
    refine pE fp ?_;rw[<- ka];refine List.Perm.append_right g ?_;simp_all
   exact#[#[fp,_,e,.cons (.ins s d) l,pm.nodup_iff.2 nd,λc q=>k c (pm.mem_iff.1 q)],S.bh,S.zz,S.zh,S.new,S.tp,S.tab]
def IS(X:Cx)(CL:BM)(b:Bx)(es:Cf)(U:BB)(dv:V->At)(t:T)(U':BB):Prop:=
 ∀(H Z:Hp) (Y:L2.St) (ts:Bz) (vs:B0) (Q:EN),bD X.K CL b H Z U Y ts vs →
  (∀us H' Z' v,aC Z Z'->aC H H'->bD X.K CL b H' Z' U' Y Qcb QaY->aB X.K CL H' (dv v) us->Q us H')->GN X es Y H Q
theorem T.Ed{f:Str}{v:V}{fs2:BS}(h2:T.c6 fs2=true):∀{a:BS},T.c6 a=true->T.c6 Qyl=true
 | [],_=>‹_›
 | (x,t)::a,h=>by
  rw[T.c6,l9]at h;rw[nc,T.c6,h.1,T.Ed h2 h.2];rfl
variable{ds:At}{d:D}{dv:V->At}
def abu(h:QaX)(r:Qu0)(hs:QoK:=by rfl):IS X CL b Qap U (λv=>.val v::ds) t U2:=λH Z Y ts vs Q S k=>
 RA QvU (h H Z Y ts vs _ S λv H1 Z1 c k1 g=>r H1 Z1 Y _ _ _ g λus H2 Z2 a k2 f d=>k _ H2 Z2 v QcR Qao f (.cons QgU d))
def Ou(h:QcF)(r:IS X CL b es δ1 dv t U2)(hs:QoK:=by rfl):IS X CL b Qap U (λv=>d::dv v) t U2:=λH Z Y ts vs Q S k=>
 RA QvU (h H Z Y ts vs _ S λv H1 Z1 c k1 j g=>r H1 Z1 Y ts vs _ j λus H2 Z2 v2 a k2 i f=>k _ H2 Z2 v2 QcR Qao i Quv)
variable{A:Type}{arg:Qah}{Pre:Qab}
theorem mkP{res:Qdz}(a:V->A){d:BS}(F:Ql3)(z:Qaw)(h:IS X CL b Qap U dv t δ1)(G:∀v,arg (a v)=dv v)(w:∀v,Pre (a v))(i:∀v,res (a v)=d++(f,.sh QgU)::fs2)(B:T.c6 d=true)(D:T.c6 fs2=true)(hn:∀v,(arg (a v)).length+1=n:=by exactλ_=>rfl)
  (s:AD x:=by decide) (he:Qaq:=by exact bq rfl) (hpl:QaE:=by rfl) :
  bU X CL b Qbo U (.ins x (d++(f,t)::fs2)) δ1:=λH Z Y ts vs Q S kk=>by
 obtain⟨I,fd,ps,M,E,hm,C⟩:=F.ex;exact cC (JL M E F.room z hm C .nil Cg JW s he hpl) (h H Z Y ts vs _ S λus H1 Z1 v m k1 g r y dx u c ne=>by
  rw[ko];refine#[H1,H1,a v,y,dx,us,rfl,u,c,ne,rfl,.refl _,λ_ _ q _=>q,WA,hn v,w v,g.N8,λH' W' fp j ww p nw tp rt nd own=>#[rfl,?_]];obtain⟨Z',o,l⟩:=g.back j g.zh ww p nw tp rt nd own (.inr (by rw[i];exact T.Ed D B));rw[i]at l;exact kk _ H' Z' (m.trans o) (k1.trans j) l.FV)
theorem Km(bs:Qhz):(List.range bs.length).any (λi=>bs.getD i true)=bs.any id:=by
 induction bs with
 | nil=>rfl
 | cons x bs a=>
  rw[mM,List.range_succ_eq_map,pd,List.any_map];have:((λi=>(x::bs).getD i true)∘Nat.succ)=λi=>bs.getD i true:=rfl;rw[this,a];rfl
def abv{bs:Qhz}{its:B1}(r:Vals (bs.map V.bl) its){v:Value}(h:its.toArray[i]? = some v):v=.bool (bs.getD i true):=by
 have h':=by simpa using h
 have hl:=r.length;have hi:=hl▸(md.1 h').1;obtain⟨u,b,a⟩:=r.get (kA hi);rw[h']at b;cases b;have c:=by simpa using hi
 have e:bs.getD i true=bs[i]:=by simp[c]
 rw[e];rw[List.getElem_map]at a;exact a
def Yh(j:Qbe):oJ X QvV (λxs H Q=>∃(p:Addr) (bs:Qhz),xs=[.ref p]/\nF X.K H p (bs.map V.bl)/\Q (.bl (bs.any id)) H):=by
 intro pins s Y H xs us Q I r h;obtain⟨p,bs,rfl,f,q⟩:=h;obtain⟨u,rfl,c⟩:=vals1 r;cases c;obtain⟨its,a,pl,hz⟩:=I.list f;have hl:=pl.isList;have d:p<s.heap.objs.size:=by obtain⟨o,e,_⟩:=id hl;exact kr e
 have hlen:its.toArray.size=bs.length:=by rw[oD,<- a.length,cM]
 refine call_any_walk (wpAny_pyIter_list hl #[_,_,_,_,_,_,λi=>bs.getD i true,rfl,Walks.list (A:=X.A.in1) (I.ok.hd j) _ p (l1 d) _,#[#[_,mf _ rfl,rfl,rfl],hl.at λo e=>lr _ e],λi v s Q E k hQ=>?_,λh' tk g=>?_])
 .rw[abv a k];exact so hQ
 .rw[hlen,Km];refine#[.bl _,H,I.kept (λb o e=>g b o (λz=>?_) Qfy),rfl,q];have:=lh.1 z;subst this;exact absurd (kr e) (r8 _)
def Yi:bootBuiltins "any" = some QvV:=by decide +kernel
theorem Ov{K:Frag}{CL:BM}{H:Hp}:∀{l:Qhz} {us:B0},aB K CL H (l.map D.bl) us->us=l.map V.bl
 | [],_,r=>by
  have a:=r;cases a;rfl
 | y::l,_,r=>by
  have a:=r;cases a with
  | cons c b=>rw[c.sc rfl,Ov b];rfl
variable{l:Qhz}
def alO(g:Gx X)(hm:X.mg "any" = none)(h:cN X CL b e U (.lst (l.map .bl)) δ1)(i:Gl X "any")(hs:Qaz:=by exact bq rfl):bU X CL b (.Call (.Name "any" pp) [e] [] pos) U (.sh (.bl (l.any id))) δ1:=λH Z Y ts vs Q S k=>
 cC (nK (Yh g.calm) i hm Yi QaQ (he:=hs)) (h H Z Y ts vs _ S λv H1 Z1 c k1 j r=>by
  obtain⟨a,us,rfl,f,d⟩:=r.iM;have:=Ov d;subst this;exact#[a,l,rfl,f,k _ H1 Z1 c k1 Qyv])
namespace Rv
def Yj:PySem.Slot "reversed" "__init__" "object.__init__":=
 .of (owner:="object") (n:="__init__") (by rw[typeLookup_type,builtinLookup_eq_fast];kernel_rfl) Wi Wi Wi
  (by first|exact .inl Wi|exact .inr Wi) (by rw[isSubtype_type];kernel_rfl)
noncomputable def called:TypeCalled "reversed" "reversed.__new__" "object.__init__":=
 #[Wi,Wi,#[_,_,PySem.F.mro_reversed],PySem.F.made_reversed,Wi,PySem.F.sub_reversed_self,Yj]
noncomputable def obj(t:Addr)(i:Int):Obj:={cls:=.type "reversed",data:=.fields (List.toArray [.ref t,rawInt i])}
def Is(h:Heap)(a t:Addr)(i:Int):Prop:=∃o,h.get? a=some o/\o.cls=.type "reversed" /\ o.data=.fields (List.toArray [.ref t,rawInt i])
end Rv
section
inductive Kt:Expr->Int->Prop
 | c {i:Int} {k:Nat} {p:Pos}:Kt QuB i
 | n {i:Int} {k:Nat} {p q:Pos}:Kt (.UnaryOp .USub QuB q) (-i)
inductive VC:Cf->AT->Prop
 | nil:VC [] []
 | cons {e:Expr} {x:Int} {es:Cf} {l:AT}:Kt e x->VC es l->VC Qap (x::l)
theorem VD{l:AT}(h:VC es l:=by repeat constructor):GA X CL b es U ((l.map D.int).map T.sh) U:=by
 induction h with
 | nil=>exact bM
 | cons r _ i=>
  cases r with
  | c=>exact aH j6 i (bq rfl)
  | n=>exact aH (iD (ak j6)) i (bq rfl)
end
def abw(l q:Addr)(xs ys:Cc)(n m:Nat)(e:Db)(sq:DA)(i:Qqy)(b:xs.size<=sizeLine)(a:QvW) :
  PySem.Meets (Builtin.«list.extend» #[[.ref l,.ref q],[]]) (λ_ R s=>s.heap.get? l=some {cls:=.type "list",dict:=none,data:=.seq xs n,slots:=#[]}/\s.heap.get? q=some {cls:=.type "tuple",dict:=e,data:=.seq ys m,slots:=sq} ∧
   R QtC {s with heap:=s.heap.update l QsI,toks:=s.toks}):=
 PySem.Meets.of_wp λprog w A R s h=>by
  obtain⟨f,g,d,tk,os⟩:=s;obtain⟨hl,c,h⟩:=h;have f1:=AutoSeq1.idx_int;have k:=AutoSeq1.sub_list_list;have f4:=AutoSeq1.sub_tuple_list;have j:=AutoSeq1.sub_list_tuple;have hz:(xs++ys).size<=sizeLine+1:=by
   rw[Array.size_append];exact a
  wp_walk using QqO,wpAny_loadPart' hl,wpAny_loadPart' c
  exact#[_,rfl,h]
def RY(K:Frag):V->B0->Hp->VK->Prop:=λx vs H Q=>∃l q xs zs,x=.ref l/\vs=[.ref q]/\H l=some Qbp/\tP K H q zs/\xs.length+zs.length<=sizeLine/\Q .non Qyt
theorem agc:z6 X "list.extend" (RY X.K):=by
 intro pins s Y H x vs v us Q I d f h;obtain⟨l,q,xs,zs,rfl,rfl,b,m,hz,k⟩:=h;cases d;obtain⟨u,rfl,g⟩:=f.one;cases g;obtain⟨z,its,n,r,hl,e⟩:=I.G2 b;obtain⟨c,a,⟨⟨y,d2,o,s2⟩,e2,t,i,hd2⟩,w⟩:=I.tuple m;cases t;cases hd2;have j:=a.length;have hsz:its.toArray.size+c.toArray.size<=sizeLine:=by grind
 have p:¬ (!its.toArray.isEmpty&&Builtin.List.listTooLong QrJ)=true:=by
  rw[DY hsz,wz];decide
 refine ue F.slot_list_extend #[_,e,rfl] F.entry_list_extend Qs0 (abw l q _ _ n i d2 s2 p WE We) #[e,e2,?_];refine#[.non,_,I.Ha b e Wp (r.append a) ?_,rfl,k];simp_all
variable{ds Ka:At}
theorem bD.GP{d:L3.D}(S:Qr8):bL K CL Z d v:=by
 obtain⟨fp,gp,e0,a,nd,e⟩:=S.rep;cases a with
 | cons q1 c=>
  obtain⟨rfl,r⟩:=q1.Gz;exact r
theorem abx(h1:Ql1)(h2:QrK)(n1:ds≠[])(q:Ka≠[])(hz:QlQ) :
  bU X CL b Qgh U QuC U2:=λH Z Y ts vs Q S k=>
 cC (NK afn cQ cQ) (h1 H Z Y ts vs _ S λv1 H1 Z1 m k1 u=>h2 H1 Z1 Y _ _ _ u λv2 H2 Z2 l k2 f=>by
  have n:=f.GP;have o:=f.pop.GP;obtain⟨_,_,rfl,h,e⟩:=o.qy;obtain⟨_,_,rfl,g,d⟩:=n.qy;have e1:=e.length;have e2:=d.length;refine#[_,_,_,_,rfl,rfl,aC.N5 f.zh h,aC.N5 f.zh g,λz=>n1 (HH (by rw[e1,z];rfl)),We,λz=>absurd (HH (by rw[e2,z];rfl)) q,λ_ p r=>?_];have rc:=aB.app e d;obtain⟨a,c,t⟩:=(bD.qz rc f.pop.pop).J2 (by simp[rc.length,e1,e2]) r;obtain⟨s,j,i⟩:=t.JY;rw[T.fC,lI]at i;exact k _ _ s (m.trans (l.trans (a.trans j))) Qtx i)
variable{ι:Nat->Nat}
noncomputable def turned(ι:Nat->Nat)(i j:Nat):Nat->Nat:=λk=>if i<=k/\k<j then ι (i+j-1-k) else ι k
def Kn{a c:AT}(p:a.Perm c)(s:a.Pairwise (· ≥ ·)):a=(sortI c).reverse:=by
 have h:=yU ((List.reverse_perm a).trans p) (List.pairwise_reverse.2 (s.imp λh=>h));rw[<- h,List.reverse_reverse]
def tSR(K:Frag)(t:TA):TE:=λY H Q=>t Y H λvs H1=>∃p ns,vs=[.ref p]/\nF K H1 p (ns.map .int)/\ns.length<64/\∀l,H1 l=none->Q Qfs (upd H1 l (.lst ((sortI ns).reverse.map .int)))
theorem RZ{t:TA}{p p1:Pos}{kj:Nat}(l:QjC)(hm:Qi7)(m:PA X [e] t)(hs:Qaz) :
  PE X (.Call (.Name "sorted" p) [e] [#[some "reverse",.Constant Qgy kj p1,p2]] pos) (tSR X.K t):=by
 intro pins s Y H Q I h;have k:PK X [#[some "reverse",.Constant Qgy kj p1,p2]] _:=Vo PH YE;refine rg (nJ I l hm rC ?_);refine callWith_kw (d9 Ql2 λus s1 zz=>?_) (by rw[hs];rfl) (by rw[hs];rfl) rfl rfl;obtain⟨vs,H1,o,g,q1⟩:=zz;refine d9 (k pos pins s1 Y H1 (λzs H2=>zs=[.bl true]/\H2=H1) o #[rfl,rfl]) λws s2 zz=>?_;obtain⟨zs,H2,a,c,e1,e2⟩:=zz;subst e1;subst e2;obtain⟨u,rfl,f⟩:=c.one;cases f;obtain⟨q,ns,rfl,j,hl,kk⟩:=q1;obtain⟨v,rfl,d⟩:=g.one;cases d;obtain⟨its,b,pl,hz⟩:=a.list j;have hlen:=b.length;rw[cM]at hlen;refine sorted_ints_rev pl.isList (intsAre_of b) We λout i a1 a2 a3=>?_;obtain⟨en,he⟩:=sortedAll_at s2.heap its out;have n:=Kn a2 a3;subst n;refine#[.ref (s2.heap.objs.size+1),_,a.laid (t':=s2.toks) Qsg (ox _) (show fK X.prog X.w _ _ _ Qfv from#[?_,out.toList,en,yV a1,?_]),rfl,kk _ Qu4]
 .rw[cM,sx,kY];simp_all
 .simpa using he
variable{p1:Pos}{kj:Nat}
def R0{l:AT}(hm:Qi7)(h:Qlw)(hl:l.length<64)(j:QjC)(hs:Qaz:=by exact bq rfl) :
  bU X CL b (.Call QmR [e] [#[some "reverse",.Constant Qgy kj p1,p2]] pos) U (.lst (((sortI l).reverse.map .int).map T.sh)) δ1:=λH Z Y ts vs Q S k=>
 cC (RZ j hm QaQ hs) (h H Z Y ts vs _ S λv H1 Z1 d k1 n r=>by
  obtain⟨a,us,rfl,g,f⟩:=r.iM;have:=vD f;subst this;refine#[a,l,rfl,g,hl,λp i=>?_];obtain⟨c,m⟩:=(bD.qz (ints_rep _) n).nO (g0:=[]) Wp i;exact k _ _ _ d Qcw m)
def NM(hi:X.N[i]? = some x)(h:X.env.scope.names.lookup x=some .local)(hf:QpV)(hd:AD x:=by decide)(a:AE x:=by decide):Ln X i x:=#[#[hi,.inl h,hd,a],.inl h,.inl hf]
def mkC(hi:X.N[i]? = some x)(h:X.env.scope.names.lookup x=some .cell)(hf:QpV)(hd:AD x:=by decide)(a:AE x:=by decide):Ln X i x:=#[#[hi,.inr Qfr,hd,a],.inr h,.inl hf]
def Ef{w:World}{f:Addr}{sp:Sp}(G:dg P w K mg base oG k f fd ps sp)(m:mg x=some Qae)(q:QfN)(b:Binds K fd ps []) :
  ∃f fd ps,dg P w K mg base oG k f fd ps sp/\mg x=some Qae/\keepIn K Qae=true/\Binds K fd ps []:=#[_,_,_,G,m,q,b]
variable{px:Pos}{p:L3.D->Bool}{g:L3.D->T}
def FR(sc:QfX):rB X scope [y] Nc ix:=#[sc.kind,sc.A4,sc.nd,sc.names,(λx a=>by rw[lh]at a;subst a;exact sc.own),sc.frees,sc.hd,sc.r0]
noncomputable def Kr(sc:QfX)(h:QrD)(h1:AD y)(h2:AE y):A7 X CL scope Nc [y].length (.Name y px) part1 ifs elt δc ds p g:=λC s0 b f0 a=>
 #[Oh sc.nd (RT (by rw[sc.hd];rfl) sc.own h1 h2),λd hd=>#[[d],rfl,rfl,(h C s0 b f0 a d hd).1,(h C s0 b f0 a d hd).2]]
def oN(sc:QfX)(a:Qbe)(h:QrL)(c:(δc=D4 δ1 ix/\∀d∈ds,(g d).clean=true)\/δc=Oa δ1 ix)(inner:QrD)(hlen:Qcd)
  (hs:QcE:=by intro _;rfl) (h1:AD y:=by decide) (h2:AE y:=by decide):bU X CL b QqC U Qga δ1:=
 D9 Qkt a (Og h) c Qvv hlen hs
def rD{D:dI}{gg:L3.D->T}(g:Gx X)(n:Qbt)(sc:QfX)(h:QrL)(a:(δc=D4 δ1 ix/\∀d∈ds,(gg d).clean=true)\/δc=Oa δ1 ix)(inner:Block X CL scope Nc ifs elt δc ds p gg)
  (hlen:Qcd) (k:c7 X CL b fD (δ1.set i (some (.lst ((ds.filter p).map gg)))) D) (hl:QcY)
  (c:swapsWith QkV QhL pos.line X.env=pure true\/swapsWith QkV QhL pos.line X.env=pure false) (hs:QcE:=by intro _;rfl)
  (h1:AD y:=by decide) (h2:AE y:=by decide):c7 X CL b (.Assign [.Name x pos'] QkV pos::fD) U D:=
 alL g n Qkt (Og h) a Qvv hlen k hl c hs
variable{d:L3.D}
def av(n:Qbt)(h:U[i]? = some QdN:=by rfl):cN X CL b QaD U d U:=ak (v_ n.1 h)
structure VF(X:Cx):Prop where
 g:Gx X
 u:X.A.units+64<cLine
noncomputable abbrev bB:NameKind:=.globalImplicit
noncomputable abbrev ck:NameKind:=.local
def iW{P:BA}{sc:Scope}(h1:sc.kind=.function:=by rfl)(h2:sc.isCoroutine=false:=by rfl)(e:sc.isGenerator=false:=by rfl)(d:N.Nodup:=by decide +kernel)(c:N.take P.length=P:=by rfl)(b:∀x∈P,sc.names.lookup x=some .local\/sc.names.lookup x=some .cell:=by decide +kernel)(a:∀y∈sc.names,y.2 ≠ .free:=by decide +kernel):cW N P sc:=#[h1,h2,e,d,c,b,a]
def bJ{m:Nat}{arg:Qah}{Pre:Qab}{res:QaV}(F:∃f fd ps,dg X.prog X.w X.K X.mg X.base oG k f fd ps Qf6/\X.mg x=some Qae/\keepIn X.K Qae=true/\Binds X.K fd ps [])(r:fc m X.A)(h:k<=m:=by decide):Fc X CL x k n arg Pre res:=#[F,r.mono h]
variable{U':BB}{Y':L2.St}{y:Addr}
theorem bD.aqm(S:QaA)(hi:U[i]? = some (some (.pin y t))):Y[i]? = some QnJ/\bD K CL b H Z Qnw Y ts vs:=by
 obtain⟨fp,gp,e,r,nd,k⟩:=S.rep;obtain⟨v0,f1,f2,c,hv,a,rt,put,_⟩:=e.get hi;subst a;replace rt:=rt.Rz;obtain⟨rfl,rt⟩:=rt;have e2:=put QA Qcs rt;rw[jk hv]at e2;exact#[hv,#[#[_,gp,e2,r,nd,k],S.bh,S.zz,S.zh,S.new,S.tp,S.tab]]
noncomputable def rE(H:Hp)(gp:BY):Hp:=λc=>if c∈gp then none else H c
def ku{c:Addr}(h:c∉gp):rE H gp c=H c:=bW h
def rG{c:Addr}(h:c∈gp):rE H gp c=none:=cq h
def k6{c:Addr}(h:rE H gp c=some o):c∉gp/\H c=some o:=by
 by_cases a:c∈gp
 .rw[rG a]at h;cases h
 .rw[ku a]at h;exact#[a,h]
theorem bD.cut(S:Qr3)(hl:tl.length=us.length):∃gp,aU K CL H Z tl us gp/\gp.Nodup/\bD K CL b Qkb Z U Y ts vs:=by
 obtain⟨fp,g,e,r,nd,k⟩:=S.rep;obtain⟨g1,g2,rfl,j,i⟩:=aU.split hl r;have f:(fp++Qdk).Perm (g1++(fp++g2)):=by
  rw[<- ka,<- ka];exact nh.append_right g2
 have d:=ma.1 (f.nodup_iff.1 nd);have ne:∀c∈fp++g2,c∉g1:=λc a h=>d.2.2 c h c a rfl;have own:∀c∈g1,Z c=none/\b.B c=none:=λc a=>k c (jN _ Qkj);refine#[g1,j,d.1,#[#[fp,g2,e.mono QA (λc a=>ku (ne c Qkj)),i.mono QA (λc a=>ku (ne c (jN _ a))),d.2.1,λc a=>k c (f.mem_iff.2 (jN _ a))],λc o q=>?_,S.zz,λc o q=>?_,S.new,λc o q im=>S.tp c o (k6 q).2 im,S.tab]]
 .rw[ku (λh=>by rw[(own c h).2]at q;cases q)];exact S.bh c o q
 .rw[ku (λh=>by rw[(own c h).1]at q;cases q)];exact S.zh c o q
theorem bD.aqn{W':Hp}(S:QaA)(k:QcX)(ww:aC Z W')(l:aC W' H')(new:∀a o,W' a=some o->Z a=none->H a=none)
  (tp:∀a o,H' a=some o->jH o=true->W' a=some o) (r:aU K CL H' W' tl us fp) (nd:fp.Nodup) (own:∀a∈fp,W' a=none/\H a=none):bD K CL b H' W' U Y (tl++ts) (us++vs):=by
 obtain⟨f0,g0,e0,g,f,k0⟩:=S.rep;have old:∀a∈f0++g0,∃o,H a=some o:=λa d=>(i8.1 d).elim (e0.there a) (g.there a);have keep:∀a∈f0++g0,H' a=H a:=λa d=>by
  obtain⟨o,e⟩:=old a d;rw[e];exact k a o e
 have j:(f0++(fp++g0)).Perm (fp++(f0++g0)):=by
  rw[<- ka,<- ka];exact nh.append_right g0
 have wn:∀a∈f0++g0,W' a=none:=λa d=>by
  cases q:W' a with
  | none=>rfl
  | some o=>
   obtain⟨u,e⟩:=old a d;rw[new a o q (k0 a d).1]at e;cases e
 refine#[#[f0,fp++g0,e0.mono ww (λa d=>keep a (kq _ d)),aU.app r (g.mono ww λa d=>keep a (jN _ d)),?_,λa d=>?_],S.bh.trans k,S.zz.trans ww,l,λa o q z=>?_,tp,S.tab]
 .refine j.nodup_iff.2 (ma.2 #[nd,f,λa d c m e=>?_]);subst e;obtain⟨o,q⟩:=old a m;rw[(own a d).2]at q;cases q
 .obtain h|h:=i8.1 (j.mem_iff.1 d)
  .exact#[(own a h).1,JX S.bh (own a h).2]
  .exact#[wn a h,(k0 a h).2]
 .cases i:Z a with
  | none=>exact JX S.bh (new a o q i)
  | some u=>
   exact S.new a u i z
def FO:Bz->Bz->Prop
 | [],[]=>True
 | .sh d::l,.sh e::m=>d=e/\FO l m
 | .pin x _::l,.pin z _::m=>x=z/\FO l m
 | _,_=>False
def Keeps(U:BB)(ol:Bz):Prop:=∀(j:Nat) (y:Addr) (t:T),ol[j]? = some (T.pin y t)->U[j]? = some (some (T.pin y t))
theorem Keeps.tail{o:QcZ}{d:T}{ol:Bz}(k:Keeps (o::U) (d::ol)):Keeps U ol:=λj y t h=>k QU y t h
theorem gu.outs{W W':Hp}(ww:aC W W'):∀{al ol:Bz} {vs:B0} {g0:BY} {U:BB} {Y:L2.St} {fp:BY},FO al ol->aU K CL H W al vs g0->gu K CL H' W' U Y fp->Keeps U ol->∃g,aU K CL H' W' ol vs g/\g.Sublist fp:=by
 intro al
 induction al with
 | nil=>
  intro ol vs g0 U Y fp b f _ _;cases f;cases ol with
  | nil=>exact#[[],.nil,List.nil_sublist _]
  | cons _ _=>cases b
 | cons a al c=>
  intro ol vs g0 U Y fp b f re k;cases f with
  | cons r rs=>
  cases ol with
  | nil=>cases a<;>cases b
  | cons o ol=>
  cases a with
  | sh d=>
   cases o with
   | sh e=>
    obtain⟨h1,h2⟩:=b;subst h1;replace r:=r.Gz;obtain⟨rfl,r⟩:=r;cases re with
    | nil=>
     obtain⟨g,q,s⟩:=c h2 rs (.nil (H:=H') (Z:=W')) (λj y t h=>by have:=k QU y t h;simp at this);exact#[[]++g,.cons Qnh q,s]
    | skip re=>
     obtain⟨g,q,s⟩:=c h2 rs re k.tail;exact#[[]++g,.cons Qnh q,s]
    | cons rt re=>
     obtain⟨g,q,s⟩:=c h2 rs re k.tail;exact#[[]++g,.cons Qnh q,s.trans (xc _ _)]
   | _=>cases b
  | pin x t0=>
   cases o with
   | pin z t=>
    obtain⟨h1,h2⟩:=b;subst h1;have h0:=k 0 x t rfl;replace r:=r.Rz;obtain⟨rfl,r⟩:=r;cases re with
    | nil=>simp at h0
    | skip re=>simp at h0
    | cons rt re=>
     simp at h0;subst h0;obtain⟨g,q,s⟩:=c h2 rs re k.tail;replace rt:=rt.Rz;obtain⟨rfl,rt⟩:=rt;exact#[_,.cons (.pin rt) q,pv (n3 _) s]
   | _=>cases b
  | _=>cases o<;>cases b
noncomputable def nS(N:BA)(al:Bz):BB:=al.map some++List.replicate (N.length-al.length) none
noncomputable def Cu{al:Bz}(n:Nat):aU K CL H Z al vs gp->gu K CL H Z Qr9 Qln gp:=
 aU.ind (P:=λal vs gp=>gu K CL H Z Qr9 Qln gp) (nP (ds:=[]) (vs:=[]) n .nil) λr _ i=>.cons r i
def vu(K:Frag)(CL:BM)(n:Nat)(arg:Qbu)(Pre:Qab)(res:QaV)(out:Qbu):Sp:=λvs H Q _=>
 ∃(W:Hp) (a:A) (gp:BY),aC W Qkb/\(∀c o,H c=some o->jH o=true->W c=some o)/\aU K CL H W Qcx vs gp/\gp.Nodup/\(arg a).length=n/\Pre a/\nM CL W ∧
  ∀v H' W' fp,aC Qkb H'->aC W W'->aC W' H'->(∀c o,W' c=some o->W c=none->rE H gp c=none)->(∀c o,H' c=some o->jH o=true->W' c=some o) →
   aU K CL H' W' (res a::out a) QaY fp->fp.Nodup->(∀c∈fp,W' c=none/\rE H gp c=none)->Q v H'
def TB{w:World}{f:Addr}{arg:Qbu}{Pre:Qab}{res:QaV}{out:Qbu}(F:Qds)(S:Qdt)(B:∀a,Pre a->FO Qcx QfD)
  (J:∀(ez:Value) (l:Qav) (outer:D2) (s:Qb) (H:Hp) (E:XK) (b:Bx) (a:A),fc k Qwr->Pre a →
   c7 (tS oG P w K mg base N qual Qa6 f ez l outer s H E).Q6 CL b QbV Qjw {nx:=λU=>res a=.sh .non/\Keeps U QfD,rt:=λt U=>t=res a/\Keeps U QfD}) :
  dg P w K mg base oG QaZ f fd ps (vu K CL ps.length arg Pre res out):=by
 refine J5 F S (λvs H Q E h=>?_) (λez l outer s H vs Q E _ I h=>?_)
 .obtain⟨W,a,gp,_,_,r,_,hl,_⟩:=h;rw[<- r.length];exact hl
 .obtain⟨W,a,gp,u,tp,r,nd,hl,m,tb,kk⟩:=h;have wn:∀c∈gp,W c=none:=λc i=>by
   cases q:W c with
   | none=>rfl
   | some o=>exact absurd i (k6 (u c o q)).1
  refine#[_,oa,J ez l outer s H E #[rE H gp,W] a I m H W _ [] [] _ #[#[gp,[],?_,.nil,by rw[ko];exact nd,λc i=>?_],λc o q=>(k6 q).2,.refl _,λc o q=>(k6 (u c o q)).2,λc o q z=>?_,tp,tb] #[λU' Y' H' Z' s' d e=>?_,λt v H' Z' U' Y' s' d e=>?_,λ_ _ _ _ _ _ e=>e.elim,λ_ _ _ _ _ _ e=>e.elim]]
  .unfold nS L2.start;rw[<- r.length];exact Cu _ r
  .rw[ko]at i;exact#[wn c i,rG i]
  .have D:W c=some o:=q;have p:W c=none:=z;rw[D]at p;cases p
  .obtain⟨e1,e2⟩:=e;obtain⟨fp,L,re,y,n,own⟩:=d.rep;obtain⟨g,q,j⟩:=gu.outs d.zz (B a m) r re e2;have G:=(ma.1 n).1;exact kk .non H' Z' ([]++g) d.bh d.zz d.zh d.new d.tp (.cons (by rw[e1];exact .sh .non) q) (G.sublist j) λc i=>own c (kq _ (j.subset i))
  .obtain⟨e1,e2⟩:=e;subst e1;obtain⟨fp,L,re,y,n,own⟩:=d.rep;obtain⟨g,q,j⟩:=gu.outs d.zz (B a m) r re e2;cases y with
   | @cons _ _ _ _ f1 f2 C M=>
    have sub:(g++f1).Sublist (fp++Qkk):=pv j Qsh;have pm:(f1++g).Perm (g++f1):=nh;exact kk v H' Z' (f1++g) d.bh d.zz d.zh d.new d.tp (.cons C q) (pm.nodup_iff.2 (n.sublist sub)) λc i=>own c (sub.subset (pm.mem_iff.1 i))
def JE(Y:L2.St):Ch->BY->Prop
 | [],[]=>True
 | i::is,y::ys=>Y[i]? = some QnJ/\JE Y is ys
 | _,_=>False
def II:Bz->BY->Bz->Prop
 | [],[],[]=>True
 | .sh _::ol,ys,ns=>II ol ys ns
 | .pin y t::ol,z::ys,n::ns=>y=z/\(n=t\/n=.pin y t)/\II ol ys ns
 | _,_,_=>False
noncomputable def x2:BB->Ch->Bz->BB
 | U,i::is,n::ns=>x2 QvX is ns
 | U,_,_=>U
theorem bD.atU:∀{ol:Bz} {us:B0} {is:Ch} {ys:BY} {ns:Bz} {U:BB},bD K CL b H Z U Y (ol++ts) (us++vs)->ol.length=us.length->JE Y is ys->II ol ys ns->(∀i∈is,i<U.length)->bD K CL b H Z (x2 U is ns) Y ts vs:=by
 intro ol
 induction ol with
 | nil=>
  intro us is ys ns U S hl c a hi;cases us with
  | cons _ _=>cases hl
  | nil=>
   cases ys with
   | cons _ _=>cases a
   | nil=>
    cases is with
    | cons _ _=>cases c
    | nil=>
     rw[x2.eq_def];exact S
 | cons o ol h=>
  intro us is ys ns U S hl c a hi;cases us with
  | nil=>cases hl
  | cons u us=>
  cases o with
  | sh d=>exact h S.pop QvY c a hi
  | pin y t=>
   cases ys with
   | nil=>cases a
   | cons z ys=>
   cases ns with
   | nil=>cases a
   | cons n ns=>
   cases is with
   | nil=>cases c
   | cons i is=>
   obtain⟨h1,hn,a⟩:=a;subst h1;obtain⟨f,c⟩:=c;have k:u=.ref y:=by
    obtain⟨_,_,_,r,_,_⟩:=S.rep;cases r with
    | cons r _=>cases r;rfl
   subst k;have e:=hi i iB;have g:=S.set e;rw[jk f]at g;have m:bD K CL b H Z QvX Y (ol++ts) (us++vs):=by
    obtain rfl|rfl:=hn
    .have:=(g.aqm (wx e)).2
     rwa [List.set_set]at this
    .exact g
   exact h (U:=U.set i (some n)) m QvY c a λj l=>by rw[p4];exact hi j (i3 _ l)
  | _=>cases a
section
variable{D:dI}{is:Ch}{fx:QpF}{al:BY->Bz}
def R1(X:Cx)(CL:BM)(b:Bx)(e:Expr)(U:BB)(t:T)(U':BB):Prop:=
 ∀(H Z:Hp) (Y:L2.St) (ts:Bz) (vs:B0) (Q:VK),bD X.K CL b H Z U Y ts vs->(∀v H' Z',aC Z Z'->bD X.K CL b H' Z' U' Y Qcb QaY->Q v H')->yK X e Y H Q
theorem bU.m(h:QaX):R1 X CL b e U t δ1:=λH Z Y ts vs Q S k=>h H Z Y ts vs Q S λv H' Z' z _ a=>k v H' Z' z a
def abA(h:QdA)(k:D.nx δ1)(hs:Qld:=by rfl):Z9 X CL b (.Expr e pos) U D:=λH Z Y ts vs E S M=>oH (yz cQ hs) (h H Z Y ts vs _ S λv H1 Z1 a c=>M.nx δ1 Y H1 Z1 a c.pop k)
def agf(i:Nat)(h:QdA)(k:Qux)(hl:QcY:=by decide)(d:QbH:=by assumption)(hi:X.N[i]? = some x:=by rfl)(c:Qej:=by first|exact .inl rfl|exact .inr rfl)
  (hs:QdC:=by rfl) (hf:Qek:=by first|exact .inl rfl|exact .inr rfl|assumption):Z9 X CL b QlF U D:=λH Z Y ts vs E S M=>
 oH Qu1 (h H Z Y ts vs _ S λv H1 Z1 a f=>M.nx _ _ H1 Z1 a (f.set hl) k)
def YU(X:Cx)(CL:BM)(b:Bx)(es:Cf)(U:BB)(is:Ch)(fx:QpF)(al:BY->Bz)(U':BB):Prop:=
 ∀(H Z:Hp) (Y:L2.St) (ts:Bz) (vs:B0) (Q:EN),bD X.K CL b H Z U Y ts vs →
  (∀ys us H' Z',ys.length=is.length->JE Y is ys->fx ys->us.length=(al ys).length->aC Z Z'->aC H H'->bD X.K CL b H' Z' U' Y ((al ys).reverse++ts) QdL->Q us H')->GN X es Y H Q
noncomputable def T.isRef:T->Bool
 | .lst _=>true
 | .ins _ _=>true
 | .kT _=>true
 | .dct _=>true
 | _=>false
theorem bD.alR(S:Qci)(h:t.isRef=true):∃y,v=.ref y/\bD K CL b H Z U Y (.pin y t::ts) (.ref y::vs):=by
 obtain⟨fp,gp,e,r,nd,k⟩:=S.rep;cases r with
 | cons r rs=>
  cases r with
  | sh r=>cases h
  | tup r _=>cases h
  | pin r=>cases h
  | lH r _ _=>cases h
  | lst r q=>exact#[_,rfl,#[#[fp,_,e,.cons (.pin (.lst r q)) rs,nd,k],S.bh,S.zz,S.zh,S.new,S.tp,S.tab]]
  | ins r q=>exact#[_,rfl,#[#[fp,_,e,.cons (.pin (.ins r q)) rs,nd,k],S.bh,S.zz,S.zh,S.new,S.tp,S.tab]]
  | kT r q=>exact#[_,rfl,#[#[fp,_,e,.cons (.pin (.kT r q)) rs,nd,k],S.bh,S.zz,S.zh,S.new,S.tp,S.tab]]
  | dct r q=>exact#[_,rfl,#[#[fp,_,e,.cons (.pin (.dct r q)) rs,nd,k],S.bh,S.zz,S.zh,S.new,S.tp,S.tab]]
def alS(g:Gx X)(n:Qbt)(h:QdA)(k:Qlr)(hl:QcY:=by exact i5 rfl)(hs:QdC:=by rfl) :
  c7 X CL b Qia U D:=b8 (agf i h k hl g.nd n.hi n.loc hs n.hf)
def Ko(h:QdA)(k:c7 X CL b fD δ1 D)(hs:Qld:=by rfl):c7 X CL b (.Expr e pos::fD) U D:=b8 (abA h k hs)
end
variable{g:QkF}
def A8(g:Nat->Int)(i j:Nat):Prop:=g i<g j\/(g i=g j/\i<j)
theorem A8.trans{g:Nat->Int}(a:A8 g i j)(b:A8 g j k):A8 g i k:=by
 unfold A8 at *;lia
theorem R3{c f:Value}(l:B1)(h:TriplesOk l)(e:codeAmong pos (l++[rawInt pos'.line,rawInt pos'.col,c])=some f):codeAmong pos l=some f\/f=c:=by
 fun_induction TriplesOk l with
 | case1=>
  simp[codeAmong,rawInt]at e;simp_all
 | case2 a t b u x rest g=>
  simp only[nc,codeAmong]at e ⊢;split at e
  .rename_i d;rw[cq d];exact .inl e
  .rename_i d;rw[bW d];exact g h e
 | case3 l h1 h2=>exact h.elim
def x4(f:Addr)(q:Str)(ps:QkC)(body:Expr)(sc:Scope)(cl:QkE)(c:Addr):Heap->Prop:=λh=>
 ∃pm a,h.get? f=some (kla_obj "<lambda>" q ps body sc cl pm c a)
structure x3(X:Cx)(CL:BM)(x q:Str):Prop where
 code:∃c,X.env.code=.ref c/\CodeHd X.base c (CL x)
 blt:∃bm o,X.mg "__builtins__" = some (.ref bm)/\bm≠builtinsNs/\bm≠mainGlobals/\X.base.get? bm=some o/\o.cls=.type "module" /\ o.dict=some builtinsNs/\o.data=.plain
 qual:X.env.qual++"<lambda>" = q
 tab:Iw x=true/\CL x≠0/\N6 x=q
variable{q:Str}{params:QkC}{body:Expr}
def alT{Q:BN}(L:x3 X CL x q)(I:Qbj)(p:H (CL x)=some QpG)(Nu:∀y∈scope.names,y.2=.free->∃c,X.env.cells.lookup y.1=some c)
  (O:Qth)
  (k:∀f c H' s',L2.Inv X pins Y H' s'->aC H H'->H' f=some Qk9->H' c=some QcU->(∀b o,H' b=some o->jH o=true->H b=some o)->Q Qae s') :
  wpAny Qr X.A (eval (.Lambda params body scope pos) X.env) Q X.xe s:=by
 obtain⟨c,T,hd⟩:=L.code;obtain⟨bm,ob,b1,b2,b3,b4,b5,b6,b7⟩:=L.blt;obtain⟨ps,K,tr,cs⟩:=I.cV _ _ p;have R:∀{b:Addr} {o:Obj},X.base.get? b=some o->b≠CL x:=λ{b o} e z=>by
  have:=(I.bs _ _ e).2;rw[z,p]at this;cases this
 have S:s.heap.Ns mainGlobals X.mg:=by
  obtain⟨o,es,ep,e,r⟩:=I.mod.glob;exact#[o,es,ep,I.bk _ _ e,r]
 have F:mainGlobals≠CL x:=by
  obtain⟨o,_,_,e,_⟩:=I.mod.glob;exact R e
 have U:s.heap.BuiltinsAt X.mg (CL x):=#[bm,ob,b1,b2,b3,R b4,I.bk _ _ b4,b5,b6,b7];refine PySem.W.kla_eval O ?_;rw[L.qual];cases hf:codeAmong pos ps.toList with
 | none=>
  refine PySem.W.kla_makeFunction (pI Nu) I.ok.glob S T Qw5 K tr hf F U λg i h' tk D B mG N m=>?_;obtain⟨c₂,oc,vs,t,e2,E,G,hv⟩:=N;cases e2;have hn:H g=none:=I.cV.fresh B;have l:∀{b:Addr},H b=none->b≠CL x:=λ{b} e z=>by rw[z,p]at e;cases e
  have ne':∀{b:Addr} {o:Obj},s.heap.get? b=some o->b≠g:=λ{b o} e=>l1 (my (kr e) B);have cP:CL x≠g:=ne' K;have un:Un X.fs [] H Qw6 s.heap h':=by
   refine#[λb o e n _ _=>D b o (l n) e,λb o e n _ _=>#[o.slots,D b o (l n) e],λb o e n _=>by rw[ay (ne' e)];exact n,λb o e _=>?_,λb xs e=>by rw[ay Qfp];exact e,λb o u e=>by rw[ay Qfp];exact e,λb ps e=>#[#[],by rw[ay Qfp,e];simp]];by_cases z:b=CL x
   .exact#[_,z▸m]
   .exact#[o,D b o z e]
  have cV:tO X.prog X.w Qw6 h':=λb u e=>by
   by_cases z:b=g
   .subst z;rw[aO]at e;cases e;exact#[oc,vs,t,E,G,hv]
   .rw[ay z]at e;by_cases h:b=CL x
    .subst h;rw[p]at e;cases e;refine#[_,m,?_,λpos' M V=>?_]
     .rw[Array.toList_append];exact TriplesOk_snoc _ _ _ _ tr
     .rw[Array.toList_append]at V;obtain q1|q1:=R3 _ tr V
      .obtain⟨c3,e3,Z⟩:=cs pos' M q1;exact#[c3,e3,by rw[ay (aL Z hn)];exact Z]
      .exact#[g,q1,aO]
    .refine(I.cV b u e).C3 (λd v J r=>D d v ?_ r) (λd r=>by rw[ay QpW];exact r) (λd xs r=>by rw[ay QpW];exact r) λd z r=>by rw[ay QpW];exact r
     rintro rfl;obtain w|w:=J
     .exact h w.symm
     .rw[p]at w;cases w
  have I1:=I.un (t':=tk) un cV;have f1:(upd H g QcU) h'.objs.size=none:=cV.fresh (js _);have P:=I1.laid (t':=tk) (a:=h'.objs.size) (o:=.ext QqU) (h':=h'.push Qqh)
   (λb u e=>lr _ e) (js _) #[#[_,_,mf _ rfl],#[_,mf _ rfl],λh1 h2 ⟨pm,ct,e⟩ kk=>#[pm,ct,kk _ e]]
  refine k _ g _ _ P (λb o e=>?_) aO ?_ λb o e im=>?_
  .have j:=aL e hn;have h:b≠h'.objs.size:=λz=>by
    rw[<- z,ay j,e]at f1;cases f1
   rw[ay h,ay j];exact e
  .rw[ay (l1 mG),aO]
  .by_cases h:b=h'.objs.size
   .subst h;rw[aO]at e;cases e;cases im
   .rw[ay h]at e;by_cases j:b=g
    .subst j;rw[aO]at e;cases e;cases im
    .rw[ay j]at e;exact e
 | some M=>
  obtain⟨g,rfl,C⟩:=cs pos M hf;refine PySem.W.kla_makeFunctionHit (pI Nu) I.ok.glob S T Qw5 K tr hf U λi h' tk hk hsz=>?_;have P:=I.laid (t':=tk) (a:=h'.objs.size) (o:=.ext QqU) (h':=h'.push Qqh)
   (λb u e=>lr _ (hk _ _ e)) hsz #[#[_,_,mf _ rfl],#[_,mf _ rfl],λh1 h2 ⟨pm,ct,e⟩ kk=>#[pm,ct,kk _ e]]
  have f1:H h'.objs.size=none:=I.cV.fresh hsz;refine k _ g _ _ P (λb o e=>by rw[ay (aL e f1)];exact e) aO (by rw[ay (aL C f1)];exact C) λb o e im=>?_;by_cases h:b=h'.objs.size
  .subst h;rw[aO]at e;cases e;cases im
  .rw[ay h]at e;exact e
def Cv(X:Cx)(A:Qav)(q:Str)(scope:Scope)(Nc:BA)(f c:Addr)(s:Qb)(H:Hp):Cx where
 prog:=X.prog
 w:=X.w
 K:=X.K
 mg:=X.mg
 base:=X.base
 A:=A.deeper (envX q scope s.heap.objs.size f Qft Qcg)
 N:=Nc
 jj:=s
 mB:=H
 env:=envX q scope s.heap.objs.size f Qft Qcg
 outer:=X.stack
 stack:=envX q scope s.heap.objs.size f Qft Qcg::X.stack
 ex:=[]
 fn:=λ_=>false
 calm:=true
 pn:=[]
 xe:=λ_ _=>False
variable{A:Qav}{f c:Addr}
def Yk(sc:Qw7)(I:Qbj)(hA:Qwv)(hh:Qhi){h':Heap}{tk:Nat}{u:Value}(r:QcW)
  (hn:h'.Ns s.heap.objs.size (λy=>([(x,u)]:D1).reverse.lookup y)) (C:∀b o,s.heap.get? b=some o->h'.get? b=some o) :
  L2.Inv Qgc [] Qw8 H {s with heap:=h',toks:=tk}:=by
 have frees:∀y∈scope.names,y.2=.free->∃c,X.env.cells.lookup y.1=some c:=λy G e=>I.ok.has y.1 (sc.frees y G e).2;have sub:∀{y:Str} {c:Addr},(fj X.env scope.names []).lookup y=some c->X.env.cells.lookup y=some c:=λ{y c} e=>q8 frees (λ_ _ z=>by cases z) e;have hlen:(A5 Y ix Qbc).length=Nc.length:=by
  have all:∀l:Ch,(∀i∈l,∃y,X.N[i]? = some y/\scope.names.lookup y=some .free)->(l.filterMap (X.N[·]?)).length=l.length:=by
   intro l
   induction l with
   | nil=>intro _;rfl
   | cons i r E=>
    intro h;obtain⟨y,e,_⟩:=h i iB;rw[nz,e];show _+1=_+1;rw[E λj t=>h j (i3 _ t)]
  unfold A5;rw[sc.hd,mM,mM,cM,all ix sc.r0]
 have nil:∀b:Addr,b∉(Cv X A q scope Nc f c s H).ex:=λb z=>absurd (show b∈([]:BY) from z) Wp;refine#[#[I.ok.mod,sc.kind,rfl,rfl,js _,λy z c h1 h2=>I.ok.inj y z c (sub h1) (sub h2),λy G=>?_,λy c hf _=>(by cases (show false=true from hf)),λ_=>hh,Around.frames_deeper hA,.inr #[rfl,rfl],λb L=>absurd L (nil b),I.bs,l6 I.ok.ZZ I.sz,λb o _=>nil b,λb L=>absurd L (nil b),I.stack,I.Di],
  rfl,I.bare,Un.kept C,#[_,hn,λi y w h1 h2 h3=>?_],λy c e=>?_,I.cV.fresh (js _),λy c e=>I.nI y c Qg4,λp W=>absurd (show p∈([]:BC) from W) Wp,I.cV.kept C,hlen]
 .have F:scope.names.lookup y=some .cell\/scope.names.lookup y=some .free:=G;obtain z|z:=F
  .exact absurd rfl (sc.A4 _ (rh z))
  .exact nQ z
 .unfold A5 at h2;cases i with
  | zero=>
   have d:some Qbc=some (some w):=h2;cases d;have e:y=x:=by
    have g:Nc[0]? = some y:=h1;rw[sc.hd]at g;exact(mu g).symm
   subst e;refine#[u,r,.inl #[sc.own,?_]];simp
  | succ i=>
   rw[Md,k4]at h2;cases D:ix[i]? with
   | none=>rw[D]at h2;cases h2
   | some j=>
    rw[D]at h2;have d:(Y[j]?).getD none=some w:=mu h2;have t:Y[j]? = some (some w):=by
     cases q:Y[j]? with
     | none=>rw[q]at d;cases d
     | some o=>rw[q]at d;exact congrArg some d
    obtain⟨m,n,k⟩:=sc.r0 j (l4 D);have M:Nc[i+1]? = some m:=by
     have all:∀(l:Ch) (i:Nat),(∀j∈l,∃y,X.N[j]? = some y/\scope.names.lookup y=some .free)->l[i]? = some j->(l.filterMap (X.N[·]?))[i]? = some m:=by
      intro l
      induction l with
      | nil=>intro i _ h;simp at h
      | cons a r E=>
       intro i h hi;obtain⟨ya,O,_⟩:=h a iB;rw[nz,O];cases i with
       | zero=>
        simp at hi;subst hi;rw[n]at O;cases O;rfl
       | succ i=>exact E i (λj t=>h j (List.mem_cons_of_mem _ t)) (by simpa using hi)
     rw[sc.hd,Md];exact all ix i sc.r0 D
    have ey:m=y:=by
     have g:Nc[i+1]? = some y:=h1;rw[M]at g;exact mu g
    subst ey;have R:=(sc.frees (m,.free) (rh k) rfl).2;have P:sy X.env.scope m:=R.elim Qtf QsH;obtain⟨m0,Z,K⟩:=I.loc;obtain⟨U,V,lk⟩:=K j m w n t P;refine#[U,V,?_];obtain⟨kk,_⟩|⟨_,c',hc,T⟩:=lk
    .obtain z|z:=R
     .rw[kk]at z;cases z
     .rw[kk]at z;cases z
    .obtain⟨S,B⟩:=nQ (env:=X.env) (cs:=[]) k;have:S=c':=by
      have:=sub B;rw[hc]at this;exact(mu this).symm
     subst this;obtain⟨o,J,hd⟩:=T;exact .inr #[.inr k,S,B,o,C _ _ J,hd]
 .obtain⟨v,o,J,hd⟩:=I.cell y c Qg4;exact#[v,o,C _ _ J,hd]
def abD{u:Value}{Q:VK}(sc:Qw7)(I:Qbj)(F:Qwv)(D:Qhi)(k:A.depth<recursionLimit)
  (hf:H f=some Qk9) (E:H c=some QcU) (r:QcW)
  (L:∀cl pm cd ct u,bindArgs QqH #[[u],[]]=pure [(x,u)]) (j:QuD) (l:QuE)
  (h:yK Qgc body Qw8 H Q):wpAny Qr A QnK Qbg Qby s:=by
 obtain⟨⟨pm,K,C⟩,_⟩:=I.cV _ _ hf;obtain⟨oc,vs,t,e1,e2,G⟩:=I.cV _ _ E;refine wpAny_call (PySem.W.kla_callFunE k C rfl j l rfl #[c,oc,vs,t,rfl,e1,e2,G] ?_);rw[L];refine j3 (wpAny_newFunctionEnv sc.A4 (λy p=>?_) (λa i g=>?_) sc.kind)
 .rw[lh.1 p];exact sc.own
 .have m:∀b o,s.heap.get? b=some o->a.get? b=some o:=λb o e=>(g.2 b QjN).trans Qfy;refine#[I.nolimit.keeps m,?_];have J:=Yk (q:=q) (f:=f) (c:=c) (tk:=s.toks+([(x,u)]).length) sc I F D r i m;refine PySem.W.kla_codeExpr (me (h [] _ J) (λw s' hl=>?_) λe s' z=>False.elim z);obtain⟨v',H',d,n,B⟩:=hl;exact I.after #[v',H',d.os,d.bare,d.base,d.cV,n,B]
variable{kS:Addr}{e1:Nat}{P:Qs1}
def Du(I:Qbj)(fp:mX X pins H it)(g:Obj->Obj):L2.Inv X pins Y H {s with heap:=s.heap.update it g}:=by
 have s1:=zr s.heap it g;exact I.turned (λb o n q=>(s1.2 b n).trans q) fp.1 fp.2.1 fp.2.2.2.1 fp.2.2.2.2.1 fp.2.2.2.2.2
theorem VG{st:SortSt}{keys:Cc}{e:Nat}(I:Qbj)(j:mX X pins H kS)(k:QjE)(d:kS≠a)(ok:s.heap.get? kS=some QtN)(g:s.heap.get? a=some (seqObj "list" #[] e1))
  (i:keys.size<64) (hsz:(arrOf st).size<64) (o:failedOf st=none)
  (h:∀s' c,L2.Inv X pins Y H s'->s'.heap.get? a=some (seqObj "list" ((arrOf st).map (·.2)) c)->P Qmy s') :
  wpAny Qr A (ksk_tail a false e1 QpH st) P E s:=by
 have s1:=zr s.heap kS (Obj.mapSeq λ_=>(#[]:Cc));have n:=Du I j (Obj.mapSeq λ_=>(#[]:Cc));have b:(s.heap.update kS (Obj.mapSeq λ_=>(#[]:Cc))).get? a=some (seqObj "list" #[] e1):=(s1.2 a d.symm).trans g;have m:=Du n k (Obj.mapSeq λ_=>(arrOf st).map (·.2));obtain⟨f,l⟩:∃f,((s.heap.update kS (Obj.mapSeq λ_=>(#[]:Cc))).update a (Obj.mapSeq λ_=>(arrOf st).map (·.2))).get? a=some (seqObj "list" ((arrOf st).map (·.2)) f):=
  #[_,get?_update_seq b λ_=>(arrOf st).map (·.2)]
 unfold ksk_tail
 try dsimp only
 refine ec (listUpdate_at ok rfl ?_ (by rw[l7];lia) (kx _));refine ec (wpAny_letGo ?_);refine ec (seqEpoch_at b rfl ?_);refine ec (listUpdate_at b rfl ?_ (kx _) (by simp only[sv,if_false,Array.size_map];rw[l7];lia));rw[o];simp only[bne_self_eq_false,sv,if_false];exact j3 (h _ f m l)
noncomputable def xn{b:Addr}(fp:mX X pins H b)(h:H' b=none):mX X pins H' b:=#[h,fp.2]
def aqr(X:Cx)(CL:BM)(q:Str)(scope:Scope)(Nc:BA)(body:Expr)(δc:BB)(ds:At)(g:D->Int):Prop:=
 ∀f c s0 b a d,d∈ds->cN (Cv X X.A.in1.in1 q scope Nc f c s0 b) CL a body Qgu (.int (g d)) Qgu
def Xt(h1:Nc[i]? = some x)(h2:Qih)(hd:AD x:=by decide)(jO:AE x:=by decide):Vn Qgc i x:=#[h1,.inl h2,hd,jO]
def Kp(h1:Nc[i]? = some x)(h2:QlH)(hd:AD x:=by decide)(jO:AE x:=by decide):Vn Qgc i x:=#[h1,.inr (.inr h2),hd,jO]
noncomputable def R4(h2:Qle):Gl Qgc x:=h2
theorem alX{B:Type}{arg:B->At}{Pre:B->Prop}{res:B->T}(F:Qht)(r:Qhh):Fc (Cv X X.A.in1.in1 q scope Nc f c s H) CL x k n arg Pre res:=
 #[F.ex,#[r.hd,by have:=r.dp;show X.A.depth+1+3*k+5<_;lia,by have:=r.un;show X.A.units+1+1+3+16*k+200<_;lia]]
def Eg(mg:Bi)(base:Heap):Prop:=∃bm o,mg "__builtins__" = some (.ref bm)/\bm≠builtinsNs/\bm≠mainGlobals/\base.get? bm=some o/\o.cls=.type "module" /\ o.dict=some builtinsNs/\o.data=.plain
def NT{CX:Z6}{P:Qat}{w:World}{ez:Value}{outer:D2}{E:XK}{tx:Str}
  (bl:Eg mg base) (a:K.In base) (e:fd.code=ez) (hf:fd.code=.ref c) (hd:codeHdIn K c (CL tx)=true) (h0:CL tx≠0) (d:N6 tx=q:=by decide +kernel) (b:Iw tx=true:=by decide +kernel) (hn:qual++".<locals>." ++ "<lambda>" = q:=by decide +kernel) :
  x3 (tS CX P w K mg base N qual scope f ez A outer s H E).Q6 CL tx q:=
 #[#[c,e.symm.trans hf,codeHd_of_K a hd],bl,hn,b,h0,d]
abbrev _root_.Cs:=List (Addr×Str)
def spT(K:Frag)(ts:Cs){A:Type}(n:Nat)(arg:Qah)(Pre:Qab)(res:QaV):Sp:=λvs H Q _=>
 ∃(W:Hp) (a:A),aC W H/\(∀c o,H c=some o->jH o=true->W c=some o)/\aB K Qoi W Qcx vs/\(arg a).length=n/\Pre a/\(∀p∈ts,W p.1=some QcS) ∧
  ∀v H' W' fp,aC H H'->aC W W'->aC W' H'->(∀c o,W' c=some o->W c=none->H c=none)->(∀c o,H' c=some o->jH o=true->W' c=some o) →
   bO K Qoi H' W' QbT v fp->fp.Nodup->(∀c∈fp,W' c=none/\H c=none)->Q v H'
def agg{ts:Cs}{arg:AT->At}{pre:AT->Prop}{res:AT->T}(j:∀a,arg a=[.lst QgN])(h:∀a,res a=.sh Qb6)(h0:∀x,Iw x=true->CL x≠0->(CL x,N6 x)∈ts) :
  ∀(vs:B0) (H:Hp) (Q:VK) (E:XK),spT K ts 1 arg pre res vs H Q E->N9 K CL 1 arg pre res vs H Q E:=by
 rintro vs H Q E ⟨W,a,h1,h2,c,o,n,m,k⟩;have b:∀{l:AT} {us:B0},aB K Qoi W Qb5 us->aB K CL W Qb5 us:=by
  intro l
  induction l with
  | nil=>intro us r;cases r;exact .nil
  | cons i l f=>
   intro us r;cases r with
   | cons r t=>cases r;exact .cons Qa7 (f t)
 refine#[W,a,h1,h2,?_,o,n,λx g e=>m _ (h0 x g e),λv H' W' fp a1 a2 a3 a4 a5 r nd own=>k v H' W' fp a1 a2 a3 a4 a5 ?_ nd own]
 .rw[j]at c ⊢;cases c with
  | cons r t=>
   cases t;obtain⟨_,_,rfl,q,d⟩:=r.iM;exact .cons (.lst q (b d)) .nil
 .rw[h]at r ⊢;replace r:=r.Gz;obtain⟨rfl,r⟩:=r;cases r;exact .sh Qfq
theorem agh{ts:Cs}{arg:AT->At}{pre:AT->Prop}{res:AT->T}{ns:AT}(f:arg ns=[.lst QxI])(b:pre ns)(d:res ns=.sh Qb6)(g:nF K H a Qct)(c:∀p∈ts,H p.1=some QcS) :
  spT K ts 1 arg pre res [.ref a] H (λv H'=>v=.bl true/\∀p∈ts,H' p.1=some QcS) λ_ _ _=>False:=
 #[H,ns,.refl _,λ_ _ q _=>q,f ▸ .cons (.lst g (Od ns)) .nil,WA,b,c,λv H' W' fp e _ _ _ _ r _ _=>by
  refine#[?_,λp b=>e _ _ (c p b)];rw[d]at r;replace r:=r.Gz;obtain⟨rfl,r⟩:=r;exact r.sc rfl]
theorem qD:∀{ts:Cs} {b:Addr} {q:Str},ts.lookup b=some q->(b,q)∈ts
 | [],_,_,e=>by cases e
 | (c,x)::r,b,q,e=>by
  rw[mx]at e;cases a:b==c with
  | true=>rw[a]at e;grind
  | false=>rw[a]at e;exact .tail _ (qD e)
def Yl{P:Qat}{w:World}{mb:Bi}{R:Addr}{sp:Sp}{f:Qb}{vs:B1}{ns:AT}{ts:Cs}
  (Z:K.In f.heap) (C:f.heap.Ns mainGlobals mg) (i:f.heap.Ns builtinsNs mb) (M:∀x:Str,x≠"__name__"->mb x=bootBuiltins x) (T:f.heap.NoLimit) (hg:f.gens=#[]) (L:Eg mg f.heap)
  (D:f.heap.get? a=some {cls:=.type "list",data:=.seq vs.toArray}) (hi:IntsAre vs ns) (hl:QwM) (hr:fc k callerA)
  (A:∀p∈ts,f.heap.get? p.1=some (tabObj #[])/\ts.lookup p.1=some p.2/\K.lookup p.1=none/\∃c,CodeHd f.heap c p.1)
  (F:∀base:Heap,K.In base->base.Ns mainGlobals mg->Eg mg base->dg P w K mg base oG k R fd [x] sp) (Ox:∀(s:Qb) (u:Value),BindsTo s fd #[[u],[]] [(x,u)])
  (GJ:∀H:Hp,nF K H a Qct->(∀p∈ts,H p.1=some QcS)->sp [.ref a] H (λv H'=>v=.bl true/\∀p∈ts,H' p.1=some QcS) λ_ _ _=>False) :
  codeAny Qcz callerA QrG Qqj f:=by
 have W:=Iu hi;have S:=hi.length;have Y:∀p∈ts,p.1≠a:=λp g z=>by
  have:=(A p g).1;rw[z,D]at this;cases this
 have core:∀H:Hp,(∀b,H b=none\/(∃o xs,b=a/\H b=some (.fC o Qbp))\/∃p∈ts,b=p.1/\H b=some QcS)->nF K H a Qct->(∀p∈ts,H p.1=some QcS)->tO P w H f.heap->(H a≠none->K.lookup a=none) →
   codeAny Qcz callerA QrG Qqj f:=by
  intro H N hS hH cV hK;have B:∀{b:Addr} {o:Obj},f.heap.get? b=some o->o≠{cls:=.type "list",data:=.seq vs.toArray}->o≠tabObj #[]->H b=none:=λ{b o} e d1 d2=>by
   obtain q|⟨_,_,z,_⟩|⟨p,g,z,_⟩:=N b
   .exact q
   .rw[z,D]at e;exact absurd (mu e).symm d1
   .rw[z,(A p g).1]at e;exact absurd (mu e).symm d2
  have U:∀{b:Addr} {o:Obj},f.heap.get? b=some o->H b=none->(GF f.heap H).get? b=some o:=λe n=>aaj e n;have l:∀{b:Addr} {m:Bi},f.heap.Ns b m->(GF f.heap H).Ns b m:=λ{b m} ⟨o,es,ep,e,d,r⟩=>#[o,es,ep,U e (B e (λz=>by rw[z]at d;cases d) λz=>by rw[z]at d;cases d),d,r];have E:K.In Qjx:=λb o e=>U (Z b o e) (by
   obtain q|⟨_,_,z,q⟩|⟨p,g,z,_⟩:=N b
   .exact q
   .subst z;rw[hK (by rw[q];simp)]at e;cases e
   .rw[z,(A p g).2.2.1]at e;cases e)
  have hM:Mod K mg Qjx:=#[E,l C,#[mb,l i,M],let ⟨mc,h1,h2⟩:=T;#[mc,l h1,h2]];have O:Eg mg Qjx:=by
   obtain⟨bm,o,b1,b2,b3,X,b5,b6,G⟩:=L;exact#[bm,o,b1,b2,b3,U X (B X (λz=>by rw[z]at G;cases G) λz=>by rw[z]at G;cases G),b5,b6,G]
  have e0:Rr P w K mg Qjx callerA [] f H:=#[rfl,hM,λb o e=>ae5 e,Nat.le_of_eq (Xs _ _),trivial,λb i=>absurd (show b∈([]:BY) from i) Wp,cV,.of_eq hg];refine codeAny_mono ((F _ E (l C) O).run callerA [] f H #[[.ref a],[]] [.ref a] [.ref a] _ _ hr e0 (Ox f Qag) (.cons rfl .nil) (GJ H hS hH)) λr s' h=>?_;cases r with
  | error e=>exact h.elim
  | ok fl=>
   cases fl with
   | next=>exact False.elim h
   | brk=>exact False.elim h
   | cont=>exact False.elim h
   | ret u=>
    obtain⟨v,H',os,bare,un,I,r',q,qt⟩:=h;subst q;obtain rfl:u=Value.bool true:=r';have tabAt:∀p∈ts,∃ps:Cc,s'.heap.get? p.1=some (tabObj ps):=λp g=>by
     obtain⟨ps,e,_⟩:=I _ _ (qt p g);exact#[ps,e]
    have keep:∀b o,f.heap.get? b=some o->(∀p∈ts,b≠p.1)->s'.heap.get? b=some o:=λb o e y=>by
     obtain q|⟨ob,xs,z,q⟩|⟨p,g,z,_⟩:=N b
     .exact un.keep b o e q (by intro z;exact absurd (show b∈([]:BY) from z) Wp) Wp
     .have z2:=un.dB b ob _ q;obtain⟨e1,_⟩:=cV b _ q;obtain⟨e2,_⟩:=I b _ z2;rw[e]at e1;cases e1;exact e2
     .exact absurd z (y p g)
    refine#[rfl,#[λb o e=>?_,λb o e=>?_],os,bare]
    .by_cases y:∀p∈ts,b≠p.1
     .exact .inl (keep b o e y)
     .obtain⟨p,g,rfl⟩:∃p∈ts,b=p.1:=Classical.byContradiction λq=>y λp g z=>q #[p,g,z];obtain⟨h1,_,_,c,hc⟩:=A p g;obtain⟨ps,e2⟩:=tabAt p g;rw[h1]at e;cases e;exact .inr (.inl #[(hc.tab h1).isCodeTable,rfl,#[],ps,rfl,by rw[Array.empty_append];exact e2])
    .by_cases y:∀p∈ts,b≠p.1
     .exact#[o,keep b o e y]
     .obtain⟨p,g,rfl⟩:∃p∈ts,b=p.1:=Classical.byContradiction λq=>y λp g z=>q #[p,g,z];obtain⟨ps,e2⟩:=tabAt p g;exact#[_,e2]
 have tok:∀{H:Hp} {b:Addr} {q:Str},ts.lookup b=some q->fK P w H f.heap b QpG:=λ{H b q} e=>by
  obtain⟨h1,_⟩:=A (b,q) (qD e);exact#[#[],h1,trivial,λpos cv z=>by simp[codeAmong]at z]
 cases J:K.lookup a with
 | some o=>
  have e:=Z a o J;rw[D]at e;cases e;refine core (λb=>(ts.lookup b).map HO.tabs) (λb=>?_) (.inr #[_,vs.toArray,_,J,rfl,rfl,rfl,by rw[List.size_toArray,S];exact hl,by simpa using W]) (λp g=>?_) (λb u z=>?_) λz=>?_
  .cases q:List.lookup b ts with
   | none=>left;rfl
   | some t=>right;right;exact#[(b,t),qD q,rfl,rfl]
  .show(ts.lookup p.1).map HO.tabs=_;rw[(A p g).2.1];rfl
  .have j:(ts.lookup b).map HO.tabs=some u:=z;cases q:List.lookup b ts with
   | none=>rw[q]at j;cases j
   | some t=>rw[q]at j;cases j;exact tok q
  .exfalso;apply z;show(ts.lookup a).map HO.tabs=none;cases q:ts.lookup a with
   | none=>rfl
   | some t=>exact absurd rfl (Y (a,t) (qD q))
 | none=>
  refine core (λb=>if b=a then some (.fC {cls:=.type "list",data:=.seq vs.toArray} (.lst Qct)) else(ts.lookup b).map HO.tabs) (λb=>?_) (.inl (.inr #[{cls:=.type "list",data:=.seq vs.toArray},cq rfl])) (λp g=>?_) (λb u z=>?_) λ_=>J
  .by_cases i:b=a
   .exact .inr (.inl #[_,_,i,cq i])
   .cases q:List.lookup b ts with
    | none=>left;rw[bW i];rfl
    | some t=>right;right;exact#[(b,t),qD q,rfl,by rw[bW i];rfl]
  .show(if p.1=a then _ else(ts.lookup p.1).map HO.tabs)=_;rw[bW (Y p g),(A p g).2.1];rfl
  .by_cases i:b=a
   .have j:=(cq i).symm.trans z;cases j;subst i;exact#[D,by rw[cM];exact hl,vs,_,W,D]
   .have j:(ts.lookup b).map HO.tabs=some u:=(bW i).symm.trans z;cases q:List.lookup b ts with
    | none=>rw[q]at j;cases j
    | some t=>rw[q]at j;cases j;exact tok q
def abF{l:QnL}{q:Qat}{loose:BA}{XP:Qns}{B:QmK}{d:DefRec}{K:Params->Frag}{sp:World->Cs->Sp}{T0:BY}
  (hn:Qo9) (m:n<=sizeLine) (t:QmX) (L:fc k callerA)
  (O:∀(w:World) (h:Heap),B w h->(K w.params).In h) (R:∀(w:World) (h:Heap),B w h->∀P∈T0,h.get? P=some (tabObj #[]))
  (F:∀(w:World) (mg:Bi) (j:Addr) (h:Heap),(K w.params).In h->h.Ns mainGlobals mg->mg d.name=some (.ref j) →
   ∃(fd:QaU) (ts:Cs),(∀p∈ts,p.1∈T0/\ts.lookup p.1=some p.2/\(K w.params).lookup p.1=none/\∃c,CodeHd h c p.1)/\(∀(s:Qb) (u:Value),BindsTo s fd #[[u],[]] [(x,u)]) ∧
    ∀base:Heap,(K w.params).In base->base.Ns mainGlobals mg->Eg mg base->dg l.prog w QjG mg base oG k j fd [x] (sp w ts))
  (GJ:∀(w:World) (ts:Cs) (H:Hp) (a:Addr) (ns:AT),ns.length<=n->nF QjG H a Qct->(∀p∈ts,H p.1=some QcS)->sp w ts [.ref a] H (λv H'=>v=.bl true/\∀p∈ts,H' p.1=some QcS) λ_ _ _=>False) :
  PySem.W.WalkO q loose XP B l.row.toRowW d [] QlD:=by
 refine Att.NX hn t λw jj C mg mb j o pm cd doc a vs ns G Y ho hd jO r A hints hlen M=>?_;have E:=O w _ Y;obtain⟨fd,ts,i,N,U⟩:=F w mg j _ E G.T.g r;obtain⟨bm,I,b1,b2,b3,Z,X,z⟩:=G.T.bmain;have y:bm≠mainGlobals:=λq=>by
  obtain⟨o,es,ep,e,hd,_⟩:=G.T.g;rw[q,e]at b3;cases b3;rw[hd]at z;cases z
 exact Yl E G.T.g G.T.b G.T.builtins G.T.nolimit M #[bm,I,b1,b2,y,b3,Z,X,z] A hints (l6 hlen m) L (λp D=>#[R w _ Y _ (i p D).1,(i p D).2]) U N λH S J=>GJ w ts H a ns hlen S J
noncomputable def at3(y:Int):Value->Bool
 | .int i _=>i==y
 | _=>false
theorem abG:Nf X "list.index" (λx xs H Q=>∃(p:Addr) (l:AT) (y:Int) (j:Nat),x=.ref p/\xs=[.int y]/\nF X.K H p Qb5/\l[j]? = some y/\(∀i,i<j->l[i]? ≠ some y)/\Q QxO H):=by
 intro pins s Y H x xs v us Q I o rs h;obtain⟨p,l,y,j,rfl,rfl,C,f,b,q⟩:=h;cases o;obtain⟨u,rfl,A⟩:=rs.one;obtain⟨t,rfl⟩:=A;obtain⟨its,r,⟨⟨oc,od,B,GH⟩,n,e,g,hd,hs⟩,hz⟩:=I.list C;dsimp only at g hd hs;subst g hd hs;have hi:=intsAre_of r;have at':∀{i:Nat} (hi:i<its.toArray.size),∃k t,its.toArray[i]=.int k t/\l[i]? = some k:=λ{i} a=>by
  have D:i<its.length:=by simpa using a
  have hl:i<l.length:=by have:=r.length;rw[cM]at this;lia
  obtain⟨u,e1,e2⟩:=r.get (i:=i) (x:=.int l[i]) Wp;obtain⟨t,rfl⟩:=e2;simp_all
 have d:j<its.toArray.size:=by
  have h1:=(md.1 f).1;have:=r.length;rw[cM]at this;simp;lia
 have hsz:its.toArray.size<=sizeLine:=by
  have:=r.length;rw[oD,<- this];exact hz
 refine ue F.slot_list_index #[_,e,rfl] F.entry_list_index (F.args_list_index_2 _ _) (SeqAt.list_indexAt p its.toArray n none GH (.int y t) (at3 y) j d (by rw[l7]at hsz;lia) ?hit λm hm c=>?no) #[e,λw hw=>?eqs,?_]
 case hit=>
  obtain⟨k,t',e1,e2⟩:=at' d;rw[e1];rw[f]at e2;cases e2;exact w4 y
 case no=>
  obtain⟨k,t',e1,e2⟩:=at' hm;rw[e1];exact pw.2 λz=>b m c (by rw[e2,z])
 case eqs=>
  obtain⟨i,a,rfl⟩:=Array.mem_iff_getElem.1 hw;obtain⟨k,t',e1,e2⟩:=at' a;rw[e1];exact SeqAt.EqAt.int_int k t' y t
 exact#[.int (j:Int),H,I.tok _,#[_,rfl],q]
variable{o:Expr}{apos:Pos}
def abH{l:AT}{y:Int}(h1:cN X CL b o U (.lst Qb5) δ1)(h2:cN X CL b e δ1 (.int y) U2)(s:l[j]? = some y)(d:∀i,i<j->l[i]? ≠ some y)
  (r:attributeBase o "index" X.env (eval o X.env)=eval o X.env:=by rfl) (v:((backTo pos Qvk).all QnN&&(backToKw pos QkM).all Qml
   && decide (([e]:Cf).length+([]:List Keyword).length+QkY<30))=true:=by rfl)
  (c:(apos.endLine==pos.line)=true:=by rfl) (hs:Qaz:=by exact bq rfl) (f:(backTo pos Qvu).any (·.1)=false:=by rfl) :
  bU X CL b (.Call (.Attribute o "index" apos) [e] [] pos) U (.sh QxO) U2:=λH Z Y ts vs Q S k=>
 cC (NW F.plainAttrs_list F.slot_list_index F.type_list_index abG cQ QaQ r v c hs f) (h1 H Z Y ts vs _ S λv1 H1 Z1 m k1 u q=>by
  obtain⟨a,us,rfl,g,n⟩:=q.iM;have:=vD n;subst this;refine#[?_,h2 H1 Z1 Y ts vs _ u λv2 H2 Z2 h k2 t p=>?_]
  .exact .inl #[rfl,_,g]
  .cases p;exact#[a,l,y,j,rfl,rfl,k2.seq g,s,d,k _ H2 Z2 (m.trans h) Qao (t.push Qbs)])
theorem VH(r:fc k A):A.depth<recursionLimit:=by
 have:=r.dp;lia
variable{y:Str}{g:L3.D->T}
def abI(sc:QfX)(G:Qbe)(h:cN X CL b iter U Qcq δ1)(cl:∀d∈ds,(g d).clean=true)(inner:Block X CL scope Nc ifs elt (D4 δ1 ix) ds p g)(hlen:Qcd)
  (hs:QcE:=by intro _;rfl) (n1:AD y:=by decide) (C:AE y:=by decide):bU X CL b QqC U Qga δ1:=λH Z Y ts vs Q S k pins s I=>by
 rw[eval_ListComp];refine ME (use:=none) rfl hs (tZ Qkt I) sc.kind sc.names ?_;have hw:=(Vi (tg:=.Name y px) (cQ (X:=X) (e:=iter))) pins s Y H (λJ H1=>∃Z1 us,aC Z Z1/\aC H H1/\bD X.K CL b H1 Z1 δ1 Y ts vs/\aB X.K CL H1 ds us/\(∀i H2,aC H1 H2->i<ds.length->J.go i H2)/\(∀i H2 x H',aC H1 H2->i<ds.length->J.o3 i H2 x H'->H'=H2/\us[i]? = some x)/\∀H2,aC H1 H2->J.stop ds.length H2) I (h H Z Y ts vs _ S λv H1 Z1 n k1 f r=>by
  obtain⟨a,us,rfl,l,c⟩:=r.iM;refine#[a,rfl,#[us,l],Z1,us,n,k1,f,c,λi H2 s hi=>?_,λi H2 y H' s hi j=>#[j.1,j.2 us (s.seq l)],λH2 s=>#[us,s.seq l,by rw[c.length];exact js _]];have N:i<us.length:=by rw[<- c.length];exact hi
  exact#[us,us[i],s.seq l,by simp[N]])
 refine d9 hw λv s1 h1=>d9 h1 λE s2 zz=>?_;obtain⟨it,fp,tn,J,H1,e,O,L,st,hf,Z1,us,n,k1,f,c,go,A,u⟩:=zz;subst e;have t:∀i Z2 H2 x H',aC H1 Z2->aC Z2 H2->(∀a o,H2 a=some o->jH o=true->Z2 a=some o)->i<ds.length->J.o3 i H2 x H'->∃Z3 d,ds[i]? = some d/\Kf Z2 H2 Z3 H'/\bL X.K CL Z3 d x:=λi Z2 H2 x H' s1 s2 tp hi j=>by
  obtain⟨e,F⟩:=A i H2 x H' Qog hi j;subst e;obtain⟨d,hd,B⟩:=c.yn F;exact#[Z2,d,hd,.refl s2 tp,B.mono s1]
 refine D8 (xs:=[y]) Qkt G O L st hf (xH (W1:=H1) f f.zh QA Qu3 (yO f ix) (Kr sc inner n1 C) go t u hlen (.inr cl)) λD R s' H' m io P ch ci zz=>?_;obtain⟨Z',z,k',M⟩:=zz;obtain⟨m,hn⟩:=m;exact#[m,hn,λh' w=>#[.ref D,H',ci h' w,rfl,k _ H' Z' (n.trans z) (k1.trans k') M]]
def al0(h:Qc3)(he:∀whole,isTrue e X.env whole=(do let v ← whole;standAt e.pos;holding [v] QgS):=by intro _;rfl):qW X CL b e U (!ds.isEmpty) δ1:=λH Z Y ts vs Q S k=>
 yL (aat cQ he) (h H Z Y ts vs _ S λv H1 Z1 c k1 g r=>by
  obtain⟨a,us,rfl,f,d⟩:=r.iM;refine#[_,.inl #[us,f,rfl],?_];have e:us.isEmpty=ds.isEmpty:=by
   have:=d.length;cases us<;>cases ds<;>simp at this ⊢
  rw[e];exact k H1 Z1 c k1 g)
def VJ(ks:CU):D:=.tup QoZ
def wN(ks:CU):T:=.tup ((ks.map C7).map T.sh)
noncomputable def iN(kvs:QkG)(k:CU):Option α:=(kvs.find? λkv=>decide Qeb).map (·.2)
def lZ{p:QgE}{r:QkG}{k:CU}(e:p.1=k):iN (p::r) k=some p.2:=by simp[iN,e]
def kB{p:QgE}{r:QkG}{k:CU}(e:¬ p.1=k):iN (p::r) k=iN r k:=by simp[iN,e]
theorem xD.tr{b:Addr}{kvs:B2}{en:Nat}{k:CU}(e:Rd H a Qfd)(c:QoI):xD H a Qg1 Qj4:=.inr #[kvs,k,b,#[_,e],rfl,c,rfl]
variable{d:D}
theorem Ym{ks:CU}(r:aU K CL H Z ((ks.map C7).map T.sh) us fp):us=ks.map kV:=by
 induction ks generalizing us fp with
 | nil=>cases r;rfl
 | cons k ks b=>
  rw[lx,lx]at r;cases r with
  | cons r a=>
   replace r:=r.Gz;obtain⟨rfl,r⟩:=r;rw[r.key,b a,lx]
theorem gV.length{kvs:Dx}{gs:B2}(h:QnS):kvs.length=gs.length:=
 gV.ind (P:=λkvs gs=>kvs.length=gs.length) rfl (λ_ _ i=>congrArg (· + 1) i) h
theorem gV.val{k:CU}{kvs:Dx}{gs:B2}(h:QnS):(iN kvs k=none/\ji gs k=none)\/∃d v,iN kvs k=some d/\ji gs k=some v/\bL K CL Z d v:=
 gV.ind (P:=λkvs gs=>(iN kvs k=none/\ji gs k=none)\/∃d v,iN kvs k=some d/\ji gs k=some v/\bL K CL Z d v) QtB (λ{x d v _ _} r _ i=>by
  by_cases e:x=k
  .exact .inr #[d,v,lZ e,qw e,r]
  .rw[kB (p:=(x,d)) e,nL (p:=(x,v)) e];exact i) h
theorem dH.length{kvs:CC}{gs:B2}(h:QhA):kvs.length=gs.length:=
 dH.ind (P:=λkvs gs _=>kvs.length=gs.length) rfl (λ_ _ i=>congrArg (· + 1) i) h
theorem dH.keys{kvs:CC}{gs:B2}(h:QhA):kvs.map (·.1)=gs.map (·.1):=
 dH.ind (P:=λkvs gs _=>kvs.map (·.1)=gs.map (·.1)) rfl (λ{x _ _ _ _ _ _} _ _ i=>congrArg (x::·) i) h
theorem dH.snoc{k:CU}{kvs:CC}{gs:B2}{a:BY}(h:QhA)(q:bO K CL H Z t v a):dH K CL H Z Qjs QjF (fp++(a++[])):=
 dH.ind (P:=λkvs gs fp=>dH K CL H Z Qjs QjF (fp++(a++[]))) (by rw[ui,ui,ui];exact .cons q .nil) (λr _ i=>by
  rw[ka];exact .cons r i) h
theorem bD.al1{p:Addr}(S:QaA)(d:Qdx):aC H QiQ/\bD K CL b QiQ Z U Y (.dct []::ts) Qfe:=by
 obtain⟨fp,gp,e,r,nd,k⟩:=S.rep;have f:Z p=none:=S.zh.free d;have sh:aC H QiQ:=aC.upd d;have keep:∀a∈fp++gp,a≠p:=λa c=>by
  have:∃o,H a=some o:=by
   obtain h|h:=i8.1 c
   .exact e.there a h
   .exact r.there a h
  obtain⟨o,q⟩:=this;exact aL q d
 refine#[sh,#[#[fp,[p]++gp,e.mono QA Qez,.cons (.dct aO .nil) (r.mono QA λa c=>ay (keep a (by simp[c]))),?_,λa c=>?_],S.bh.trans sh,S.zz,S.zh.trans sh,S.new,λa o q i=>?_,S.tab]]
 .refine(rk (l₁:=fp) (l₂:=gp) (a:=p)).nodup_iff.2 Qh1
 .rcases fL.1 ((rk (l₁:=fp) (l₂:=gp) (a:=p)).mem_iff.1 c) with h|h
  .subst h;exact#[f,S.bh.free d]
  .exact k a h
 .by_cases c:a=p
  .subst c;rw[aO]at q;cases q;cases i
  .rw[ay c]at q;exact S.tp a o q i
theorem bD.R5{ks:CU}(S:bD K CL b H Z U Y (wN ks::ts) QaY):∃a,v=.ref a/\H a=some Qp3:=by
 obtain⟨fp,gp,e,r,nd,k⟩:=S.rep;cases r with
 | cons r _=>
  obtain⟨_,_,rfl,hz,c⟩:=r.qy;exact#[_,rfl,by rw[<- Ym c];exact S.zh _ _ hz]
variable{e1:Expr}{d:L3.D}{kvs:Qnp}{k:CU}
def Oz:bU X CL b QeX U (.dct []) U:=λH Z Y ts vs Q S kk=>cC aaP λp a=>by
 obtain⟨c,d⟩:=S.al1 a;exact kk _ _ Z QA c d
theorem Eh(k:CU)(q:Qa5)(h1:cN X CL b e1 U Qd2 δ1)(h2:bU X CL b e2 δ1 (wN k) U2)(e:iN kvs k=some d)(hs:N3 e2:=by exactλ_ _=>rfl):cN X CL b Qc5 U d U2:=λH Z Y ts vs Q S kk=>
 cC (Vq We cQ cQ hs) (h1 H Z Y ts vs _ S λv H1 Z1 h k1 o l=>h2 H1 Z1 Y ts vs _ o λv2 H2 Z2 g k2 f=>by
  obtain⟨p,rfl,m⟩:=f.R5;cases l with
  | @dct a gs _ _ n i=>
   have c:=i.mono k2;rcases c.val (k:=k) with⟨h0,_⟩|⟨d',v',h0,hv,j⟩
   .rw[e]at h0;cases h0
   .rw[e]at h0;cases h0;refine#[a,v',rfl,?_,kk v' H2 Z2 QoX Qao f.pop j];rw[<- hv];exact xD.tr (Rd.mono k2 n) m)
def Yn{gs:B2}(a:QnS):(ji gs k).isSome=(iN kvs k).isSome:=by
 rcases a.val (k:=k) with⟨h0,h1⟩|⟨d',v',h0,h1,_⟩
 .rw[h0,h1];rfl
 .rw[h0,h1];rfl
theorem abJ(k:CU)(m:Qa5)(h1:bU X CL b e1 U (wN k) δ1)(h2:cN X CL b e2 δ1 Qd2 U2)(hm:Qin) :
  qW X CL b QeB U (!(iN kvs k).isSome) U2:=λH Z Y ts vs Q S kk=>
 yL (DP (XT We cQ cQ) hm) (h1 H Z Y ts vs _ S λv H1 Z1 e k1 j=>h2 H1 Z1 Y _ _ _ j λv2 H2 Z2 d k2 c g=>by
  obtain⟨l,rfl,h⟩:=c.R5;cases g with
  | @dct a gs _ _ i f=>
   refine#[a,ji gs k,rfl,xD.tr i h,_,rfl,?_];rw[Yn f];exact kk H2 Z2 QoY Qao c.pop)
def US(h:cN X CL b e1 U .non δ1):qW X CL b Qk1 U true δ1/\bU X CL b Qk1 U QoB δ1:=by
 constructor
 .exactλH Z Y ts vs Q S k=>yL (DP (Rh cQ)) (h H Z Y ts vs _ S λv H1 Z1 a k1 c r=>by
   cases r;exact#[_,rfl,by simpa using k H1 Z1 a k1 c])
 .exactλH Z Y ts vs Q S k=>cC (akx (Rh cQ)) (h H Z Y ts vs _ S λv H1 Z1 a k1 c r=>by
   cases r;exact by simpa using k _ H1 Z1 a k1 (c.push Qb6))
def R6:∀{tl:Bz} {us:B0} {g:BY},aU K CL H Z (tl++[t]) us g->∃b u g1 g2,us=b++[u]/\g=g1++g2/\aU K CL H Z tl b g1/\bO K CL H Z t u g2:=by
 intro tl
 induction tl with
 | nil=>
  intro _ _ h;cases h with
  | cons r a=>
   cases a;exact#[[],_,[],_,rfl,ko _,.nil,r]
 | cons _ _ e=>
  intro _ _ h;cases h with
  | cons r a=>
   obtain⟨b,u,g1,g2,e1,e2,d,c⟩:=e a;subst e1 e2;exact#[_,u,_,g2,rfl,(ka ..).symm,.cons r d,c]
theorem bD.agi(S:QaA)(hi:U[i]? = some Qgb) :
  ∃a us u,Y[i]? = some Qoz/\H a=some (.lst (us++[u]))/\bD K CL b (upd H a Qff) Z Qw9 Y Qcb (u::vs):=by
 obtain⟨fp,gp,e,r,nd,k⟩:=S.rep;obtain⟨v0,f1,f2,f,hv,n,rt,put,_⟩:=e.get hi;subst n;obtain⟨a,us,g,rfl,rfl,m,rs⟩:=rt.iM;obtain⟨l,u,g1,g2,e1,e2,p,o⟩:=R6 rs;subst e1 e2;have ne:∀c∈Qxa++gp,c≠a:=λc d e=>by
  subst e;have j:((f1++((c::Qdk)++f))++gp).Perm (c::(Qxa++gp)):=by
   rw[nc,<- nc];exact(rk.append_right _)
  exact(ml.1 (j.nodup_iff.1 nd)).1 d
 refine#[a,l,u,hv,m,?_];have q1:bO K CL (upd H a Qfw) Z QeU Qag (a::g1):=.lst aO (p.mono QA λc d=>ay (ne c (by simp[d])));have e2:=put (H':=upd H a Qfw) QA (λc d=>ay (ne c (by
  obtain h|h:=i8.1 d
  .simp[h]
  .simp[h]))) q1
 rw[jk hv]at e2;have j:((f1++((a::g1)++f))++(g2++gp)).Perm ((f1++((a::Qdk)++f))++gp):=by
  simp only[nc,ka];refine pE f1 (List.Perm.cons a (pE g1 ?_));rw[<- ka,<- ka];exact nh.append_right gp
 exact S.write nd k (iB) #[_,m] e2 (.cons (o.mono QA λc d=>ay (ne c (by simp[d]))) (r.mono QA λc d=>ay (ne c (by simp[d])))) (j.nodup_iff.2 nd) λc d=>j.mem_iff.1 d
section
variable{D:dI}{pa:Pos}
def al2(n:Qa0)(h:U[i]? = some Qgb)(e:attributeBase QaW "pop" X.env QvZ=eval QaW X.env:=by rfl)(c:(pa.endLine==pos.line)=true:=by rfl) :
  R1 X CL b (.Call (.Attribute QaW "pop" pa) [] [] pos) U t Qw9:=λH Z Y ts vs Q S k=>
 cC (ala y3 PySem.F.slot_list_pop PySem.F.type_list_pop alb QeE e c) (by
  obtain⟨a,us,u,hv,d,f⟩:=S.agi h;refine#[_,hv,.inl #[rfl,_,.inl (.inl d)],?_];refine#[a,us++[u],u,rfl,rfl,d,Wp,?_];rw[List.dropLast_concat];exact k u _ Z QA f)
def aqu(h:U[i]? = some QaK)(q:t.fC=d)(k:c7 X CL b fD QnB D):c7 X CL b fD U D:=λH Z Y ts vs E S M=>by
 subst q;obtain⟨v,Z',_,z,a⟩:=S.Vs h;exact k H Z' Y ts vs E a.pop (M.mono z)
def abL:yE X QgA (λx y H Q=>∃a b ys,x=.ref a/\y=.ref b/\tP X.K H a []/\tP X.K H b ys/\Q Qg1 H):=by
 intro pins s Y H x y v u Q I k j h;obtain⟨a,b,ys,rfl,rfl,p,o,q⟩:=h;cases k;cases j;obtain⟨its,l,p1,_⟩:=I.tuple p;obtain⟨t,w,p2,_⟩:=I.tuple o;have e1:=l.Dm.2 rfl;subst e1;obtain⟨⟨cls,dd,data,sl⟩,f,g,n,hd⟩:=id p1;obtain⟨⟨r,e,data2,d⟩,c,i,m,hd2⟩:=id p2;simp only at g hd i hd2;subst g hd i hd2;exact concat_meets #[_,f,rfl] #[_,c,rfl] noFill_tuple_add seq_tuple_add PySem.F.slot_tuple_add aCh (aB7 _ _)
   (tuple_addW0 a b #[] t.toArray n m dd e sl d rfl) #[f,c,.ref b,H,I,rfl,q]
def OB(h1:Ql1)(h2:QrK)(n:Ka≠[])(hz:QlQ) :
  bU X CL b Qgh U QuC U2:=by
 cases ds with
 | cons d ds=>exact abx h1 h2 Qt7 n hz
 | nil=>
   intro H Z Y ts vs Q S k;exact cC (NK abL cQ cQ) (h1 H Z Y ts vs _ S λv1 H1 Z1 j k1 o=>h2 H1 Z1 Y _ _ _ o λv2 H2 Z2 i k2 a=>by
    have h:=a.GP;have m:=a.pop.GP;obtain⟨_,_,rfl,g,c⟩:=m.qy;cases c;have e:=h;obtain⟨_,_,rfl,f,l⟩:=h.qy;exact#[_,_,_,rfl,rfl,aC.N5 a.zh g,aC.N5 a.zh f,k _ _ Z2 QjT Qao (a.pop.pop.push e)])
def R7:oJ X QnR (λxs H Q=>∃a kvs,xs=[.ref a]/\Rd H a QbE/\∀p,H p=none->Q QbU QwP):=by
 intro pins s Y H xs us Q I r h;obtain⟨a,kvs,rfl,d,q⟩:=h;obtain⟨u,rfl,b⟩:=vals1 r;cases b;exact aaQ I d λp s' c e=>#[.ref p,_,e,rfl,q p c]
theorem bD.agj{p:Addr}{kvs:Qna}(S:QaA)(g:Qhy)(d:Qdx):aC H Qnb/\bD K CL b Qnb Z U Y (.kT kvs::ts) Qfe:=by
 obtain⟨fp,gp,e,r,nd,k⟩:=S.rep;have f:Z p=none:=S.zh.free d;have sh:aC H Qnb:=aC.upd d;have keep:∀a∈fp++gp,a≠p:=λa c=>by
  have:∃o,H a=some o:=by
   obtain h|h:=i8.1 c
   .exact e.there a h
   .exact r.there a h
  obtain⟨o,q⟩:=this;exact aL q d
 refine#[sh,#[#[fp,[p]++gp,e.mono QA Qez,.cons (.kT aO g) (r.mono QA λa c=>ay (keep a (by simp[c]))),?_,λa c=>?_],S.bh.trans sh,S.zz,S.zh.trans sh,S.new,λa o q i=>?_,S.tab]]
 .refine(rk (l₁:=fp) (l₂:=gp) (a:=p)).nodup_iff.2 Qh1
 .rcases fL.1 ((rk (l₁:=fp) (l₂:=gp) (a:=p)).mem_iff.1 c) with h|h
  .subst h;exact#[f,S.bh.free d]
  .exact k a h
 .by_cases h:a=p
  .subst h;rw[aO]at q;cases q;cases i
  .rw[ay h]at q;exact S.tp a o q i
def R8:bootBuiltins "dict" = some QnR:=by decide +kernel
def abM{kvs:Qna}(hm:X.mg "dict" = none)(h:bU X CL b e U (.sh Qdi) δ1)(j:Gl X "dict")(hs:Qaz:=by exact bq rfl):bU X CL b (.Call (.Name "dict" pp) [e] [] pos) U Qdi δ1:=λH Z Y ts vs Q S k=>
 cC (jP R7 j hm R8 QaQ (he:=hs)) (h H Z Y ts vs _ S λv H1 Z1 f k1 d=>by
  have r:=d.GP;cases r with
  | @kT a gs _ l g=>
   refine#[a,gs,rfl,.inl (d.zh _ _ l),λp i=>?_];obtain⟨c,m⟩:=d.pop.agj g i;exact k _ _ _ f Qcw m)
end
end L3
namespace L2
open PySem PySem.Spec PyProof.Rows
noncomputable abbrev VM:B1:=[.type "ValueError",.type "Exception",.type "BaseException",.type "object"]
def f9(fr:D2)(h h':Heap):Prop:=∀b∈tK fr,∀o,h.get? b=some o->∃sl,h'.get? b=some {o with slots:=sl}
def GB(P:Qat)(w:World):Z6:=λouter H s E ev s'=>∃(e C:Addr) (a0:Value) (B:Heap) (H':Hp),ev=.ref e/\s'.os=s.os/\AllBare s'.gens/\Heap.FlyingW B outer e Qar a0 s'.heap/\tO P w H' B ∧
 (∀h,s'.heap.UpToSlots h->B.StaysIn h->f9 outer s.heap h->Un (tK outer) [] H H' s.heap h)/\f9 outer s.heap s'.heap/\E Qar none H'
def XE(X:Cx)(W:XK):Value->Shared->Prop:=λev s'=>∃(e C:Addr) (pins:BC) (Y:St) (H H':Hp) (s:Qb),ev=.ref e/\Inv X pins Y H s/\W Qar none H'/\s'.os=s.os/\AllBare s'.gens ∧
 (H=H'/\Heap.MadeExcOf s.heap s'.heap e Qar []\/∃a0 B,(tO X.prog X.w H' B/\(∀h,s'.heap.UpToSlots h->B.StaysIn h->f9 X.stack s.heap h->Un QbB [] H H' s.heap h)/\f9 X.stack s.heap s'.heap) ∧
  (Heap.HeldW B X.stack e Qar a0 X.env.locals s'.heap\/Heap.FlyingW B X.stack e Qar a0 s'.heap))
section
variable{X:Cx}{pins:BC}{Y:St}{H:Hp}{s:Qb}
theorem f9.up{fr:D2}{h h1 h2 base:Heap}(a:f9 fr h h1)(f:h1.FunFrames base fr)(u:h1.UpToSlots h2):f9 fr h h2:=λb d o i=>by
 obtain⟨sl,e⟩:=a b d o i;obtain⟨_,o',g,hd⟩:=f.mem d;rw[e]at g;cases g;obtain⟨c,e2⟩:=u b _ e hd;exact#[c,e2]
def agk{h base:Heap}{env:Env}{l outer:D2}(e:l=env::outer)(f:h.FunFrames base l):h.FunFrames base outer:=by
 subst e;exact f.2.2
theorem Inv.UP(I:QE):tO X.prog X.w H Qmg:=λa o e=>by
 refine(I.cV a o e).C3 (λb u c q=>we _ q λhm=>?_) (λb q=>q) (λb xs q=>q);have hn:=I.Di b hm;simp_all
theorem Inv.UB(I:QE):s.heap.FunFrames Qmg X.stack:=PySem.W.funFrames_hide I.stack λenv he a b=>List.mem_filterMap.2 #[env,he,b]
theorem Inv.al3(I:QE)(f:QhB)(i:QhC)(hex:X.ex=[])(h:Heap)(st:Qsi)(fr:f9 X.outer X.jj.heap h):Un (tK X.outer) [] X.mB H X.jj.heap h:=by
 have u:=I.base;rw[hex]at u;have out:∀b o,X.jj.heap.get? b=some o->b∉tK _->b∉tK X.stack:=λb o a hn hm=>by
  rw[f]at hm;unfold tK at hm;rw[nz,i]at hm;obtain z|z:=fL.1 hm
  .have h1:=kr a;have h2:=I.ok.above;rw[<- z]at h2;exact absurd h1 (Nat.not_lt.2 h2)
  .exact hn z
 refine#[λb o a d hf c=>?_,λb o a d hf c=>fr b hf o a,u.free,λb o a c=>?_,u.yx,u.dB,u.yy]
 .exact st b o (we _ (u.keep b o a d hf c) (out b o a hf))
 .obtain⟨o',g⟩:=u.there b o a c;by_cases hf:b∈tK X.outer
  .obtain⟨sl,e⟩:=fr b hf o a;exact#[_,e]
  .exact#[o',st b o' (we _ g (out b o a hf))]
theorem Inv.OD(I:QE)(hex:X.ex=[]):f9 X.outer X.jj.heap s.heap:=λb a o c=>I.base.slot b o c (I.ok.o8 b a) a WA
theorem Inv.al4(I:QE)(h:Heap)(st:Qsi)(fr:f9 X.stack s.heap h):Un QbB [] H H s.heap h:=by
 refine#[λb o a d hf c=>st b o (we _ a hf),λb o a d hf c=>fr b hf o a,λb o _ q _=>q,λb o a c=>?_,λb xs q=>q,λb o u q=>q,λb ps q=>#[#[],by rw[Array.append_empty];exact q]];by_cases hf:b∈tK X.stack
 .obtain⟨sl,e⟩:=fr b hf o a;exact#[_,e]
 .exact#[o,st b o (we _ a hf)]
theorem al5{W:XK}{ev:Value}{s':Qb}{F:BN}(c:QhB)(k:QhC)(hex:X.ex=[])(n:X.fs=tK X.outer)(h:XE X W ev s') :
  wpAny Qr X.A (leaving X.env ev) (λ_ l=>GB X.prog X.w X.outer X.mB X.jj W ev l) F s':=by
 obtain⟨e,C,pins,Y,H,H',s,rfl,I,hw,E,r,hm⟩:=h;have i:X.A.frames=some Qjg:=by rw[I.ok.frames,c]
 have g:=E.trans I.os;have sub:∀b,b∈tK X.outer->b∈tK X.stack:=λb a=>by
  rw[c];unfold tK at a ⊢;simp_all
 obtain⟨rfl,hm⟩|⟨a0,B,⟨cV,un,fr⟩,hm⟩:=hm
 .have p:=I.UB;rw[c]at p;refine wpAny_leaves_madeW (base:=hideAll s.heap QbB) i k (λb o q=>ID _ q) WA hm λh' t x K G v=>?_;refine#[e,C,.ref t,_,H,rfl,g,r,x,I.UP,λh _=>I.al3 c k hex h,?_,hw];have f1:f9 _ _ s'.heap:=λb a o m=>by
   obtain⟨sl,q⟩:=I.OD hex b a o m;exact#[sl,hm.keeps _ _ q]
  have f2:=(I.xB).of_keeps λb o a _=>#[o,hm.keeps b o a,rfl];exact f1.up f2 v
 .have fin:∀(h1:Heap),Heap.FlyingW B X.outer e Qar a0 h1->s'.heap.UpToSlots h1->s'.heap.FunFrames B X.stack->GB X.prog X.w X.outer X.mB X.jj W Qb8 {s' with heap:=h1}:=λh1 j d f=>by
   refine#[e,C,a0,B,H',rfl,g,r,j,cV,λh u st f0=>?_,?_,hw]
   .have J:=I.PM (s':={s with heap:=h}) rfl (un h QjW st (fr.up f QjW)) (cV.kept st) I.bare λb z=>absurd z lL;have:=J.base;rw[hex,n]at this;exact this
   .have f1:f9 X.outer X.jj.heap s'.heap:=λb a o m=>by
     obtain⟨sl,q⟩:=I.OD hex b a o m;obtain⟨y,L⟩:=fr b (sub b a) _ q;simp_all
    exact f1.up (agk c f) d
  obtain hm|hm:=hm
  .have f:=hm.2.2.1;rw[c]at hm;refine ec (wpAny_noteFrame_againW k hm.2.2.2 ?_);refine wpAny_landsW hm λh' j d=>?_;obtain⟨k1,k2,⟨_,_,k3⟩,D⟩:=j;exact fin h' #[k1,k2,k3,D] d f
  .have f:=hm.2.2.1;rw[c]at hm;exact wpAny_leaves_onW i k hm λh' j d=>fin h' j d f
theorem abP{M:Model}{A:Qav}{E:BN}{base:Heap}{l:D2}{env:Env}{e L:Addr}{cls a0 fl:Value}{Q:Qmw}(hf:env.frame=some L)
  (m:base.StaysIn s.heap) (n:base.get? e=none) (hl:s.heap.FunFrames base l) (v:s.heap.TracedAtW base e cls a0 fl)
  (h:∀h',Heap.HeldW base l e cls a0 L h'->s.heap.UpToSlots h'->Q () {s with heap:=h'}) :
  wpAny M A (do
   if (← field Qb8 1) == .none then unsupported "frame.own-activation:exception-without-traceback"
   setFlight Qb8 env.frame) Q E s:=by
 obtain⟨u,vs,T,x,ts,he,r,hd,h1,k,g,t,f,w⟩:=v;have i:=(Array.getElem?_eq_some_iff.1 w).1;have c:∀b,b≠T->(s.heap.update T (Obj.mapFields (·.setIfInBounds 3 (rawInt L)))).get? b=s.heap.get? b:=λb d=>wt _ _ (nf d);have j:∀b o,s.heap.get? b=some o->(∀vs,o.data ≠ .fields vs)->b≠T:=λb o d a q=>by simp_all
 refine ec (wpAny_field he hd h1 ?_);refine ec (wpAny_field he hd h1 ?_);rw[hf];refine wpAny_setField t f i (h _ #[λb o p=>(c b λq=>by grind).trans (m b o p),n,hl.of_keeps λb o d a=>#[o,(c b (j b o d a)).trans d,rfl],?_] λb o d a=>#[ _,(c b (j b o d a)).trans d]);exact#[u,vs,T,_,_,(c e (nf g)).trans he,r,hd,h1,k,g,wq _ t (Obj.isFreed_of_fields (HE f _)),HE f _,by simp[i]]
theorem yZ{W:XK}(a:QhB)(j:QhC):PassesOwn Qr X.A X.env (XE X W):=λev s' h=>by
 obtain⟨e,C,pins,Y,H,H',s,rfl,I,hw,r,D,hm⟩:=h;have f:X.A.frames=some Qjg:=by rw[I.ok.frames,a]
 have back:∀{a0:Value} {B:Heap} {s2:Qb},s2.os=s'.os->s2.gens=s'.gens->tO X.prog X.w H' B->(∀h,s2.heap.UpToSlots h->B.StaysIn h->f9 X.stack s.heap h->Un QbB [] H H' s.heap h)->f9 X.stack s.heap s2.heap->Heap.HeldW B X.stack e Qar a0 X.env.locals s2.heap->cameBackBy Qr X.A X.env (XE X W) Qb8 s2:=λ{a0 B s2} p g2 cV un fs k=>by
  obtain⟨k1,k2,k3,l⟩:=k;refine abP j k1 k2 k3 l λh' n d=>?_;exact#[e,C,pins,Y,H,H',s,rfl,I,hw,p.trans r,WE,.inr #[a0,B,#[cV,λh u=>un h QjW,fs.up k3 d],.inl n]]
 obtain⟨rfl,hm⟩|⟨a0,B,⟨cV,un,fr⟩,hm⟩:=hm
 .have i:=I.UB;rw[a]at i;obtain⟨t,he,q,z⟩:=hm.there;have fresh:∀b,s.heap.get? b=none->(hideAll s.heap QbB).get? b=none:=λb g=>by
   cases m:(hideAll s.heap QbB).get? b with
   | none=>rfl
   | some o'=>have:=ID _ m;grind
  have c:s'.heap.FunFrames Qmg Qjg:=a▸i.of_keeps λb o g _=>#[o,hm.keeps b o g,rfl];unfold notedBy noteFrame;simp only[j];refine ec (wpAny_field (x:=.none) he rfl rfl ?_);refine wpAny_entryW f c j he (λb o g=>hm.keeps b o (ID _ g)) (fresh e hm.new) rfl (show 1<6 by decide) rfl λh' v=>?_;obtain⟨k1,k2,k3,l⟩:=v;rw[<- a]at k2;have f1:f9 X.stack s.heap s'.heap:=λb g o m=>#[o.slots,hm.keeps _ _ m];rw[<- a]at c;exact back rfl rfl I.UP (λh _=>I.al4 h) (f1.up c l) #[k1,fresh e hm.new,k2,k3]
 .obtain hm|hm:=hm
  .unfold notedBy;exact wpAny_noteFrame_againW j hm.2.2.2 (back rfl rfl cV un fr hm)
  .unfold notedBy;have y:=hm.2.2.1;rw[a]at hm;refine wpAny_looks_onW f j hm λh' k d=>?_;rw[<- a]at k;exact back rfl rfl cV (λh u=>un h QjW) (fr.up y d) k
structure Ks(K:Frag)(C:Addr):Prop where
 ex:∃nm q N bs bm hdct sn sub ab col dd k0 k1 k2 k3 k5,K.lookup C=some (excClassObj nm q C N bs bm hdct sn sub ab col dd k0 k1 k2 k3 k5 "ValueError.__new__")/\nsOkIn K N=true/\nsIn K N "__init__" = some none/\tailIn K VM bm=true
def Yo{W:XK}{x:Str}{C:Addr}{np C5 pos:Pos}{D:Ends}(a:Qbe)(h:Qaw)(hm:X.mg x=some Qar)(O:Ks X.K C)(hw:W Qar none H)(hd:AD x:=by decide) :
  L3.GU QbA (.Raise (some (.Call (.Name x np) [] [] C5)) none pos) D Y H:=λpins s I=>by
 have J:=I.jG;obtain⟨nm,q,N,bs,bm,hdct,sn,sub,ab,col,dd,k0,k1,k2,k3,k5,f,b,d,c⟩:=O.ex;have tl:=PySem.W.tail_of_in J.AX c;refine wpAny_Raise_call_subT (nm:=nm) (q:=q) (N:=N) (bs:=bs) (k0:=k0) (k1:=k1) (k2:=k2) (k3:=k3) (k5:=k5) (dd:=dd) (col:=col) (ab:=ab) (sub:=sub) (sn:=sn) (hdct:=hdct) PySem.F.excBase_ValueError (tl.hasType PySem.F.excBase_ValueError.hasBase) (J.ok.hd a) rfl (PySem.W.nsMap_none_of_in J.AX b d) (qX I h hm #[rfl,?_] hd);exact evalArgs_empty #[rfl,kx _,J.AX _ _ f,.of_isNs (PySem.W.isNs_of_in J.AX b),tl,λh' e g=>#[e,C,pins,Y,H,H,s,rfl,J,hw,rfl,J.bare,.inl #[rfl,g]]]
structure Lies(X:Cx)(pins:BC)(Y:St)(H:Hp)(s:Qb)(H':Hp)(e C:Addr)(a0:Value)(B:Heap)(s':Qb):Prop where
 inv:Inv X pins Y H s
 os:s'.os=s.os
 bare:AllBare s'.gens
 vy:Heap.FlyingW B X.stack e Qar a0 s'.heap
 cV:tO X.prog X.w H' B
 un:∀h,s'.heap.UpToSlots h->B.StaysIn h->f9 X.stack s.heap h->Un QbB [] H H' s.heap h
 fr:f9 X.stack s.heap s'.heap
variable{H':Hp}{e C:Addr}{a0:Value}{B:Heap}{s':Qb}
theorem Lies.now(L:Qie):Inv X pins Y H' s':=L.inv.PM L.os (L.un _ (λb o q _=>#[o.slots,q]) L.vy.1 L.fr) (L.cV.kept L.vy.1) L.bare λb z=>absurd z lL
theorem Lies.move(L:Qie){h':Heap}{t':Nat}(hf:Heap.FlyingW B X.stack e Qar a0 h')(u:s'.heap.UpToSlots h'):Lies X pins Y H s H' e C a0 B {s' with heap:=h',toks:=t'}:=
 #[L.inv,L.os,L.bare,hf,L.cV,λh v=>L.un h (u.trans v),L.fr.up L.vy.2.2.1 u]
noncomputable abbrev Cx.hand(X:Cx)(e:Addr):Cx:={X with A:=X.A.mark (some Qb8),calm:=false}
theorem Inv.hand(I:QE)(e:Addr):Inv Qpj pins Y H s:=
 #[#[I.ok.mod,I.ok.kind,I.ok.glob,I.ok.blt,I.ok.above,I.ok.inj,I.ok.has,I.ok.ub,(λh=>by cases h),I.ok.frames,I.ok.vr,I.ok.Fn,I.ok.bs,I.ok.ZZ,I.ok.Rf,I.ok.Xu,I.ok.xB,I.ok.o8],I.os,I.bare,I.base,I.loc,I.cell,I.free,I.nI,I.pin,I.cV,I.len]
theorem Inv.Ku(ok:X.Ok)(I:Inv Qpj pins Y H s):Inv X pins Y H s:=#[ok,I.os,I.bare,I.base,I.loc,I.cell,I.free,I.nI,I.pin,I.cV,I.len]
abbrev _root_.ET:=List ExceptHandler
def at7{Q:Qmz}{E:BN}{hs:ET}(d:QhB)(l:QhC)(L:Qie)
  (k:∀s3,Lies X pins Y H s H' e C a0 B s3->wpAny Qr X.A Ql8 Q E s3) :
  wpAny Qr X.A (noteFrame Qb8 X.env) (λ_ b=>wpAny Qr X.A (setFlight Qb8 none) (λ_ a=>wpAny Qr X.A Ql8 Q E a) E b) E s':=by
 have g:X.A.frames=some Qjg:=by rw[L.inv.ok.frames,d]
 have h:=L.vy;rw[d]at h;refine wpAny_looks_onW g l h λn f j=>wpAny_landsW f λm c i=>k _ ?_;rw[<- d]at c;exact L.move c QjT
def RU{Q:Qmz}{E:BN}{x:Str}{Dd:Addr}{np pos:Pos}{b₀:Stmt}{suite:CO}{rest:ET}{m:Bool}(L:Qie)(f:Qaw)(hm:X.mg x=some Qfn)
  (d:exmOne X.K Qar Qfn=some m)
  (k:if m then ∀s4,Lies X pins Y H s H' e C a0 B s4->wpAny Qr (X.hand e).A (execs (b₀::suite) X.env) Q Qby s4 else ∀s4,Lies X pins Y H s H' e C a0 B s4->wpAny Qr X.A (handleBy Qb8 X.env rest) Q E s4)
  (hd:AD x:=by decide) :
  wpAny Qr X.A (handleBy Qb8 X.env QkS) Q E s':=by
 have I:=L.now;obtain⟨h,g,a⟩:=L.vy.there;have LT:PySem.W.Looks Qr s'.heap (typeOf Qb8) Qar:=a▸(PySem.W.Looks.ld g).andThen .now;refine wpAny_handleBy_cons (codeAny_handlers_test (qX (I.hand e) f hm ?_ hd)) (λq=>by cases q);refine(PySem.W.exm_one I.AX LT d).here ?_;cases m with
 | false=>exact k s' L
 | true=>
  refine codeAny_handlers_suite (lands_againW L.vy λi b c=>?_);exact me (k _ (L.move b c)) (λ_ _ z=>z) λ_ _ z=>z.elim
end
variable{X:Cx}
noncomputable abbrev Cx.pinned(X:Cx)(p:BC):Cx:={X with pn:=X.pn++p}
theorem Cx.Ok.pinned(ok:X.Ok)(p:BC):(X.pinned p).Ok:=#[ok.mod,ok.kind,ok.glob,ok.blt,ok.above,ok.inj,ok.has,ok.ub,ok.hd,ok.frames,ok.vr,ok.Fn,ok.bs,ok.ZZ,ok.Rf,ok.Xu,ok.xB,ok.o8]
variable{s:Qb}
theorem Inv.aqx{pins:BC}{Y:St}{H:Hp}(I:QE):Inv Qxb [] Y H s:=
 #[I.ok.pinned pins,I.os,I.bare,I.base,I.loc,I.cell,I.free,I.nI,(λp a=>I.pin p (by rw[ko]at a;exact a)),I.cV,I.len]
theorem Inv.al6{pins p2:BC}{Y:St}{H:Hp}(ok:X.Ok)(I:Inv Qxb p2 Y H s):Inv X pins Y H s:=
 #[ok,I.os,I.bare,I.base,I.loc,I.cell,I.free,I.nI,(λp a=>I.pin p Qkj),I.cV,I.len]
end L2
namespace L3
open PySem PySem.Spec PyProof.Rows L2
def eZ(b:Bx)(E:XK)(C:Addr):Prop:=∀H' Z':Hp,aC b.B H'->aC b.Z Z'->aC Z' H'->(∀a o,Z' a=some o->b.Z a=none->b.B a=none)->(∀a o,H' a=some o->jH o=true->Z' a=some o)->E Qar none H'
variable{A:Type}
def qr(K:Frag)(CL:BM)(n:Nat)(arg:Qah)(Pre:Qab)(exc:Qb0):Sp:=λvs H _ E=>
 ∃(W:Hp) (a:A),aC W H/\(∀c o,H c=some o->jH o=true->W c=some o)/\aB K CL W Qcx vs/\(arg a).length=n/\Pre a/\nM CL W/\eZ #[H,W] E QdZ
section
variable{X:Cx}{CL:BM}{b:Bx}{U δ1 U2:BB}{e:Expr}{es:Cf}{fD:CO}{D:dI}{x c:Str}{i:Nat}{pos pp:Pos}{W:XK}
def VN{np C5:Pos}(d:Qbe)(a:Gl X c)(hm:X.mg c=some QgH)(O:Ks X.K (CL c))(e:eZ b W (CL c))(hd:AD c:=by decide) :
  c7 QbA CL b (.Raise (some (.Call (.Name c np) [] [] C5)) none pos::fD) U D:=b8 λH Z Y ts vs E S M=>
 Yo d a hm O (e H Z S.bh S.zz S.zh S.new S.tp) hd
structure sT(X:Cx)(CL:BM)(x:Str)(k n:Nat){A:Type}(arg:Qah)(Pre:Qab)(exc:Qb0):Prop where
 ex:∃f fd ps,dg X.prog X.w X.K X.mg X.base QdK k f fd ps Qiw/\X.mg x=some Qae/\keepIn X.K Qae=true/\Binds X.K fd ps []
 room:fc k X.A
def Kv(X:Cx)(CL:BM)(b:Bx)(Z:Hp)(δ1:BB)(ts:Bz)(vs:B0)(C:Addr)(ev:Value)(s':Qb):Prop:=
 ∃(e:Addr) (a0:Value) (B:Heap) (pins:BC) (Y:L2.St) (H:Hp) (s:Qb) (H' Z':Hp),ev=.ref e/\Lies X pins Y H s H' e C a0 B s'/\aC Z Z'/\bD X.K CL b H' Z' δ1 Y ts vs
def xf(X:Cx)(CL:BM)(b:Bx)(e:Expr)(U:BB)(c:Str)(δ1:BB):Prop:=
 ∀(H Z:Hp) (Y:L2.St) (ts:Bz) (vs:B0),bD X.K CL b H Z U Y ts vs->yK Qoj e Y H λ_ _=>False
def YP(X:Cx)(CL:BM)(b:Bx)(st:CO)(U:BB)(c:Str)(δ1:BB):Prop:=
 ∀(H Z:Hp) (Y:L2.St) (ts:Bz) (vs:B0) (D:Ends),bD X.K CL b H Z U Y ts vs->GI Qoj st D Y H
def Yp{H:Hp}{Y:L2.St}{Q:EN}{E:BN}(a:Qeo)(h:GN X es Y H Q):GN Qkg es Y H Q:=λpos pins s I=>
 me (h pos pins s I.jG) (λus s' ⟨vs,H',b,r,q⟩=>#[vs,H',b.i4 E,r,q]) λev s' z=>by rw[a]at z;exact z.elim
theorem bD.grown{K:Frag}{H H' Z W W':Hp}{Y:L2.St}{ts:Bz}{vs:B0}(S:QaA)(e:QcX)(c:aC Z W)(ww:aC W W')(d:aC W' H')(new:∀a o,W' a=some o->W a=none->H a=none)
  (tp:∀a o,H' a=some o->jH o=true->W' a=some o):∃Z',aC Z Z'/\bD K CL b H' Z' U Y ts vs:=by
 obtain⟨Z',z,g⟩:=S.back e c ww d new tp Qph oy (λa f=>by cases f) QaB;exact#[Z',z,g.pop]
theorem VP{k n:Nat}{arg:Qah}{Pre:Qab}{exc:Qb0}{f:Addr}{fd:QaU}{ps:BA}{ds:At}{dv:B1}{dw:B0}(a:A)(O:Qeo)(m:dg X.prog X.w X.K X.mg X.base QdK k f fd ps Qiw)(rm:Qdr)(hm:Qhf)(R:Qhg)(W:Binds X.K fd ps dv)(D:Vals dw dv)(hd:∀H ws,aB X.K CL H ds ws->aB X.K CL H Qcx (ws++dw))(V:Qaw)(h:Qt8)(P:Pre a)(hn:QbZ)(E:AD x)(he:Qaq)(hpl:QaE) :
  xf X CL b Qbo U (exc a) δ1:=λH Z Y ts vs S pins s I=>by
 have hA:GN X Qap Y H λus H1=>∃Z1,aC Z Z1/\bD X.K CL b H1 Z1 δ1 Y ts vs/\aB X.K CL H1 ds us:=h H Z Y ts vs _ S λus H1 Z1 i k1 d r=>#[Z1,i,d,r];refine rg (qX I V hm ?_ E);refine Iy (h₀:=X.base) I.ok.mod.vx R (d9 (Yp O hA pos pins s I) λus s1 zz=>?_) he hpl;obtain⟨ws,H1,g,r,Z1,i,d,z⟩:=zz;refine#[g.AX,?_];have l:qr X.K CL n arg Pre exc (ws++dw) H1 Qby (λcv _ H'=>cv=.ref QdZ/\∃Z',aC Z Z'/\bD X.K CL b H' Z' δ1 Y ts vs):=#[H1,a,.refl _,λ_ _ q _=>q,hd _ _ z,hn,P,d.N8,λH' Z' T ww t nw tp=>#[rfl,by
  obtain⟨Z2,o,S2⟩:=d.grown T d.zh ww t nw tp;exact#[Z2,i.trans o,S2]]]
 have j:Vals (ws++dw) (us++dv):=r.append D;have hl:=m.len _ _ _ _ l;rw[j.length]at hl;refine wpAny_call (codeAny_mono (m.run X.A X.stack s1 H1 #[us,[]] _ _ _ _ rm g.jG.Ll (W s1 us g.AX hl) j l) λy s' c=>?_);cases y with
 | error ev=>
  obtain⟨e1,C,a0,B,H',rfl,N,M,L,J,G,F,hC,Z',p,S'⟩:=c;cases hC;exact#[e1,a0,B,pins,Y,H1,s1,H',Z',rfl,#[g.jG,N,M,L,J,G,F],p,S']
 | ok fl=>
  cases fl with
  | ret u=>
   obtain⟨v,H',_,_,_,_,_,q⟩:=c;exact q.elim
  | next=>exact False.elim c
  | brk=>exact False.elim c
  | cont=>exact False.elim c
def al7{k n:Nat}{arg:Qah}{Pre:Qab}{exc:Qb0}(a:A)(d:Qeo)(F:Ql4)(j:Qaw)(h:Qhp)(g:Pre a)(hn:QbZ:=by rfl)
  (c:AD x:=by decide) (he:Qaq:=by exact bq rfl) (hpl:QaE:=by rfl) :
  xf X CL b Qbo U (exc a) δ1:=by
 obtain⟨f,fd,ps,m,hm,i,l⟩:=F.ex;exact VP a d m F.room hm i l .nil (λ_ ws r=>by rw[ko];exact r) j h g hn c he hpl
theorem xf.any{H Z:Hp}{Y:L2.St}{ts:Bz}{vs:B0}{Q:VK}(h:Qww)(S:Qhx):yK Qoj e Y H Q:=λpins s I=>
 me (h H Z Y ts vs S pins s I) (λ_ _ ⟨_,_,_,_,q⟩=>q.elim) λ_ _ z=>z
def RS{pos':Pos}(nd:QbH)(n:Qbt)(h:Qww)(hs:QdC:=by rfl):YP X CL b Qia U c δ1:=λH Z Y ts vs D S=>
 Kq (Nx NJ oa) (oH (Ri (X:=X.i4 Qqg) nd n.hi n.loc cQ hs n.hf) (h.any S))
theorem Vn.pin{p:BC}(h:Qa0):Vn Qd0 i x:=#[h.hi,h.hv,h.hd,h.jO]
theorem sT.pin{p:BC}{k n:Nat}{arg:Qah}{Pre:Qab}{exc:Qb0}(F:Ql4):sT Qd0 CL x k n arg Pre exc:=#[F.ex,F.room]
inductive Yq(X:Cx)(CL:BM)(c:Str):ET->CO->Prop
 | hit {x:Str} {Dd:Addr} {np pos:Pos} {b₀:Stmt} {suite:CO} {rest:ET}:Gl X x->X.mg x=some Qfn->exmOne X.K QgH Qfn=some true->QiE=false->Yq X CL c QkS (b₀::suite)
 | miss {x:Str} {Dd:Addr} {np pos:Pos} {b₀:Stmt} {suite st:CO} {rest:ET}:Gl X x->X.mg x=some Qfn->exmOne X.K QgH Qfn=some false->QiE=false->Yq X CL c rest st->Yq X CL c QkS st
theorem Yq.run{Q:Qmz}{E:BN}{hs:ET}{st:CO}{pins p:BC}{Y:L2.St}{H H':Hp}{s s':Qb}{e:Addr}{a0:Value}{B:Heap}(h:Yq X CL c hs st)(L:Lies Qd0 pins Y H s H' e (CL c) a0 B s')
  (k:∀s4,Lies Qd0 pins Y H s H' e (CL c) a0 B s4->wpAny Qr (X.hand e).A Qnv Q Qby s4):wpAny Qr X.A Ql8 Q E s':=by
 induction h generalizing s' with
 | hit h1 h2 b a=>exact RU (X:=X.pinned p) L h1 h2 b k a
 | miss h1 h2 b a _ d=>exact RU (X:=X.pinned p) L h1 h2 b (λs4 f=>d f k) a
theorem T2{body:CO}{h0:ExceptHandler}{hs:ET}{st:CO}(j:QhB)(t:QhC)(l:Qeo)(r:∀p,YP Qd0 CL b body U c δ1)(m:Yq X CL c (h0::hs) st)
  (k:∀e,c7 Qpj CL b st δ1 {D with nx:=λU2=>c7 X CL b fD U2 D}):c7 X CL b Qsj U D:=b8 λH Z Y ts vs E S M pins s I=>by
 refine wpAny_Try_except (me (r pins H Z Y ts vs {nx:=λ_ _=>False,rt:=λ_ _=>False} S [] s (I.aqx.i4 _)) (λf s1 z=>?_) λev s1 z=>?_)
 .cases f with
  | next=>obtain⟨_,_,_,q⟩:=z;exact q.elim
  | brk=>obtain⟨_,_,_,q⟩:=z;exact q.elim
  | cont=>obtain⟨_,_,_,q⟩:=z;exact q.elim
  | ret u=>obtain⟨_,_,_,_,_,q⟩:=z;exact q.elim
 .obtain⟨e,a0,B,w,Y',H1,s0,H',Z',rfl,L,h,n⟩:=z;refine at7 (X:=X.pinned pins) j t L λs3 L3=>m.run L3 λs4 o=>?_;have J:=(o.now.al6 I.ok).hand e;refine me (k e H' Z' Y' ts vs E n (M.mono h) pins s4 J) (λf s5 z=>?_) λ_ _ z=>by grind
  cases f with
  | next=>obtain⟨a,g,d,q⟩:=z;exact#[a,g,d.Ku I.ok,q]
  | brk=>obtain⟨a,g,d,q⟩:=z;exact#[a,g,d.Ku I.ok,q]
  | cont=>obtain⟨a,g,d,q⟩:=z;exact#[a,g,d.Ku I.ok,q]
  | ret u=>obtain⟨v,a,g,d,i,q⟩:=z;exact#[v,a,g,d.Ku I.ok,i,q]
theorem T1{body:CO}{h0:ExceptHandler}{hs:ET}(a:Qeo)(h:c7 X CL b body U {D with nx:=λU2=>c7 X CL b fD U2 D}):c7 X CL b Qsj U D:=b8 λH Z Y ts vs E S M pins s I=>by
 refine wpAny_Try_except (me (h H Z Y ts vs E S M pins s I) (λf s1 z=>?_) λev s1 z=>by rw[a]at z;exact z.elim);cases f with
 | next=>exact wpAny_execs_nil z
 | brk=>exact z
 | cont=>exact z
 | ret u=>exact z
end
end L3
namespace L2
open PySem PySem.Spec PyProof.Rows
structure TZ(K:Frag)(D:Addr):Prop where
 ga:findIn K Qfu "__getattribute__" = some (some (.builtin "BaseException.__getattribute__"))
 gn:findIn K Qfu "__getattr__" = some none
 hd:hasDictIn K D=true
 fi:findIn K Qfu "__class__" = some (some Qlx)
 sp:PySem.W.specialIn K Qlx "__get__" = some (some (.builtin "getset_descriptor.__get__"))
 tk:PySem.W.takesIn K Qlx=some true
 mr:mroIn K D (.type "object")=some true
 mb:mroIn K D (.type "BaseException")=some true
section
variable{s:Qb}{K:Frag}{D:Addr}
open PySem.W in
open PySem PySem.Calls PyProof.Rows Builtin Builtin.ObjectAttr Builtin.Getset_descriptor PySem.W PySem.Builtin.ObjectAttr in
theorem TZ.there(O:TZ K D):∃c d cd sl,K.lookup D=some #[c,d,.cls cd,sl]:=by
 obtain⟨cd,q,_⟩:=any_some O.hd;unfold PySem.W.clsIn at q;split at q
 .rename_i c d a sl e;exact#[c,d,a,sl,e]
 .cases q
end
end L2
namespace L3
open PySem PySem.Spec PyProof.Rows L2
section
variable{X:Cx}{CL:BM}{b:Bx}{U δ1:BB}{e:Expr}{fD:CO}{D:dI}{x:Str}{i:Nat}{pos:Pos}
theorem Ln.hand{a:Addr}(h:Qbt):Ln (X.hand a) i x:=#[#[h.hi,h.hv,h.hd,h.jO],h.loc,h.hf]
def TU{t:T}{pos':Pos}(nd:QbH)(n:Qbt)(h:QaX)(k:Qlr)(hl:QcY:=by exact i5 rfl)(hs:QdC:=by rfl) :
  c7 X CL b Qia U D:=b8 (RH i h k hl nd n.hi n.loc hs n.hf)
end
def abV(l q:Addr)(xs ys:Cc)(n m:Nat)(e:Db)(sq:DA)(i:Qqy)(b:xs.size<=sizeLine)(a:QvW) :
  PySem.Meets (Builtin.«list.extend» #[[.ref l,.ref q],[]]) (λ_ R s=>s.heap.get? l=some {cls:=.type "list",dict:=none,data:=.seq xs n,slots:=#[]}/\s.heap.get? q=some {cls:=.type "list",dict:=e,data:=.seq ys m,slots:=sq} ∧
   R QtC {s with heap:=s.heap.update l QsI,toks:=s.toks}):=
 PySem.Meets.of_wp λprog w A R s h=>by
  obtain⟨f,g,d,tk,os⟩:=s;obtain⟨hl,c,h⟩:=h;have f1:=AutoSeq1.idx_int;have k:=AutoSeq1.sub_list_list;have f4:=AutoSeq1.sub_tuple_list;have j:=AutoSeq1.sub_list_tuple;have hz:(xs++ys).size<=sizeLine+1:=by
   rw[Array.size_append];exact a
  wp_walk using QqO,wpAny_loadPart' hl,wpAny_loadPart' c
  exact#[_,rfl,h]
def RO(K:Frag):V->B0->Hp->VK->Prop:=λx vs H Q=>∃l q xs zs,x=.ref l/\vs=[.ref q]/\H l=some Qbp/\nF K H q zs/\xs.length+zs.length<=sizeLine/\Q .non Qyt
variable{X:Cx}
theorem agp:z6 X "list.extend" (RO X.K):=by
 intro pins s Y H x vs v us Q I d f h;obtain⟨l,q,xs,zs,rfl,rfl,b,m,hz,k⟩:=h;cases d;obtain⟨u,rfl,g⟩:=f.one;cases g;obtain⟨z,its,n,r,hl,e⟩:=I.G2 b;obtain⟨c,a,⟨⟨y,d2,o,s2⟩,i,e2,t,_,hd2⟩,w⟩:=I.list m;cases t;cases hd2;have j:=a.length;have hsz:its.toArray.size+c.toArray.size<=sizeLine:=by grind
 have p:¬ (!its.toArray.isEmpty&&Builtin.List.listTooLong QrJ)=true:=by
  rw[DY hsz,wz];decide
 refine ue F.slot_list_extend #[_,e,rfl] F.entry_list_extend Qs0 (abV l q _ _ n i d2 s2 p WE We) #[e,e2,?_];refine#[.non,_,I.Ha b e Wp (r.append a) ?_,rfl,k];simp_all
variable{i:Nat}{x:Str}
theorem Ln.pin{p:BC}(h:Qbt):Ln Qd0 i x:=#[#[h.hi,h.hv,h.hd,h.jO],h.loc,h.hf]
inductive AQ where
 | ix (j:Nat)|fld (f:Str)|key (k:CU)
noncomputable def Ei{α:Type}(k:CU)(t:α):List QgE->List QgE
 | []=>[]
 | (x,u)::r=>if x=k then(x,t)::r else(x,u)::Ei k t r
noncomputable def T.core:T->T
 | .pin _ t=>t
 | t=>t
noncomputable def T.Kw:T->T->T
 | .pin y _,u=>.pin y u
 | _,u=>u
def T.OG:AQ->T->Option T
 | .ix j,.lst ts=>ts[j]?
 | .ix j,.tup ts=>ts[j]?
 | .fld f,.ins _ fs=>fs.lookup f
 | .key k,.dct kvs=>iN kvs k
 | _,_=>none
def T.R9:AQ->T->T->T
 | .ix j,.lst ts,u=>.lst (ts.set j u)
 | .ix j,.tup ts,u=>.tup (ts.set j u)
 | .fld f,.ins c fs,u=>.ins c (nR f u fs)
 | .key k,.dct kvs,u=>.dct (Ei k u kvs)
 | _,t,_=>t
def T.jX:List AQ->T->Option T
 | [],t=>some t.core
 | s::p,t=>(t.core.OG s).bind (T.jX p)
def T.je:List AQ->T->T->T
 | [],u,t=>t.Kw u
 | s::p,u,t=>match t.core.OG s with
  | some k=>t.Kw (t.core.R9 s (T.je p u k))
  | none=>t
def rp(H:Hp)(v:V):AQ->V->Prop
 | .ix j,w=>∃a us,v=.ref a/\(H a=some Qff\/H a=some Qmn)/\us[j]? = some w
 | .fld f,w=>∃a C dx gs,v=.ref a/\H a=some (.ins C dx gs)/\gs.lookup f=some w
 | .key k,w=>∃a gs,v=.ref a/\(∃en,H a=some QbD)/\ji gs k=some w
def C8(H:Hp):V->List AQ->V->Prop
 | v,[],w=>v=w
 | v,s::p,w=>∃u,rp H v s u/\C8 H u p w
variable{H:Hp}{s:AQ}
theorem rp.mono{H':Hp}(e:QcX){v w:V}(h:rp H v s w):rp H' v s w:=by
 cases s with
 | ix j=>obtain⟨a,us,h1,h2,b⟩:=h;exact#[a,us,h1,h2.imp (e _ _) (e _ _),b]
 | fld f=>obtain⟨a,C,dx,gs,h1,h2,b⟩:=h;exact#[a,C,dx,gs,h1,e _ _ h2,b]
 | key k=>obtain⟨a,gs,h1,h2,b⟩:=h;exact#[a,gs,h1,h2.imp λ_ q=>e _ _ q,b]
theorem rp.inj{v w d:V}(h:rp H v s w)(q:rp H v s d):w=d:=by
 cases s with
 | ix j=>
  obtain⟨a,us,h1,h2,i⟩:=h;obtain⟨l,n,q1,b,g⟩:=q;subst h1;cases q1;have e:us=n:=by
   obtain h2|h2:=h2<;>obtain b|b:=b<;>rw[h2]at b<;>cases b<;>rfl
  simp_all
 | fld f=>
  obtain⟨a,C,dx,gs,h1,h2,i⟩:=h;obtain⟨l,o,m,c,q1,b,g⟩:=q;grind
 | key k=>
  obtain⟨a,gs,h1,⟨_,h2⟩,i⟩:=h;obtain⟨l,c,q1,⟨_,b⟩,g⟩:=q;simp_all
theorem C8.mono{H H':Hp}(e:QcX):∀{p:QcG} {v w:V},C8 H v p w->C8 H' v p w
 | [],_,_,h=>h
 | _::_,_,_,⟨u,h,q⟩=>#[u,h.mono e,C8.mono e q]
theorem C8.inj{H:Hp}:∀{p:QcG} {v w a:V},C8 H v p w->C8 H v p a->w=a
 | [],_,_,_,h,q=>h.symm.trans q
 | _::_,_,_,_,⟨_,h1,h2⟩,⟨_,q1,b⟩=>by
  have:=h1.inj q1;subst this;exact C8.inj h2 b
theorem C8.snoc{H:Hp}{s:AQ}:∀{p:QcG} {v w z:V},C8 H v p w->rp H w s z->C8 H v (p++[s]) z
 | [],_,_,z,h,q=>by
  have h':=h;subst h';exact#[z,q,rfl]
 | _::_,_,_,_,⟨u,h1,h2⟩,q=>#[u,h1,C8.snoc h2 q]
variable{K:Frag}{CL:BM}{b:Bx}{H' Z Z':Hp}{U:BB}{Y:L2.St}{ts tl:Bz}{vs us:B0}{t u t0:T}{v v0 w:V}{fp:BY}{p:QcG}
theorem bO.Sb(h:Qhm):bO K CL H Z t.core v fp/\∀{H' Z':Hp} {u:T} {g:BY},bO K CL H' Z' u v g->bO K CL H' Z' (t.Kw u) v g:=by
 cases h with
 | pin r=>exact#[r,.pin]
 | sh r=>exact#[.sh r,λq=>q]
 | tup r q=>exact#[.tup r q,λq=>q]
 | lst r q=>exact#[.lst r q,λq=>q]
 | ins r q=>exact#[.ins r q,λq=>q]
 | kT r q=>exact#[.kT r q,λq=>q]
 | dct r q=>exact#[.dct r q,λq=>q]
 | lH r q p=>exact#[.lH r q p,λq=>q]
theorem cS.at{f:Str}:∀(fs:BS) {gs:CA} {fp:BY},cS K CL H Z fs gs fp->fs.lookup f=some t->∃w f1 f2 c,gs.lookup f=some w/\fp=f1++(f2++c)/\bO K CL H Z t w f2 ∧
  ∀{H':Hp} {t':T} {g:BY},(∀a∈f1++c,H' a=H a)->bO K CL H' Z t' w g->cS K CL H' Z (nR f t' fs) gs (f1++(g++c)):=by
 intro fs
 induction fs with
 | nil=>intro gs fp h e;cases e
 | cons p fs k=>
  obtain⟨x,t0⟩:=p;intro gs fp h e;cases h with
  | @cons _ _ v _ vs f0 g0 r rs=>
   rw[mx]at e;cases b:f==x with
   | true=>
    rw[b]at e;cases e;have i:=(si.1 b).symm;refine#[v,[],f0,g0,by rw[mx,b],rfl,r,λ{H' t' g} kk d=>?_];rw[nR,cq i];exact cS.cons (fp:=g) d (rs.mono QA λa j=>kk a (‹_›))
   | false=>
    rw[b]at e;obtain⟨w,f1,f2,c,h1,h2,m,l⟩:=k rs e;subst h2;refine#[w,f0++f1,f2,c,by rw[mx,b];exact h1,Wp,m,λ{H' t' g} kk d=>?_];rw[nR,bW (λz=>by grind),ka];exact .cons (r.mono QA λa j=>kk a WE) (l (λa j=>kk a (by rw[ka];exact jN _ j)) d)
theorem dH.OG{k:CU}{kvs:CC}{gs:B2}(h:QhA)(c:iN kvs k=some t) :
  ∃v f1 f2 b,ji gs k=some v/\fp=f1++(f2++b)/\bO K CL H Z t v f2 ∧
   ∀{H':Hp} {t':T} {g:BY},(∀a∈f1++b,H' a=H a)->bO K CL H' Z t' v g->dH K CL H' Z (Ei k t' kvs) gs QoV:=by
 refine dH.ind (P:=λkvs gs fp=>iN kvs k=some t->∃v f1 f2 b,ji gs k=some v/\fp=f1++(f2++b)/\bO K CL H Z t v f2 ∧
   ∀{H':Hp} {t':T} {g:BY},(∀a∈f1++b,H' a=H a)->bO K CL H' Z t' v g->dH K CL H' Z (Ei k t' kvs) gs QoV) (λe=>by cases e) (λ{x t0 v0 ts vs fp gp} r f i c=>?_) h c
 by_cases e:x=k
 .rw[lZ e]at c;cases c;refine#[v0,[],fp,gp,qw e,rfl,r,λ{H' t' g} d q=>?_];rw[Ei,cq e];exact(show dH K CL H' Z _ _ (g++gp) from .cons q (f.mono QA d))
 .rw[kB e]at c;obtain⟨v,f1,f2,b,h1,h2,m,l⟩:=i c;refine#[v,_,f2,b,by rw[nL e];exact h1,by rw[h2,ka],m,λ{H' t' g} d q=>?_];rw[Ei,bW e,ka];exact .cons (r.mono QA λa j=>d a WE) (l (λa j=>d a (by rw[ka];grind)) q)
theorem bO.OG{k:T}(zh:QfW)(h:Qhm)(i:t.OG s=some k):∃w f1 f2 d,rp H v s w/\fp=f1++(f2++d)/\bO K CL H Z k w f2 ∧
  ∀{H':Hp} {k':T} {g:BY},(∀c∈f1++d,H' c=H c)->bO K CL H' Z k' w g->bO K CL H' Z (t.R9 s k') v QjK:=by
 cases s with
 | ix j=>
  cases h with
  | @lst a us ts g b rs=>
   obtain⟨w,f1,f2,d,h1,h2,m,l⟩:=rs.at i;subst h2;refine#[w,a::f1,f2,d,#[a,us,rfl,.inl b,h1],rfl,m,λ{H' k' g} kk e=>?_];have q:=l QlV e;rw[jk h1]at q;exact .lst ((kk a iB).trans b) q
  | @tup a us ts g b rs=>
   obtain⟨w,f1,f2,d,h1,h2,m,l⟩:=rs.at i;subst h2;refine#[w,f1,f2,d,#[a,us,rfl,.inr (zh _ _ b),h1],rfl,m,λ{H' k' g} kk e=>?_];have q:=l kk e;rw[jk h1]at q;exact .tup b q
  | _=>cases i
 | fld f=>
  cases h with
  | @ins a dx c gs fs g b rs=>
   obtain⟨w,f1,f2,d,h1,h2,m,l⟩:=cS.at fs rs i;subst h2;refine#[w,a::f1,f2,d,#[a,_,dx,gs,rfl,b,h1],rfl,m,λ{H' k' g} kk e=>?_];exact .ins ((kk a iB).trans b) (l QlV e)
  | _=>cases i
 | key x=>
  cases h with
  | @dct a gs kvs g en b rs=>
   obtain⟨w,f1,f2,d,h1,h2,m,l⟩:=rs.OG i;subst h2;refine#[w,a::f1,f2,d,#[a,gs,rfl,#[_,b],h1],rfl,m,λ{H' k' g} kk e=>?_];exact .dct ((kk a iB).trans b) (l QlV e)
  | _=>cases i
theorem bO.focus(zh:QfW):∀(p:QcG) {t u:T} {v:V} {fp:BY},bO K CL H Z t v fp->T.jX p t=some u->∃w f1 f2 a,C8 H v p w/\fp=f1++(f2++a)/\bO K CL H Z u w f2 ∧
  ∀{H':Hp} {b:T} {g:BY},(∀c∈f1++a,H' c=H c)->bO K CL H' Z b w g->bO K CL H' Z (T.je p b t) v (f1++(g++a))
 | [],t,u,v,fp,h,e=>by
  obtain⟨h1,h2⟩:=h.Sb;cases e;exact#[v,[],fp,[],rfl,Wp,h1,λ{H' b g} _ r=>by rw[ko];exact h2 r]
 | s::p,t,u,v,fp,h,e=>by
  obtain⟨h1,h2⟩:=h.Sb;rw[T.jX]at e;cases d:t.core.OG s with
  | none=>rw[d]at e;cases e
  | some k=>
   rw[d]at e;obtain⟨f,a1,a2,a3,q1,y,x,o⟩:=h1.OG zh d;obtain⟨w,f1,f2,a,m,l,j,i⟩:=bO.focus zh p x e;subst y l;refine#[w,a1++f1,f2,a++a3,#[f,q1,m],Wp,j,λ{H' b g} kk n=>?_];rw[T.je,d];have q:=h2 (o Qwx (i Qwx n));simpa [List.append_assoc] using q
theorem bD.A9(S:QaA)(ev:Y[i]? = some QcC)(hi:U[i]? = some Qb9)(N:QoC)(G:Qeq):∃f2 gp,bO K CL H Z u w f2/\aU K CL H Z ts vs gp/\(f2++gp).Nodup ∧
  ∀{a:Addr} {o:HO} {y:T} {j:Bz} {C:B0} {g l:BY},w=.ref a->a∈f2->jH o=false->bO K CL QbC Z y w g->aU K CL QbC Z j C l->(g++l).Nodup->(∀c∈g++l,c∈f2++gp) →
   bD K CL b QbC Z (U.set i (some (T.je p y t0))) Y j C:=by
 obtain⟨fp,gp,e,r,nd,k⟩:=S.rep;obtain⟨v1,e1,e2,s,hv,F,rt,put,_⟩:=e.get hi;rw[ev]at hv;cases hv;obtain⟨O,f1,f2,q,at',hf,I,put2⟩:=rt.focus S.zh p N;have hw:=at'.inj G;subst hw;subst hf;subst F;have n:((e1++((f1++(f2++q))++s))++gp).Perm ((e1++Qo0)++(f2++gp)):=u4.2 λc=>by
  simp only[wd];lia
 have A:=n.nodup_iff.1 nd;have x:=ma.1 A;refine#[f2,gp,I,r,x.2.1,λ{a o y j C g l} J E hm L M B v=>?_];have m:∀c∈e1++Qo0,upd H a o c=H c:=λc f=>ay λz=>x.2.2 c f a (kq _ E) z;have q1:=put2 (H':=upd H a o) (λc f=>m c (by
  obtain h|h:=i8.1 f
  .simp[h]
  .simp[h])) L
 have D:=put (H':=upd H a o) QA (λc f=>m c (by
  obtain h|h:=i8.1 f
  .simp[h]
  .simp[h])) q1
 rw[jk ev]at D;have t:((e1++((f1++(g++q))++s))++l).Perm ((e1++Qo0)++(g++l)):=u4.2 λc=>by
  simp only[wd];lia
 refine S.TK hm k (by simp[E]) D M (t.nodup_iff.2 (ma.2 #[x.1,B,λc f d hd=>x.2.2 c f d (v d hd)])) λc f=>?_;refine n.mem_iff.2 ?_;obtain h|h:=i8.1 (t.mem_iff.1 f)
 .exact kq _ h
 .exact jN _ (v c h)
theorem bD.Yr(S:QaA)(ev:Y[i]? = some QcC)(hi:U[i]? = some Qb9)(d:QoC):∃w f2,C8 H v0 p w/\bO K CL H Z u w f2:=by
 obtain⟨fp,gp,e,r,nd,k⟩:=S.rep;obtain⟨v1,e1,e2,h,hv,f,rt,put,_⟩:=e.get hi;rw[ev]at hv;cases hv;obtain⟨a,f1,f2,g,at',hf,c,put2⟩:=rt.focus S.zh p d;exact#[a,f2,at',c]
theorem bD.agr(S:Qci)(ev:Y[i]? = some QcC)(hi:U[i]? = some Qb9)(m:Qni)(h:Qeq) :
  ∃a us,w=.ref a/\H a=some Qff/\us.length=tl.length/\bD K CL b Qtv Z (U.set i (some (T.je p Qqc t0))) Y ts vs:=by
 obtain⟨f2,gp,j,k,nd,go⟩:=S.A9 ev hi m h;obtain⟨a,us,g,rfl,rfl,n,rs⟩:=j.iM;cases k with
 | @cons _ _ _ _ f e q1 l=>
  have ne:∀c∈g++Qdp,c≠a:=λc d z=>by subst z;simp_all
  have pm:(QxP++e).Perm ((a::g)++Qdp):=u4.2 λc=>by simp
  exact#[a,us,rfl,n,rs.length.symm,go rfl iB rfl (.lst aO (aU.app (rs.mono QA λc d=>ay (ne c (by simp[d]))) (.cons (q1.mono QA λc d=>ay (ne c (by simp[d]))) .nil)))
   (l.mono QA λc d=>ay (ne c (by simp[d]))) Qmq λc d=>pm.mem_iff.1 d]
theorem bD.abW{ds:At}(S:QaA)(j:Qoa)(ev:Y[i]? = some QcC)(hi:U[i]? = some Qb9)(k:Qni)(e:Qeq) :
  ∃a ws,w=.ref a/\H a=some (.lst ws)/\ws.length=tl.length/\bD K CL b (upd H a (.lst (ws++us))) Z (U.set i (some (T.je p Qt9 t0))) Y ts vs:=by
 obtain⟨f2,gp,f,h,nd,go⟩:=S.A9 ev hi k e;obtain⟨a,ws,g,rfl,rfl,l,rs⟩:=f.iM;have ne:∀c∈g++gp,c≠a:=λc d z=>by subst z;simp_all
 exact#[a,ws,rfl,l,rs.length.symm,go rfl iB rfl (.lst aO (aU.app (rs.mono QA λc d=>ay (ne c (by simp[d]))) (aU.JJ j)))
  (h.mono QA λc d=>ay (ne c (by simp[d]))) (by rw[ko];exact nd) λc d=>by rw[ko]at d;exact d]
variable{j:Nat}
theorem bD.al8(S:Qci)(ev:Y[i]? = some QcC)(hi:U[i]? = some Qb9)(q:Qni)(l:Qeq)(r:j<tl.length) :
  ∃a us,w=.ref a/\H a=some Qff/\us.length=tl.length/\bD K CL b (upd H a (.lst (us.set j v))) Z (U.set i (some (T.je p Qvw t0))) Y ts vs:=by
 obtain⟨f2,gp,m,n,nd,go⟩:=S.A9 ev hi q l;obtain⟨a,us,g,rfl,rfl,s,rs⟩:=m.iM;cases n with
 | @cons _ _ _ _ f e q1 o=>
  obtain⟨w0,g1,g2,g3,h1,h2,x,u⟩:=rs.at (kA r);subst h2;have ne:∀c∈(g1++(g2++g3))++Qdp,c≠a:=λc d z=>by subst z;simp_all
  have k:((a::(g1++g3))++Qdp).Sublist ((a::(g1++(g2++g3)))++Qdp):=by simp
  have pm:((a::(g1++(f++g3)))++e).Perm ((a::(g1++g3))++Qdp):=u4.2 λc=>by simp[wd,List.count_cons];lia
  exact#[a,us,rfl,s,rs.length.symm,go rfl iB rfl (.lst aO (u (λc d=>ay (ne c (by
    obtain h|h:=i8.1 d
    .simp[h]
    .simp[h]))) (q1.mono QA λc d=>ay (ne c (by simp[d])))))
   (o.mono QA λc d=>ay (ne c (by simp[d]))) (pm.nodup_iff.2 (nd.sublist k)) λc d=>k.subset Qv0]
theorem bD.IJ{c f:Str}{fs:BS}(S:Qci)(ev:Y[i]? = some QcC)(hi:U[i]? = some Qb9)(q:T.jX p t0=some Qa3)(l:Qeq) :
  ∃a dx gs,w=.ref a/\H a=some QeT/\gs.length=fs.length/\bD K CL b (upd H a QlJ) Z (U.set i (some (T.je p (.ins c Qpb) t0))) Y ts vs:=by
 obtain⟨f2,gp,m,n,nd,go⟩:=S.A9 ev hi q l;obtain⟨a,dx,gs,g,rfl,rfl,r,rs⟩:=m.D0;cases n with
 | @cons _ _ _ _ h e q1 o=>
  have ne:∀c∈g++(h++e),c≠a:=λc d z=>by subst z;exact(ml.1 nd).1 d
  obtain⟨u,k,h1,h2,s⟩:=cS.put (f:=f) (q1.mono (H':=upd H a QlJ) QA λc d=>ay (ne c (by simp[d]))) (rs.mono (H':=upd H a QlJ) QA λc d=>ay (ne c (by simp[d])));have j:((a::k)++(h++e)).Sublist ((a::g)++(h++e)):=pv (List.Sublist.cons₂ _ h2) (n3 _);have pm:((a::u)++e).Perm ((a::k)++(h++e)):=((s.cons a).append_right e).trans (u4.2 λc=>by simp only[wd,List.count_cons];lia);exact#[a,dx,gs,rfl,r,rs.length.symm,go rfl iB rfl (.ins aO h1) (o.mono QA λc d=>ay (ne c (by simp[d]))) (pm.nodup_iff.2 (nd.sublist j)) λc d=>j.subset Qv0]
theorem bD.aqz(S:QaA)(ev:Y[i]? = some QcC)(hi:U[i]? = some Qb9)(l:QoC)(h:Qeq):bD K CL b H Z (U.set i (some (T.je p Qpk t0))) Y (u::ts) (w::vs):=by
 obtain⟨fp,gp,e,r,nd,k⟩:=S.rep;obtain⟨v1,e1,e2,f,hv,g,rt,put,_⟩:=e.get hi;rw[ev]at hv;cases hv;obtain⟨n,f1,f2,d,at',hf,j,put2⟩:=rt.focus S.zh p l;have hw:=at'.inj h;subst hw;subst hf;subst g;have a:=put QA Qcs (put2 Qcs (.sh (.any _)));rw[jk ev]at a;have pm:((e1++((f1++([]++d))++f))++(f2++gp)).Perm ((e1++(Qfa++f))++gp):=u4.2 λc=>by simp[wd,List.count_nil];lia
 exact#[#[_,_,a,.cons j r,pm.nodup_iff.2 nd,λc m=>k c (pm.mem_iff.1 m)],S.bh,S.zz,S.zh,S.new,S.tp,S.tab]
section
variable{δ1:BB}{e e0 e2:Expr}{t1:T}{tl0:Bz}{d:L3.D}{D:dI}{pos pa pb ps:Pos}{c f:Str}{fD:CO}{fs:BS}
def Ys(X:Cx)(CL:BM)(b:Bx)(e:Expr)(U:BB)(i:Nat)(p:QcG):Prop:=
 ∀(H Z:Hp) (Y:L2.St) (ts:Bz) (vs:B0) (Q:VK),bD X.K CL b H Z U Y ts vs->(∀v0 v H' Z',aC Z Z'->aC H H'->bD X.K CL b H' Z' U Y ts vs->Y[i]? = some QcC->C8 H' v0 p v->Q v H')->yK X e Y H Q
def cO(n:Qa0)(h:U[i]? = some QaK):Ys X CL b QaD U i []:=λH Z Y ts vs Q S k=>by
 obtain⟨v,hv,_⟩:=S.look h;exact cC QeE #[v,hv,k v v H Z QA QA S hv rfl]
def f6(o:QfV)(n:Qhu)(h:QhD)(hi:U[i]? = some QaK)(m:T.jX p t=some Qa3)(hl:fs.lookup f=some u)(q:QkB:=by rfl) :
  Ys X CL b Qgo U i (p++[.fld f]):=λH Z Y ts vs Q S k=>
 cC (Ro cQ q) (h H Z Y ts vs _ S λv0 v H' Z' z s l ev d=>by
  obtain⟨w,f2,at',r⟩:=l.Yr ev hi m;have:=at'.inj d;subst this;obtain⟨a,dx,gs,g,rfl,rfl,j,rs⟩:=r.D0;obtain⟨w,_,_,_,hw,_,_,_⟩:=cS.at fs rs hl;exact#[a,CL c,dx,gs,w,rfl,j,o,n,hw,k v0 w H' Z' z s l ev (d.snoc #[a,_,dx,gs,rfl,j,hw])])
def VQ(h:QhD)(hi:U[i]? = some QaK)(f:T.jX p t=some Qbb):bU X CL b e U Qbb U:=λH Z Y ts vs Q S k=>
 h H Z Y ts vs _ S λv0 v H' Z' z s a ev c=>by
  obtain⟨w,f2,at',r⟩:=a.Yr ev hi f;have:=at'.inj c;subst this;replace r:=r.Gz;obtain⟨rfl,r⟩:=r;exact k _ H' Z' z s (a.push r)
def ju(h:QhD)(hi:U[i]? = some QaK)(f:T.jX p t=some u)(hd:u.fC=d):cN X CL b e U d U:=λH Z Y ts vs Q S k=>
 h H Z Y ts vs _ S λv0 v H' Z' z s a ev c=>by
  obtain⟨w,f2,at',r⟩:=a.Yr ev hi f;have:=at'.inj c;subst this;subst hd;exact k _ H' Z' z s a (r.fC a.zh λ_ _=>rfl)
noncomputable def VR(h:QhD)(hi:U[i]? = some QaK)(c:T.jX p t=some u):bU X CL b e U u (U.set i (some (T.je p Qpk t))):=λH Z Y ts vs Q S k=>
 h H Z Y ts vs _ S λv0 v H' Z' z s d ev a=>k v H' Z' z s (d.aqz ev hi c a)
def Kx(q:Qxc)(h0:U[i]? = some Qb9)(d:T.jX p t0=some (.lst tl0))(h:QaX)(h1:δ1[i]? = some QgW)(x:T.jX p t1=some QeU)(hl:Qnu)(k:c7 X CL b fD (δ1.set i (some (T.je p Qqc t1))) D)
  (n:attributeBase e0 "append" X.env QxQ=eval e0 X.env:=by rfl)
  (C:Qhq:=by rfl)
  (c:Qhr:=by rfl) (hs:Qaz:=by exact bq rfl) (A:swapsWith QqW none pos.line X.env=pure false:=by rfl) :
  c7 X CL b (.Expr QqW pos::fD) U D:=b8 λH Z Y ts vs E S M=>
 oH (yz (NW y3 MW MU vv cQ QaQ n C c hs rfl) A) (q H Z Y ts vs _ S λv0 v B u m s0 j ev g=>by
  obtain⟨w,f2,at',r⟩:=j.Yr ev h0 d;have:=at'.inj g;subst this;refine#[?_,h B u Y ts vs _ j λv2 H1 Z1 l k1 z=>?_]
  .obtain⟨_,_,_,rfl,rfl,f,_⟩:=r.iM;exact .inl #[rfl,_,nF.of f]
  .obtain⟨a,us,s,f,o,y⟩:=z.agr ev h1 x (g.mono k1);exact#[a,us,v2,s,rfl,f,by rw[o];exact oI hl Wl,M.nx _ Y _ Z1 (m.trans l) y k])
def Se{z:Int}(h:QaX)(r:QmY)(h2:cN X CL b e2 δ1 (.int z) δ1)(h1:δ1[i]? = some QgW)(x:T.jX p t1=some QeU)(d:oo tl.length z=some j)(kk:c7 X CL b fD (δ1.set i (some (T.je p Qvw t1))) D)
  (q:∀v,assign QqA X.env v=(do
   let I ← holding [v] QxQ
   let iv ← holding [v,I] (eval e2 X.env)
   standAt ps
   holding [v,I,iv] (setItem I iv v)
   release [v,I,iv] []):=by intro _;rfl)
  (hs:swapsWithSole [.Subscript e0 e2 ps] e pos.line X.env=pure false:=by rfl) (hw:swappedStores [.Subscript e0 e2 ps] e X.env=pure none:=by rfl) (c:(assignEach [.Subscript e0 e2 ps] X.env).map (·.2)=[assign QqA X.env]:=by rfl) :
  c7 X CL b Qlf U D:=by
 refine b8 λH Z Y ts vs E S M=>oH (akL cQ (akK cQ cQ set_list q) hs hw c) (h H Z Y ts vs _ S λv H1 Z1 k k1 C=>?_);have o:=(JM d).2.1;refine r H1 Z1 Y _ _ _ C λv0 w H2 Z2 g k2 B ev l=>h2 H2 Z2 Y _ _ _ B λv2 F Z3 f k3 A m=>?_;obtain⟨a,us,s,u,n,y⟩:=A.al8 ev h1 x (l.mono k3) o;exact#[a,us,z,j,s,m.sc rfl,u,n▸d,M.nx _ Y _ Z3 (k.trans QjV) y kk]
end
theorem cS.none{m:Str}:∀{fs:BS} {gs:CA} {fp:BY},cS K CL H Z fs gs fp->fs.lookup m=none->gs.lookup m=none:=by
 intro fs
 induction fs with
 | nil=>intro gs fp r _;cases r;rfl
 | cons p fs a=>
  intro gs fp r h;cases r with
  | cons q r=>
   rw[mx]at h ⊢;split at h
   .cases h
   .exact a r h
section
variable{δ1:BB}{e o:Expr}{es:Cf}{pos pp apos:Pos}{c m:Str}{is:Ch}{fx:QpF}{al:BY->Bz}{y:Addr}{fs:BS}{A:Type}{k n:Nat}{f:Addr}{fd:QaU}{ps:BA}{arg:Qbu}{Pre:Qab}{res:QaV}{out:Qbu}
theorem Yt{H1 Z1:Hp}{al:Bz}{ys:BY}{ns:Bz}{Q:VK}{E:XK}(a:A)(l:arg a=al)(k:QbZ)(y:Pre a)(f:res a=t)(h:II QfD ys ns)(G:JE Y is ys)(j:∀i∈is,i<δ1.length)(B:us.length=al.length)
  (o:bD X.K CL b H1 Z1 δ1 Y (al.reverse++ts) QdL) (kk:∀v H' Z',aC Z1 Z'->bD X.K CL b H' Z' (x2 δ1 is ns) Y Qcb QaY->Q v H'):vu X.K CL n arg Pre res out us H1 Q E:=by
 obtain⟨g,r,nd,m⟩:=o.cut WE;obtain⟨s,p,pm⟩:=r.rev;have D:rE H1 g=rE H1 s:=funext λc=>by
  by_cases d:c∈g
  .rw[rG d,rG Qvx]
  .rw[ku d,ku QrM]
 rw[D]at m;rw[<- l]at p;refine#[Z1,a,s,m.zh,o.tp,p,pm.nodup_iff.2 nd,k,y,o.N7,λv H' W' fp C ww x nw tp rt F own=>?_];cases rt with
 | @cons _ _ _ _ f1 f2 q1 q=>
  have e:(f2++(f1++[])).Perm Qkk:=by rw[ko];exact nh
  have w:=m.aqn C ww x nw tp (aU.app q (.cons q1 .nil)) (e.nodup_iff.2 F) λc d=>own c (e.mem_iff.1 d);rw[ka,ka]at w;have u:=w.atU q.length G h j;rw[f]at u;exact kk v H' W' ww u
inductive Recv(U:BB)(i:Nat)(c:Str)(fs:BS):QgO->Prop where
 | own:U[i]? = some (some Qa3)->Recv U i c fs Qji
 | pin {y:Addr}:U[i]? = some (some (.pin y Qa3))->Recv U i c fs (λz=>z=y)
theorem bD.recv{g:QgO}(S:Qhx)(h:Qjn):∃y dx gs,g y/\Y[i]? = some QnJ/\H y=some QeT/\(∀m,fs.lookup m=none->gs.lookup m=none)/\bD X.K CL b H Z QdO Y (.pin y Qa3::ts) (.ref y::vs):=by
 cases h with
 | own h=>
  obtain⟨v,e,k⟩:=S.move h;obtain⟨y,rfl,f⟩:=k.alR rfl;obtain⟨fp,gp,_,r,_,_⟩:=f.rep;cases r with
  | cons r _=>
   replace r:=r.Rz;obtain⟨a,r⟩:=r;cases a;obtain⟨_,_,_,_,a,d,j,rs⟩:=r.D0;cases a;cases d;exact#[y,_,_,trivial,e,j,λm hm=>rs.none hm,f]
 | @pin y h=>
  obtain⟨v,e,f⟩:=S.move h;obtain⟨fp,gp,_,r,_,_⟩:=f.rep;cases r with
  | cons r _=>
   replace r:=r.Rz;obtain⟨rfl,r⟩:=r;obtain⟨_,_,_,_,a,d,j,rs⟩:=r.D0;cases a;cases d;exact#[y,_,_,rfl,e,j,λm hm=>rs.none hm,f]
theorem abX{pl:Qhc}{g:QgO}(a:Addr->BY->A)(ns:Bz)(L:QfV)(hm:Meth X.K (CL c) m f)(F:dg X.prog X.w X.K X.mg X.base oG k f fd ps Qsr)(u:Qdr)(B:Qho)
  (nm:Qa0) (hi:Qjn) (hf:Qhe) (h:YU X CL b Qap QdO is fx al δ1)
  (C:∀y ys,g y->ys.length=is.length->fx ys->arg Qg2=.pin y Qa3::al ys/\(arg Qg2).length=n/\Pre Qg2/\res Qg2=t/\II (out Qg2) (y::ys) ns) (o:∀j∈i::is,j<δ1.length)
  (he:Qaq:=by exact bq rfl) (hpl:QaE:=by rfl)
  (s:eval Qex X.env=(do
   let I ← eval QaW X.env
   standAt apos.atName
   let (f,first) ← holding [I] Qi3
   callWith pos f first (backTo pos QeJ) QdE):=by rfl) :
  R1 X CL b Qex U t (x2 δ1 (i::is) ns):=λH Z Y ts vs Q S kk=>by
 obtain⟨y,dx,gs,r,ev,D,hn,M⟩:=S.recv hi;refine cC (JK QlI L hm F u B .nil Cg JW he hpl s) #[_,ev,y,dx,gs,rfl,D,hn m hf,h H Z Y _ _ _ M λys us H1 Z1 d O p l q k1 P=>?_];obtain⟨h1,h2,J,G,E⟩:=C y ys r d p;refine Yt (is:=i::is) _ h1 h2 J G E #[ev,O] o (by simp[l]) ?_ λv H' Z' z N=>kk v H' Z' (q.trans z) N;simp_all
structure JA(X:Cx)(CL:BM)(c m:Str)(k n:Nat){A:Type}(arg:Qbu)(Pre:Qab)(res:QaV)(out:Qbu):Prop where
 ex:∃f fd ps,Meth X.K (CL c) m f/\dg X.prog X.w X.K X.mg X.base oG k f fd ps Qsr/\Binds X.K fd ps []
 room:fc k X.A
 cls:yG X.K (CL c)
theorem qM{pl:Qhc}{g:QgO}{dl:At}(a:Addr->A)(l:T)(F:JA X CL c m k n arg Pre res out)(nm:Qa0)(hi:Qjn)(h:Qrn)(v:∀y,g y->Pre (a y))(p:∀y,g y->res (a y)=t)(o:∀y,g y->II (out (a y)) [y] [l])
  (hf:Qhe:=by rfl) (q:∀y,g y->arg (a y)=.pin y Qa3::dl.map T.sh:=by intros;rfl) (hlen:∀y,(arg (a y)).length=n:=by intros;rfl) (w:QcY:=by exact i5 rfl)
  (he:Qaq:=by exact bq rfl) (hpl:QaE:=by rfl)
  (u:eval Qex X.env=(do
   let I ← eval QaW X.env
   standAt apos.atName
   let (f,first) ← holding [I] Qi3
   callWith pos f first (backTo pos QeJ) QdE):=by rfl) :
  R1 X CL b Qex U t (δ1.set i (some l)):=by
 obtain⟨⟨f,fd,ps,M,G,bd⟩,r,B⟩:=F;have h':YU X CL b _ _ [] Qji (λ_=>dl.map T.sh) δ1:=λH Z Y ts vs Q S k=>h H Z Y ts vs Q S λus H' Z' hl z s C=>k [] us H' Z' rfl trivial trivial hl z s C;exact abX (λy _=>a y) [l] B M G r bd nm hi hf h' (λy ys d hl _=>by
  cases Me.1 hl;exact#[q y d,hlen y,v y d,p y d,o y d]) (λj D=>by simp_all) he hpl u
end
theorem mQ.none{m:Str}:∀{fs:EQ} {gs:CA},mQ K CL Z fs gs->fs.lookup m=none->gs.lookup m=none:=by
 intro fs
 induction fs with
 | nil=>intro gs r _;cases r;rfl
 | cons p fs a=>
  intro gs r h;cases r with
  | cons q r=>
   rw[mx]at h ⊢;split at h
   .cases h
   .exact a r h
section
variable{e:Expr}{pos pos':Pos}{D:dI}{fD:CO}{A:Type}{k:Nat}
theorem ama{z w:Int}(g:Gx X)(nm:Qbt)(d:U[i]? = some (some QxR))(h:Qua)(k:c7 X CL b fD (U.set i (some (.sh (.int (z+w))))) D) :
  c7 X CL b (.AugAssign Qjp .Add e pos::fD) U D:=b8 λH Z Y ts vs E S M=>
 oH (akM g.nd nm.hi nm.loc cQ akN nm.hf) (by
  obtain⟨v,hv,r⟩:=S.L9 d;cases r;refine#[_,hv,h H Z Y ts vs _ S λv2 H1 Z1 a k1 f c=>?_];cases c;have hl:i<U.length:=by
   obtain h|h:=Nat.lt_or_ge i _
   .exact h
   simp_all
  exact#[z,w,rfl,rfl,M.nx _ _ H1 Z1 a ((f.push Qbs).set hl) k])
end
theorem TM{p:T}{ds:At}:Keeps (some p::U) (p::ds.map T.sh):=λj y t h=>by
 cases j with
 | zero=>cases h;rfl
 | succ j=>
  simp_all
section
variable{δ1:BB}{e:Expr}{p q:Bool}{D:dI}
def TTm(X:Cx)(CL:BM)(b:Bx)(e:Expr)(U:BB)(p:Bool)(U':BB):Prop:=
 ∀(H Z:Hp) (Y:L2.St) (ts:Bz) (vs:B0) (Q:EM),bD X.K CL b H Z U Y ts vs->(∀H' Z',aC Z Z'->bD X.K CL b H' Z' U' Y ts vs->Q p H')->yl X e Y H Q
def TWm(X:Cx)(CL:BM)(b:Bx)(e:Expr)(U:BB)(p:Bool)(U':BB):Prop:=
 ∀(H Z:Hp) (Y:L2.St) (ts:Bz) (vs:B0) (Q:EM),bD X.K CL b H Z U Y ts vs->(∀H' Z',aC Z Z'->bD X.K CL b H' Z' U' Y ts vs->Q p H')->He X e Y H Q
theorem qW.m(h:Qce):TTm X CL b e U p δ1:=λH Z Y ts vs Q S k=>h H Z Y ts vs Q S λH' Z' z _ a=>k H' Z' z a
theorem ro.m(h:Qwq):TWm X CL b e U p δ1:=λH Z Y ts vs Q S k=>h H Z Y ts vs Q S λH' Z' z _ a=>k H' Z' z a
noncomputable def jY(h:Qce)(a:p=q):qW X CL b e U q δ1:=a▸h
end
def Yu{α:Type}:Nat->QxS->Prop
 | 0,P=>P []
 | n+1,P=>∀a,Yu n λr=>P (a::r)
def Ej{α:Type}{n:Nat}{P:QxS}(h:Yu n P):∀us:List α,us.length=n->P us:=by
 intro us hl
 induction us generalizing n P with
 | nil=>subst hl;exact h
 | cons a r b=>subst hl;exact b (h a) rfl
abbrev InG(K:Frag)(x:Str)(f:Addr):Prop:=nsIn K mainGlobals x=some Qdb
structure FG(N P G:BA)(sc:Scope):Prop extends cW N P sc where
 lc:Qq4=true
 gb:QqI=true
def fG{N P G:BA}{sc:Scope}(h:cW N P sc:=by exact iW)(lc:Qq4=true:=by decide +kernel)(gb:QqI=true:=by decide +kernel):FG N P G sc:=#[h,lc,gb]
variable{N P G:BA}
def gL(c:QmZ)(j:Nat)(a:N[j]? = some x:=by rfl)(hi:X.N[i]? = some x:=by rfl)(hf:QpV:=by rfl)(hd:AD x:=by decide)(b:AE x:=by decide):Ln X i x:=NM hi (eq_of_beq (nr.1 c.lc _ (l4 a))) hf hd b
def gG(c:QmZ)(j:Nat)(a:G[j]? = some x:=by rfl):Gl X x:=eq_of_beq (nr.1 c.gb _ (l4 a))
variable{δ1 U2:BB}{e:Expr}{es:Cf}{ds:At}{pos:Pos}
def vc(X:Cx)(CL:BM)(b:Bx)(es:Cf)(U:BB)(tl:Bz)(U':BB):Prop:=
 ∀(H Z:Hp) (Y:L2.St) (ts:Bz) (vs:B0) (Q:EN),bD X.K CL b H Z U Y ts vs →
  (∀us H' Z',us.length=tl.length->aC Z Z'->bD X.K CL b H' Z' U' Y Qmi QdL->Q us H')->GN X es Y H Q
theorem GA.m(h:QmE):vc X CL b es U tl δ1:=λH Z Y ts vs Q S k=>h H Z Y ts vs Q S λv H' Z' l z _ a=>k v H' Z' l z a
def Dv:vc X CL b [] U [] U:=bM.m
theorem gW(h1:QdA)(h2:vc X CL b es δ1 tl U2)(hs:Qaq:=by exact bq rfl):vc X CL b Qap U (t::tl) U2:=λH Z Y ts vs Q S k=>
 RA Qot (h1 H Z Y ts vs _ S λv H1 Z1 c d=>h2 H1 Z1 Y _ _ _ d λus H2 Z2 hl a f=>k _ H2 Z2 (by simp[hl]) QcR WA)
def agt(h:QdA):R1 X CL b e U Qgw δ1:=λH Z Y ts vs Q S k=>h H Z Y ts vs Q S λv H1 Z1 c f=>by
 obtain⟨Z2,a,d⟩:=f.JY;exact k v H1 Z2 QcR d
def VW(h:vc X CL b es U tl δ1)(hl:Qng):R1 X CL b Qi6 U (.tup tl) δ1:=λH Z Y ts vs Q S k=>
 cC (XO JW) (h H Z Y ts vs _ S λus H1 Z1 d e i=>#[ d▸hl,λp f=>by
  obtain⟨a,c,g⟩:=i.J2 d f;exact k _ _ _ (e.trans a) g])
theorem abZ(h:vc X CL b es U Qb3 δ1)(hl:Qcd):R1 X CL b Qi6 U QdH δ1:=by
 have:=agt (VW (pos:=pos) (j:=j) h WA)
 rwa [T.fC,lI]at this
variable{tl0:Bz}{pp pa pb:Pos}{fD:CO}{DD:dI}
def XN(n:Qa0)(h0:U[i]? = some Qi5)(h:QdA)(h1:δ1[i]? = some Qfh)(hl:Qnu)(k:Qr5)
  (j:QkR:=by rfl)
  (s:Qhq:=by rfl)
  (c:Qhr:=by rfl) (hs:Qaz:=by exact bq rfl) (r:Qk3:=by rfl) :
  c7 X CL b Qvr U DD:=b8 λH Z Y ts vs E S M=>
 oH (yz (NW y3 MW MU vv QeE QaQ j s c hs rfl) r) (by
  obtain⟨v0,e0,g⟩:=S.look h0;refine#[v0,e0,?_,?_]
  .obtain⟨_,_,rfl,m,_⟩:=g.iM;exact .inl #[rfl,_,m]
  .refine h H Z Y ts vs _ S λv H1 Z1 f q=>?_;obtain⟨a,us,d,o,l,p⟩:=q.append h1;rw[e0]at d;cases d;exact#[a,us,v,rfl,rfl,o,by rw[l];exact oI hl Wl,M.nx _ Y _ Z1 f p k])
namespace Dk
variable{prog:Qat}{w:World}{A:Qav}{E:BN}{s:Qb}{it d:Addr}{ep:Nat}{es:Qn1}{od:Obj}
def ab1{Q:BN}(hd:(d==sysModules)=false)(b:s.heap.get? d=some od)(a:s.TypeIs (.ref d) "dict")(c:od.data=.dict es ep)
  (hQ:Q Qcj {s with heap:=s.heap.push {cls:=.type "dict_keyiterator",data:=.fields (List.toArray [.ref d,.int 0 0,.int es.size 0,.int ep 0])}}):wpAny Qay A (pyIter (.ref d)) Q E s:=by
 refine wpAny_pyIter_slot a PySem.F.slot_dict_iter (wpAny_call_entry PySem.F.slot_dict_iter a PySem.F.entry_dict_iter ?_ (PySem.F.args_dict_iter_1 _));unfold Builtin.«dict.__iter__» Builtin.Dict.dictSlotNone;refine ec (ec (wpAny_notOrdered_dict a (show wpAny _ _ (pure (Value.ref d)) _ _ s from j3 ?_)));show wpAny _ _ (Builtin.Dict.showsAll d >>= _) _ _ s;unfold Builtin.Dict.showsAll;rw[bW (by rw[hd];exact mn)];exact wpAny_bind (wpAny_pure (wpAny_bind (wpAny_dictEntries b c (wpAny_bind (wpAny_dictEpoch b c (wpAny_bind (wpAny_newObj_type (wpAny_pure #[_,rfl,"dict_keyiterator",_,#[_,Heap.get?_push_size _ rfl,rfl],PySem.F.slot_dict_keyiterator_next.lookup,by simpa [rawInt] using hQ]))))))))
theorem OI{Q:Option Value->Shared->Prop}(n:Qhi)(hit:s.heap.IsKeyIter it d i es.size ep)(f:s.heap.get? d=some od)(g:od.data=.dict es ep)
  (hQ:∀e,es[i]? = some e->∀h',h'.IsKeyIter it d Qbd es.size ep->Heap.SameBut it s.heap h'->Q (some e.key) {s with heap:=h'}) (q:es.size<=i->∀h',Heap.ExtBut it s.heap h'->Q none {s with heap:=h'}):wpAny Qay A QnG Q E s:=by
 obtain⟨o,j,p,hd⟩:=id hit;have k:Builtin.Dict_items.ownsTuple "dict_keyiterator" = false:=by decide
 unfold pyNext;refine ec (wpAny_attempt (wpAny_callSpecial?_slot (name:=Str.ofString "__next__") hit.typeIs PySem.F.slot_dict_keyiterator_next (wpAny_call_entry PySem.F.slot_dict_keyiterator_next hit.typeIs PySem.F.entry_dict_keyiterator_next (ec (j3 ?_)) (PySem.F.args_dict_keyiterator_next_1 _))));refine ec (ec (ec (MM hit.typeIs (j3 (ec (wpAny_fieldsOf j hd ?_))))));rw[k,bW mn];show wpAny _ _ (if QtO=true then _ else _) _ _ s;rw[bW (show ¬ (QtO=true) from mn)];refine ec (j3 (ec (wpAny_dictEntries f g ?_)));rw[bW Wp];refine ec (j3 (ec (wpAny_dictEpoch f g ?_)));rw[bW Wp];refine j3 ?_;dsimp only;by_cases l:i<es.size
 .have c:=Array.getElem?_eq_getElem l;rw[bW (show ¬ ((i:Int)<0) by lia),ke,c];refine ec (ec (MM hit.typeIs (j3 (ec (wpAny_isOneOf_keyiter hit.typeIs ?_)))));show wpAny _ _ (setField Qb7 1 QmG >>= _) _ _ s;have h:(s.heap.update it (Obj.mapFields (·.setIfInBounds 1 QmG))).IsKeyIter it d Qbd es.size ep:=
   #[_,wq _ j (Obj.isFreed_of_fields (HE hd _)),(Obj.cls_mapFields ..).trans p,by rw[HE hd];simp[rawInt]]
  refine ec (wpAny_setField j hd Wp (ec (u5 (ec (wpAny_isOneOf_keyiter (s:={s with heap:=s.heap.update it (Obj.mapFields (·.setIfInBounds 1 QmG))}) h.typeIs ?_)))));show wpAny _ _ (pure es[i].key) _ _ _;exact j3 (j3 #[_,rfl,j3 (hQ _ c _ h (zr ..))])
 .have c:=Nat.le_of_not_lt l;rw[bW (show ¬ ((i:Int)<0) by lia),ke,Array.getElem?_eq_none c];refine ec (ec (MM hit.typeIs (j3 ?_)));show wpAny _ _ (setField Qb7 0 .none >>= _) _ _ s;refine ec (wpAny_setField j hd Wp ?_);show wpAny _ _ (newExc (.type "StopIteration") [] >>= _) _ _ _;refine ec ?_;simp only[newExc,newTuple];refine ec (wpAny_newObj_type (ec (m:=firstArgMember _ _) (wpAny_of_eq (a:=Value.none) (by first|rfl|(simp only[firstArgMember];rfl)) (wpAny_newObj_type ?_ (by size_fits)))) (by size_fits));unfold raiseNew;refine ec (wpAny_handled ?_);rw[show A.in1.handled=none from n];refine ec (j3 (wpAny_throw ?_));exact ec (wpAny_isInstance (T:="StopIteration") (b:=true) #[_,mf _ rfl,rfl] isSubtype_stop (j3 (q c _ (((zr ..).extBut.push _).push _))))
end Dk
end L3
namespace L2
open PySem PySem.Spec PyProof.Rows
def Nl(a:Addr)(gs:B2)(en:Nat):It:=
 #[λi H=>i<gs.length/\Rd H a QbD,λi H x H'=>H'=H/\∃b k v,x=.ref b/\gs[i]? = some (k,v)/\H b=some Qir,λi H=>gs.length<=i/\Rd H a QbD]
theorem Paired.xi{α β:Type}{F:QnZ}{l:Qaf}{m:List β}(r:Paired F l m):∀{i:Nat} {x:α},l[i]? = some x->∃y,m[i]? = some y/\F x y:=by
 induction r with
 | nil=>intro i x e;simp at e
 | cons h _ a=>
  intro i x e;cases i with
  | zero=>cases e;exact#[_,rfl,h]
  | succ j=>exact a e
theorem ab2{P:Qat}{w:World}{K:Frag}{tg:Expr}{a it:Addr}{gs:B2}{en:Nat}:Turn P w K tg QoO [it] it (λi h=>h.IsKeyIter it a i gs.length en) where
 mem:=by simp
 obj:=λi h st b j=>by
  have e:b=it:=by simpa using j
  subst e;obtain⟨g,e,c,d⟩:=st;exact#[g,e,λv z=>by rw[d]at z;cases z]
 keep:=λi h h' st k=>st.at λg e=>k it Wp g e
 item:=by
  intro X p hw t m i pins s Y H E I hf st l;subst p hw t;obtain⟨C,n⟩:=l;obtain⟨z,y,xs,r,o,es,ep,e,c,B,f,nd,rfl⟩:=(show fK X.prog X.w H s.heap a QbD from N1 I.cV n);have hz:es.size=gs.length:=by rw[<- zt,f,cM,<- u6 r]
  rw[<- hz]at st;obtain⟨f0,f1,f2,A,f4,u⟩:=hf it Wp;obtain⟨q,L,q1,J,T⟩:=Paired.xi r (i:=i) (x:=gs[i]) (kA C);have D:es[i]? = some (entryOfKey (tupleKind QnQ) q):=by
   rw[<- Array.getElem?_toList,f,k4,L];rfl
  refine L3.Dk.OI (I.ok.hd m) st e B (λO he h' F G=>?_) λz=>absurd D (by rw[Array.getElem?_eq_none z];simp);rw[D]at he;cases he;have S:Inv X pins Y H {s with heap:=h'}:=I.turned (t':=s.toks) (λb g j e=>(G.2 b j).trans e) f0 f1 A f4 u;obtain⟨g,e2,R,d2⟩:=id F;exact#[_,rfl,NC (s:={s with heap:=h'}) e2 R d2 Wl #[.ref q.2.1,H,S,rfl,#[rfl,q.2.1,gs[i].1,gs[i].2,rfl,kA C,J],hz▸F,λb j=>(hf b j).1]]
 done:=by
  intro X p hw t m i pins s Y H E I hf st l;subst p hw t;obtain⟨M,n⟩:=l;obtain⟨z,y,xs,r,o,es,ep,e,c,B,f,nd,rfl⟩:=(show fK X.prog X.w H s.heap a QbD from N1 I.cV n);have hz:es.size=gs.length:=by rw[<- zt,f,cM,<- u6 r]
  rw[<- hz]at st;obtain⟨f0,f1,f2,A,f4,u⟩:=hf it Wp;exact L3.Dk.OI (I.ok.hd m) st e B (λO he=>by rw[Array.getElem?_eq_none We]at he;cases he) λ_ h' N=>#[rfl,I.turned (t':=s.toks) (λb g j e=>N b g j e) f0 f1 A f4 u]
 self:=λ_ _ _ _ _ st h=>wpAny_pyIter_keyiter st h
end L2
namespace L3
open PySem PySem.Spec PyProof.Rows L2
def Ot(X:Cx)(te:TE):TI:=λY H R=>te Y H λx H1=>∃a gs en,x=.ref a/\Rd H1 a QbD/\R QoO H1
def amd{X:Cx}{tg e:Expr}{te:TE}(he:Qcc):PI X tg e (Ot X te):=by
 intro pins s Y H R I h;refine d9 Qck λv s1 zz=>?_;obtain⟨x,H1,f,j,a,gs,en,ex,i,l⟩:=zz;subst ex;cases j;obtain⟨z,y,xs,r,o,es,ep,e,c,d,g,nd,rfl⟩:=(show fK X.prog X.w H1 s1.heap a QbD from N1 f.cV i);have hz:es.size=gs.length:=by rw[<- zt,g,cM,<- u6 r]
 obtain⟨_,_,_,_,dd⟩:=Cj f.cV #[_,i];refine Dk.ab1 y e dd.typeIs d ?_;refine#[s1.heap.objs.size,[s1.heap.objs.size],_,_,H1,rfl,f.kept (t':=s1.toks) λb m e=>lr _ e,ab2,#[_,mf _ rfl,rfl,by rw[<- hz];rfl],λb k=>?_,l];have e:b=s1.heap.objs.size:=by simpa using k
 subst e;exact f.DR (js _) (f.cV.fresh (js _))
variable{CL:BM}{b:Bx}{U:BB}
theorem bD.RM{K:Frag}{H Z:Hp}{Y:L2.St}{ts:Bz}{vs:B0}{t:T}{v:V}(S:QaA)(r:bO K CL H Z t v []):bD K CL b H Z U Y Qcb QaY:=by
 obtain⟨fp,gp,e,q,nd,k⟩:=S.rep;exact#[#[fp,[]++gp,e,.cons r q,nd,k],S.bh,S.zz,S.zh,S.new,S.tp,S.tab]
section
variable{X:Cx}{e:Expr}{D:dI}{pos:Pos}{x:Str}{i:Nat}
def VX{ks:CU}(n:Qa0)(h:U[i]? = some (some (wN ks))):bU X CL b QaD U (wN ks) U:=λH Z Y ts vs Q S k=>by
 obtain⟨fp,gp,e,q,nd,kk⟩:=S.rep;obtain⟨v,f1,f2,d,hv,c,rt,_,_⟩:=e.get h;have h2:f2=[]:=by
  obtain⟨_,_,rfl,hz,a⟩:=rt.qy;exact(aU.toF a).2
 subst h2;exact cC QeE #[v,hv,k v H Z QA QA (S.RM rt)]
end
variable{K:Frag}{H Z:Hp}{Y:L2.St}{ts:Bz}{vs:B0}{t t0:T}{v v0 w:V}{i:Nat}{p:QcG}{kvs:CC}{k:CU}
theorem dH.fresh{gs:B2}{fp:BY}(rs:QhA)(b:k∉kvs.map (·.1))(v:V):putK gs k v=gs++[(k,v)]:=by
 refine aaK v ?_;cases a:ji gs k with
 | none=>rfl
 | some z=>
  exfalso;refine b ?_;rw[rs.keys];unfold ji at a;obtain⟨q,hf,_⟩:=nq.1 a;have h0:=List.find?_some hf;have h1:q.1=k:=l3 h0;rw[<- h1];exact List.mem_map_of_mem (M1 hf)
theorem bD.agu(S:Qci)(ev:Y[i]? = some QcC)(hi:U[i]? = some Qb9)(n:T.jX p t0=some Qd2)(h:Qeq)(o:k∉kvs.map (·.1)) :
  ∃a gs,w=.ref a/\(∃en,H a=some QbD)/\gs.length=kvs.length/\∀en,bD K CL b (upd H a (.dT Qm9 en)) Z (U.set i (some (T.je p (.dct Qjs) t0))) Y ts vs:=by
 obtain⟨f2,gp,j,l,nd,go⟩:=S.A9 ev hi n h;cases j with
 | @dct a gs _ g _ q rs=>
  cases l with
  | @cons _ _ _ _ f e q1 m=>
   have ne:∀c∈g++Qdp,c≠a:=λc d z=>by subst z;exact(ml.1 nd).1 d
   have pm:(QxP++e).Perm ((a::g)++Qdp):=u4.2 λc=>by simp only[wd,List.count_cons,List.count_nil];lia
   refine#[a,gs,rfl,#[_,q],rs.length.symm,λen=>?_];rw[rs.fresh o];exact go rfl iB rfl (.dct aO (dH.snoc (rs.mono QA λc d=>ay (ne c (by simp[d]))) (q1.mono QA λc d=>ay (ne c (by simp[d])))))
    (m.mono QA λc d=>ay (ne c (by simp[d]))) Qmq λc d=>pm.mem_iff.1 d
section
variable{X:Cx}{δ1:BB}{e e0 e2:Expr}{t1:T}{D:dI}{pos ps:Pos}{fD:CO}
theorem VY(k:CU)(B:Qa5)(h:QaX)(q:QmY)(h2:bU X CL b e2 δ1 (wN k) δ1)(h1:δ1[i]? = some QgW)(s:T.jX p t1=some Qd2)(l:k∉kvs.map (·.1))(hl:Qw4)(kk:c7 X CL b fD (δ1.set i (some (T.je p (.dct Qjs) t1))) D)
  (hs:Qqz:=by rfl):c7 X CL b Qlf U D:=b8 λH Z Y ts vs E S M=>
 oH (Vr We cQ cQ cQ hs) (h H Z Y ts vs _ S λv H1 Z1 g k1 y=>q H1 Z1 Y _ _ _ y λv0 w H2 Z2 f k2 x ev j=>h2 H2 Z2 Y _ _ _ x λv2 C Z3 d k3 c=>by
  obtain⟨z,rfl,n⟩:=c.R5;obtain⟨a,gs,r,o,m,u⟩:=c.pop.agu ev h1 s (j.mono k3) l;exact#[a,_,r,N2.t o.choose_spec n (by rw[m];exact oI hl (by rw[l7];decide)),λen=>M.nx _ Y _ Z3 (g.trans (f.trans d)) (u en) kk])
end
end L3
namespace L2
open PySem PySem.Spec PyProof.Rows
variable{X:Cx}{pins:BC}{Y:St}{H:Hp}{s:Qb}{a b:Addr}{k:CU}{gs:B2}{v:V}{A:Qav}{E:BN}
def agv(I:QE)(h:QxT):(tupleKind QnQ).is s.heap k b:=by
 obtain⟨its,a,⟨o,h1,h2,n,c⟩,hz⟩:=I.tuple h;exact#[o,its.toArray,n,h1,h2,c,by simpa using A1 a]
def Yw{Q:BN}(f:Qhk)(I:QE)(e:∃en,Rd H a QbD)(i:QxT)(l:ji gs k=some v)(h:∀c s',Inv X pins Y H s'->RelV v c->Q c s'):wpAny Qr A (getItem Qag Qg1) Q E s:=by
 obtain⟨z,hd,xs,rel,dd⟩:=Cj I.cV e;obtain⟨c,hw,j⟩:=tH.some_of (v:=v) (o:=(atKey xs k).map (·.2)) (by rw[<- l];exact rel.val k);obtain⟨p,g,d⟩:=nq.1 hw;refine wpAny_getItem_heap (zd f) (agv I i) dd g ?_;rw[d];exact h c _ Qdh j
variable{o i:Expr}{td ty:TE}{pos:Pos}
def aqD(X:Cx)(td ty:TE):TE:=λY H Q=>td Y H λx H1=>ty Y H1 λy H2=>∃a v gs k b,x=.ref a/\y=.ref b/\(∃en,Rd H2 a QbD)/\tP X.K H2 b Qqv/\ji gs k=some v/\Q v H2
def agw(m:Qhl)(n:Qdu)(hi:Qdv)(hs:N3 i):PE X Qgn (aqD X td ty):=by
 intro pins s Y H Q I h;refine JS Na.lookup hs (d9 QmC λu s1 zz=>?_);obtain⟨x,H1,w,e,q1⟩:=zz;refine d9 (hi pins s1 Y H1 _ w q1) λj s2 zz=>?_;obtain⟨y,H2,c,d,a,v,gs,k,b,ex,q,g,p,l,f⟩:=zz;subst ex q;obtain rfl:u=Value.ref a:=e;obtain rfl:j=Value.ref b:=d;obtain⟨_,_,_,_,dd⟩:=Cj c.cV g;exact#[dd.typeIs,Yw m c g p l λz s3 t r=>#[v,H2,t,r,f]]
end L2
namespace L3
open PySem PySem.Spec PyProof.Rows L2
variable{K:Frag}{CL:BM}{Z:Hp}{kvs:CC}{k:CU}{us:B0}
theorem Sf{ks:CU}(r:aB K CL Z QoZ us):us=ks.map kV:=by
 induction ks generalizing us with
 | nil=>cases r;rfl
 | cons k ks b=>
  rw[lx]at r;cases r with
  | cons r a=>rw[r.key,b a,lx]
variable{α:Type}
def ab3{kvs:QkG}{x:α}(h:iN kvs k=some x):(k,x)∈kvs:=by
 unfold iN at h;obtain⟨q,hf,rfl⟩:=nq.1 h;have h0:=List.find?_some hf;have h1:q.1=k:=l3 h0;rw[<- h1];exact M1 hf
section
variable{X:Cx}{b:Bx}{U δ1:BB}{e:Expr}{t:T}{D:dI}{pos pp:Pos}
def Yx{ds:At}(hm:QnH)(h:Qt6)(f:QoW)(hs:Qaz:=by exact bq rfl):bU X CL b Qrw U QdH δ1:=λH Z Y ts vs Q S k=>
 cC (jP wJ f hm tV QaQ (he:=hs)) (h H Z Y ts vs _ S λv H1 Z1 c k1 a=>by
  have r:=a.GP;obtain⟨_,_,rfl,d,g⟩:=r.qy;exact#[_,_,rfl,.inr #[aC.N5 a.zh d,k _ H1 Z1 c k1 a]])
end
variable{X:Cx}{b:Bx}{U:BB}{e e2:Expr}{t u:T}{p:QcG}{pos:Pos}{i:Nat}{kvs:Qnp}
theorem gV.xi:∀{kvs:Dx} {gs:B2},gV K CL Z kvs gs->∀{j:Nat} {x:CU×V},gs[j]? = some x->∃d,kvs[j]? = some (x.1,d)/\bL K CL Z d x.2:=λ{kvs gs} h=>gV.ind (P:=λkvs gs=>∀{j:Nat} {x:CU×V},gs[j]? = some x->∃d,kvs[j]? = some (x.1,d)/\bL K CL Z d x.2) (λ{j x} e=>by simp at e) (λ{k d v _ _} r _ i {j x} e=>by
  cases j with
  | zero=>
   simp at e;subst e;exact#[d,rfl,r]
  | succ j=>
   rw[Md]at e ⊢;exact i e) h
theorem ame{kvs:CC}(k:CU)(y:Qa5)(h:QhD)(hi:U[i]? = some QaK)(s:T.jX p t=some Qd2)(h2:cN X CL b e2 U (VJ k) U)(q:iN kvs k=some u)(hs:N3 e2:=by exactλ_ _=>rfl):Ys X CL b (.Subscript e e2 pos) U i (p++[.key k]):=λH Z Y ts vs Q S kk=>
 cC (agw We cQ cQ hs) (h H Z Y ts vs _ S λv0 v H' Z' m s1 x ev n=>h2 H' Z' Y ts vs _ x λv2 H2 Z2 l s2 j c=>by
  have at2:=n.mono s2;obtain⟨w,f2,at',r⟩:=j.Yr ev hi s;have:=at'.inj at2;subst this;unfold VJ at c;obtain⟨_,_,rfl,d,o⟩:=c.qy;rw[Sf o]at d;cases r with
  | @dct a gs _ g _ f rs=>
   obtain⟨w,_,_,_,hw,_,_,_⟩:=rs.OG q;exact#[a,w,gs,k,_,rfl,rfl,#[_,.inl f],d,hw,kk v0 w H2 Z2 (m.trans l) Qog j ev (at2.snoc #[a,gs,rfl,#[_,f],hw])])
def T.x5:List AQ->T->Option T
 | [],t=>some t
 | s::p,t=>(t.core.OG s).bind (T.x5 p)
def T.Yy:List AQ->T->T->T
 | [],u,_=>u
 | s::p,u,t=>match t.core.OG s with
  | some k=>t.Kw (t.core.R9 s (T.Yy p u k))
  | none=>t
variable{H:Hp}{v:V}
theorem bO.raw(zh:QfW):∀(p:QcG) {t u:T} {v:V} {fp:BY},bO K CL H Z t v fp->T.x5 p t=some u->∃w f2,C8 H v p w/\bO K CL H Z u w f2/\∀{b:T},bO K CL H Z b w f2->bO K CL H Z (T.Yy p b t) v fp
 | [],t,u,v,fp,h,e=>by
  cases e;exact#[v,fp,rfl,h,λr=>r]
 | s::p,t,u,v,fp,h,e=>by
  obtain⟨h1,h2⟩:=h.Sb;rw[T.x5]at e;cases a:t.core.OG s with
  | none=>rw[a]at e;cases e
  | some k=>
   rw[a]at e;obtain⟨c,a1,a2,a3,q1,m,l,j⟩:=h1.OG zh a;obtain⟨w,f2,g,f,d⟩:=bO.raw zh p l e;refine#[w,f2,#[c,q1,g],f,λ{b} i=>?_];rw[T.Yy,a,m];exact h2 (j Qcs (d i))
section
variable{δ1:BB}{o:Expr}{D:dI}{m:Nat}{c:Str}
noncomputable def aqE{U2:BB}(h:QaX)(q:δ1=U2):bU X CL b e U t U2:=q▸h
structure FqR(X:Cx)(CL:BM)(c m:Str)(k n:Nat){A:Type}(arg:Qah)(Pre:Qab)(exc:Qb0):Prop where
 ex:∃f fd ps,Meth X.K (CL c) m f/\dg X.prog X.w X.K X.mg X.base QdK k f fd ps Qiw/\Binds X.K fd ps []
 room:fc k X.A
 cls:yG X.K (CL c)
end
instance axS:DecidableEq D:=λa b=>Classical.propDecidable (a=b)
inductive Ek:Nat->D->Prop where
 | int (n:Nat) (i:Int):Ek n Qa7
 | str (n:Nat) (x:Str) (h:QxJ):Ek n Qbl
 | tup {n:Nat} {ds:At} (h:∀d∈ds,Ek n d):Ek QaC Qd8
variable{n:Nat}
theorem Ek.dep{d:D}(h:Ek n d):wM n d:=by
 induction h with
 | int n i=>exact .int n i
 | str n x h=>exact .str n x h
 | tup _ a=>exact .tup a
mutual
inductive NV(h:Heap):D->Value->Prop where
 | int (i:Int) (t:Tok):NV h Qa7 QgG
 | str (x:Str) (t:Tok):NV h Qbl Qpq
 | tup {a:Addr} {o:Obj} {its:Cc} {m:Nat} {ds:At}:h.get? a=some o->o.cls=.type "tuple"->o.data=.seq its m->Sg h ds its.toList->NV h Qd8 Qag
inductive Sg(h:Heap):At->B1->Prop where
 | nil:Sg h [] []
 | cons {d:D} {v:Value} {ds:At} {vs:B1}:NV h d v->Sg h ds vs->Sg h Qkw QaY
end
variable{h:Heap}
theorem NV.reads{d:D}{v:Value}(q:QkH):∃as,Reads h v d.toPy as:=
 NV.rec (motive_1:=λd v _=>∃as,Reads h v d.toPy as) (motive_2:=λds vs _=>∃as,ReadsAll h vs Qfl as)
  (λi t=>by rw[D.toPy];exact#[[],.int i t]) (λx t=>by rw[D.toPy];exact#[[],.str x t])
  (λe c f _ ⟨as,a⟩=>by rw[D.toPy];exact#[as,.tuple e c f a])
  (by rw[D.kg];exact#[[],.nil]) (λ_ _ ⟨as,a⟩ ⟨bs,b⟩=>by rw[D.kg];exact#[as++bs,.cons a b]) q
theorem NV.inj{d:D}{v:Value}(q:QkH):∀d2,NV h d2 v->d=d2:=
 NV.rec (motive_1:=λd v _=>∀d2,NV h d2 v->d=d2) (motive_2:=λds vs _=>∀d2,Sg h d2 vs->ds=d2)
  (λi t d2 q=>by cases q;rfl) (λx t d2 q=>by cases q;rfl)
  (λe c m _ j d2 q=>by
   cases q with
   | tup l n f g=>
    cases e.symm.trans l;cases m.symm.trans f;rw[j _ g])
  (λd2 q=>by cases q;rfl) (λ_ _ i1 k d2 q=>by
   cases q with
   | cons a b=>rw[i1 _ a,k _ b]) q
theorem NV.keeps{h':Heap}{d:D}{v:Value}{x:Addr}{o:Obj}{es:Qn1}{ep:Nat}(q:QkH)(i:h.get? x=some o)(hd:o.data=.dict es ep)(hs:Heap.SameBut x h h'):NV h' d v:=
 NV.rec (motive_1:=λd v _=>NV h' d v) (motive_2:=λds vs _=>Sg h' ds vs) .int .str
  (λ{a} {j} {its} {m} {ds} e c f _ g=>.tup ((hs.2 a λz=>by subst z;cases i.symm.trans e;rw[hd]at f;cases f).trans e) c f g)
  .nil (λ_ _ a b=>.cons a b) q
theorem VZ{a b:D}(k:Ek n a):∀m,Ek m b->Oe a b=decide (a=b):=by
 induction k generalizing b with
 | int n i=>
  intro m c;unfold Oe;cases c with
  | int _ j=>
   rw[D.toPy,D.toPy,PyData.eqv];by_cases e:i=j
   .rw[e,l5 rfl,w4]
   .rw[la (λz=>e (by injection z)),pw.2 e]
  | str _ y _=>rw[D.toPy,D.toPy,PyData.eqv,la (λz=>by cases z)]
  | tup _=>rw[D.toPy,D.toPy,PyData.eqv,la (λz=>by cases z)]
 | str n x _=>
  intro m c;unfold Oe;cases c with
  | int _ j=>rw[D.toPy,D.toPy,PyData.eqv,la (λz=>by cases z)]
  | str _ y _=>
   rw[D.toPy,D.toPy,PyData.eqv];by_cases e:x=y
   .rw[e,l5 rfl,w4]
   .rw[la (λz=>e (by injection z)),pw.2 e]
  | tup _=>rw[D.toPy,D.toPy,PyData.eqv,la (λz=>by cases z)]
 | @tup n xs l g=>
  intro m c;cases c with
  | int _ j=>unfold Oe;rw[D.toPy,D.toPy,PyData.eqv,la (λz=>by cases z)]
  | str _ y _=>unfold Oe;rw[D.toPy,D.toPy,PyData.eqv,la (λz=>by cases z)]
  | @tup m ys h=>
   have all:∀(xs ys:At),(∀x∈xs,∀b m,Ek m b->Oe x b=decide (x=b))->(∀y∈ys,Ek m y)->PyData.eqvAll (D.kg xs) (D.kg ys)=decide (xs=ys):=by
    intro xs
    induction xs with
    | nil=>
     intro ys _ _;cases ys with
     | nil=>rw[D.kg,PyData.eqvAll,l5 rfl]
     | cons _ _=>rw[D.kg,D.kg,PyData.eqvAll,la (λz=>by cases z)]
    | cons x xs d=>
     intro ys h1 h2;cases ys with
     | nil=>rw[D.kg,D.kg,PyData.eqvAll,la (λz=>by cases z)]
     | cons y ys=>
      have e1:PyData.eqv x.toPy y.toPy=decide (x=y):=h1 x iB y m (h2 y iB);rw[D.kg,D.kg,PyData.eqvAll,e1,d ys (λz hz=>h1 z Qfj) λz hz=>h2 z Qfj];by_cases e:x=y
      .subst e;by_cases e2:xs=ys
       .subst e2;simp
       .simp[e2]
      .simp[e]
   unfold Oe;rw[D.toPy,D.toPy,PyData.eqv,all xs ys (λx f b m c=>g x f m c) h];by_cases e:xs=ys
   .subst e;rw[l5 rfl,l5 rfl]
   .rw[la e,la (λz=>e (by injection z))]
mutual
def D.o9:D->Nat
 | .tup ds=>D.y9 ds+1
 | _=>1
def D.y9:At->Nat
 | []=>0
 | d::ds=>d.o9+D.y9 ds
end
theorem zb(w:World):∀ds:At,D.JT w ds=ds.map (D.xC w)
 | []=>by rw[D.JT];rfl
 | d::ds=>by rw[D.JT,zb w ds];rfl
theorem IK(d:D):∀ds:At,D.y9 QgZ=D.y9 ds+d.o9
 | []=>by rw[ui,D.y9,D.y9,D.y9];lia
 | e::ds=>by rw[nc,D.y9,D.y9,IK d ds];lia
theorem Sg.snoc{ds:At}{vs:B1}{d:D}{v:Value}(q:Sg h ds vs)(r:QkH):Sg h QgZ Qkd:=
 Sg.rec (motive_1:=λ_ _ _=>True) (motive_2:=λds vs _=>Sg h QgZ Qkd) Qc9 Qc9 Qiv Qn9 (λa _ _ b=>.cons a b) q
variable{P:Qat}{w:World}{A:Qav}{E:BN}
theorem agx:∀(n:Nat) {A:Qav} {E:BN} (l:A.units+n<cLine) {d:D} {v:Value} {s:Qb} {Q:Int->Shared->Prop},Ek n d->NV s.heap d v->Q (d.xC w) {s with toks:=s.toks+d.o9}->wpAny Qcz A (pyHash v) Q E s:=by
 intro n
 induction n with
 | zero=>
  intro A E l d v s Q nd q k;cases q with
  | int i t=>exact wpAny_pyHash_int (by rw[D.xC,D.o9]at k;exact k;intro _ z;cases z)
  | str x t=>exact wpAny_pyHash_str (by rw[D.xC,D.o9]at k;exact k;intro _ z;cases z)
  | tup=>cases nd
 | succ n r=>
  intro A E l d v s Q nd q k;cases q with
  | int i t=>exact wpAny_pyHash_int (by rw[D.xC,D.o9]at k;exact k;intro _ z;cases z)
  | str x t=>exact wpAny_pyHash_str (by rw[D.xC,D.o9]at k;exact k;intro _ z;cases z)
  | @tup a o its m ds e c u qs=>
   cases nd with
   | tup nd=>
    have ty:s.TypeIs Qag "tuple":=#[o,e,c];rw[D.xC,D.o9]at k;unfold pyHash
    first|unfold pyHashByItsType|skip
    first|refine ec (wpAny_cRoomFor_or (.inr We) (ec (uk ty y8.lookup ?_)))|refine ec (uk ty y8.lookup ?_)
    show wpAny _ A (ite ((some (Value.builtin "tuple.__hash__")==some Value.none)=true) _ _) Q E s;rw[bW (by rw[beq_builtin_none];decide)];refine ec (uk ty y8.lookup (ec (wpAny_callSpecialIfBoundUnlessNone?_slot ty y8 (wpAny_call_entry y8 ty F.entry_tuple_hash ?_ (F.args_tuple_hash_1 _)))));show wpAny _ _ (Builtin.Tuple.tupleItemsOf Qag >>= λ_=>_) _ _ s;refine ec (wpAny_tupleItemsOf e u (ec ?_));rw[<- Array.forIn_toList];refine wpAny_forIn_list _ (λrest (g:Array Int) s1=>∃done left,ds=done++left/\Sg s.heap left rest/\g.toList=D.JT w done/\s1={s with toks:=s.toks+D.y9 done}) _ ?_ ?_ _ _ #[[],ds,rfl,qs,by rw[D.JT],by rw[D.y9];rfl]
    .rintro x rest g s1 ⟨done,left,rfl,f,j,rfl⟩;cases f with
     | @cons y _ left _ q1 f=>
      have inv:∃b h,done++y::left=b++h/\Sg s.heap h rest/\(g.push (y.xC w)).toList=D.JT w b/\({s with toks:=s.toks+D.y9 done+y.o9}:Shared)={s with toks:=s.toks+D.y9 b}:=
       #[done++[y],left,Wp,f,by rw[zb]at j ⊢;simp[j],by rw[IK,Nat.add_assoc]]
      refine ec (r (by show A.units+1+n<cLine;lia) (s:={s with toks:=s.toks+D.y9 done}) (nd y Wp) q1 ?_)
      first
       | exact j3 inv
       | exact ec (j3 (j3 inv))
    .rintro g s1 ⟨done,left,rfl,f,j,rfl⟩;cases f;rw[ko]at k;show wpAny _ _ (retInt (Builtin.Tuple.tupleHashOf g.toList)) _ _ _;rw[j];refine wpAny_ret_mkInt ?_;generalize Builtin.Tuple.tupleHashOf (D.JT w done)=hv at k ⊢;show wpAny _ _ (ite ((decide (-(2:Int) ^ 63<=hv)&&decide (hv<2 ^ 63))=true) _ _) Q E _;unfold reduceHash at k;by_cases p:(decide (-(2:Int) ^ 63<=hv)&&decide (hv<2 ^ 63))=true
     .rw[cq p]at k ⊢;exact wpAny_pure (by simpa [Nat.add_assoc] using k)
     .rw[bW p]at k ⊢;exact wpAny_bind (wpAny_rule (wpAny_pure (by simpa [Nat.add_assoc] using k)))
def ab6:∀(n:Nat) {d:D} {v:Value} {s:Qb} {Q:Qmo},Ek n d->NV s.heap d v->Q true s->wpAny Qcz A (eqIsQuiet n v) Q E s:=by
 intro n
 induction n with
 | zero=>
  intro d v s Q nd q k;cases q with
  | int i t=>rw[Hm _ rfl];exact j3 k
  | str x t=>rw[Hm _ rfl];exact j3 k
  | tup=>cases nd
 | succ n g=>
  intro d v s Q nd q k;cases q with
  | int i t=>rw[Hm _ rfl];exact j3 k
  | str x t=>rw[Hm _ rfl];exact j3 k
  | @tup a o its m ds e c h qs=>
   cases nd with
   | tup nd=>
    have ty:s.TypeIs Qag "tuple":=#[o,e,c];unfold eqIsQuiet;refine ec (uk ty F.slot_tuple_eq.lookup ?_);refine ec (wpAny_isInstance ty isSubtype_tuple_tuple ?_);simp only[Bool.not_true,sv,if_false];refine ec (wpAny_seqItems e h (ec ?_));show wpAny _ A (forIn its _ _) _ _ s;rw[<- Array.forIn_toList];refine wpAny_forIn_list _ (λrest r s1=>r.1=none/\s1=s/\∃left,Sg s.heap left rest/\∀d∈left,Ek n d) _ ?_ ?_ _ _ #[rfl,rfl,ds,qs,nd]
    .rintro x rest r s1 ⟨f,rfl,left,b,hl⟩;cases b with
     | @cons y _ left _ q1 b=>
      refine ec (g (hl y iB) q1 ?_);simp only[Bool.not_true,sv,if_false];exact j3 #[rfl,rfl,left,b,λd hd=>hl d (i3 _ hd)]
    .rintro⟨l,j⟩ s1 ⟨f,rfl,_⟩;simp only at f;subst f;exact j3 k
def zc(P:Qat)(w:World):HeapKind P w D where
 is:=λh d a=>Ek 8 d/\NV h d Qag
 hash:=D.xC w
 draws:=D.o9
 room:=λA=>A.units+9<cLine
 inj:=λf c=>f.2.inj _ c.2
 keeps:=λx l hd hs=>#[x.1,x.2.keeps l hd hs]
 pyHash:=λk g h=>agx 8 We g.1 g.2 h
 eqBool:=λ{A E s x y a b Q} k f c h=>by
  obtain⟨as,j⟩:=f.2.reads;obtain⟨bs,i⟩:=c.2.reads;have h1:=f.1.dep.lay;have h2:=c.1.dep.lay;have e:PyData.eqv x.toPy y.toPy=decide (x=y):=VZ f.1 8 c.1;have:=SeqAt.eqAt_reads _ _ A s _ _ _ _ j i h1.1 h2.1 (by have:=h1.2;lia);rw[e]at this;exact this P w E Q h
 quiet:=λg h=>ab6 8 g.1 g.2 h
variable{pins:BC}{Y:L2.St}{s:Qb}
def NL(I:Qbj){d:D}{u:Value}(hd:Ek n d)(q:bL X.K CL H d v)(r:QcW):NV s.heap d u:=by
 refine bL.rec (motive_1:=λd v _=>∀(n:Nat) (u:Value),Ek n d->RelV v u->NV s.heap d u)
  (motive_2:=λds vs _=>∀(n:Nat) (us:B1),(∀d∈ds,Ek n d)->Vals vs us->Sg s.heap ds us) (motive_3:=λ_ _ _=>True) (motive_4:=λ_ _ _=>True) (motive_5:=λ_ _ _=>True)
  (λ_ _ hd _=>by cases hd) (λb _ _ hd _=>by cases hd) (λi _ _ _ r=>by obtain⟨t,rfl⟩:=r;exact .int i t) (λx _ _ _ r=>by obtain⟨t,rfl⟩:=r;exact .str x t) (λ_ _ _ hd _=>by cases hd) (λ_ _ _ hd _=>by cases hd) (λj _ f n u hd r=>?tup)
  (λ_ _ _ _ _ hd _=>by cases hd) (λ_ _ _ _ _ hd _=>by cases hd) (λ_ _ _ _ _ hd _=>by cases hd) (λ_ _ _ _ _ hd _=>by cases hd) (λ_ _ _ _ _ _ _ hd _=>by cases hd)
  (λ_ _ _ r=>by cases r;exact .nil) (λ_ _ f a n us h r=>?cons) trivial Qax trivial Qax trivial Qax q n u hd r
 case tup=>
  cases hd with
  | tup hd=>
   cases r;obtain⟨its,g,⟨o,e,c,k,l⟩,_⟩:=I.tuple j;exact .tup e c l (by simpa using f _ _ hd g)
 case cons=>
  cases r with
  | cons r rs=>exact .cons (f n _ (h _ iB) r) (a n _ Qyd rs)
def sF(X:Cx)(CL:BM)(H:Hp)(a:Addr)(ds es:At)(vs us:B0):Prop:=H a=some (.ext (JV X.w a ds vs us))/\aB X.K CL H ds vs/\aB X.K CL H es us/\(∀d∈ds,Ek 8 d)/\ds.Nodup
variable{a:Addr}{vs:B0}
theorem sF.have(I:Qbj){ds es:At}(g:sF X CL H a ds es vs us) :
  Qcr=false/\∃xs:ES,s.heap.DictOfH (zc X.prog X.w) a xs/\xs.map (·.1)=ds/\xs.map Qmm=vs/\Vals us QiG:=by
 obtain⟨e,r,_,hn,nd⟩:=g;obtain⟨⟨h,xs,o,es,ep,h1,h2,n,m,c,f,l⟩,_⟩:=I.cV a _ e;refine#[h,xs,#[o,es,ep,h1,h2,n,m,λx k=>?_,by rw[c];exact nd],c,f,l];obtain⟨i,hi⟩:=List.mem_iff_getElem?.1 k;have hd:ds[i]? = some x.1:=by rw[<- c,k4,hi];rfl
 have hv:vs[i]? = some (.ref x.2.1):=by rw[<- f,k4,hi];rfl
 obtain⟨v,b,j⟩:=r.get hd;rw[hv]at b;cases b;have d:=hn x.1 (l4 hd);exact#[d,NL I d j rfl]
def aqF{xs:ES}{ds:At}{k:D}{u:V}(h:xs.map (·.1)=ds)(nd:ds.Nodup)(hv:Vals us QiG)(f:QpX)(d:us[ds.idxOf k]? = some u):∃p,atKey xs k=some p/\RelV u p.2:=by
 have hi:ds[ds.idxOf k]? = some k:=by
  rw[kA (List.idxOf_lt_length_iff.2 f)];exact congrArg some (List.getElem_idxOf _)
 rw[<- h,k4]at hi;obtain⟨x,a,e⟩:=nq.1 hi;rw[h]at a;obtain⟨y,b,c⟩:=Paired.xi hv d;rw[k4,a]at b;cases b;exact#[x.2,atKey_of_get (by rw[h];exact nd) (i:=ds.idxOf k) (by rw[a,<- e]),c]
def RI{xs:ES}{ds:At}{k:D}(h:xs.map (·.1)=ds)(a:k∉ds):atKey xs k=none:=
 atKey_none_of_get λj p b=>a (by rw[<- h];exact i9.2 #[_,l4 b,rfl])
def amf{xs:ES}{ds:At}{k:D}(h:xs.map (·.1)=ds)(nd:ds.Nodup)(a:QpX):∃p,atKey xs k=some p:=by
 rw[<- h]at a nd;obtain⟨x,b,e⟩:=i9.1 a;obtain⟨i,hi⟩:=List.mem_iff_getElem?.1 b;exact#[x.2,atKey_of_get nd (i:=i) (by rw[hi,<- e])]
def XB{H':Hp}{h':Heap}{ds:At}(g:JV w a ds vs us h'):fK P w H' h' a QlZ:=by
 refine#[g,?_,λh1 h2 q k=>?_]
 .obtain⟨_,_,o,_,_,h1,_⟩:=g;exact#[o,h1]
 .obtain⟨b,xs,o,es,ep,q1,c⟩:=q;exact#[b,xs,o,es,ep,k o q1,c]
def agy{h':Heap}{c:Addr}{ds:At}{xs:ES}{k:D}{u:V}{r:Value}(b:Qcr=false)(dd:h'.DictOfH (zc P w) a (xs++[(k,c,r)]))(h:xs.map (·.1)=ds)(g:xs.map Qmm=vs)(hv:Vals us QiG)(d:RelV u r) :
  JV w a Qke (vs++[.ref c]) (us++[u]) h':=by
 obtain⟨o,es,ep,h1,h2,f,e,_,_⟩:=dd;exact#[b,_,o,es,ep,h1,h2,f,e,by rw[ky,h];rfl,by rw[ky,g];rfl,by rw[ky];exact Paired.snoc hv d]
variable{o i value:Expr}{es:Cf}{pos':Pos}{td ty tv:TE}
theorem Ky(h:A.units+64<cLine):(zc P w).room A.in1:=by
 show A.units+1+9<cLine;lia
noncomputable def agz(h:Heap)(a:Qmv):JV w h.objs.size [] [] [] (h.push {cls:=.type "dict",data:=.dict #[]}):=
 #[pw.2 QoT,[],_,#[],0,mf _ rfl,#[rfl,rfl,rfl],rfl,rfl,rfl,rfl,.nil]
def agA:PE X QeX (λ_ H Q=>∀p,H p=none->Q QbU (upd H p (.ext (JV X.w p [] [] [])))):=λpins s Y H Q I h=>
 wpAny_Dict_empty #[.ref s.heap.objs.size,_,I.laid (a:=s.heap.objs.size) (o:=.ext (JV X.w s.heap.objs.size [] [] [])) (t':=s.toks) QiP (js _) (XB (agz s.heap I.big)),rfl,h _ Qc8]
def Ar(X:Cx)(CL:BM)(H:Hp)(k:D)(c:Addr):Prop:=Ek 8 k/\bL X.K CL H k Qft
theorem Ar.is{k:D}{c:Addr}(I:Qbj)(h:Ar X CL H k c):(zc X.prog X.w).is s.heap k c:=#[h.1,NL I h.1 h.2 rfl]
def agB(l:Qa5)(n:Qdu)(hi:Qdv)(hs:N3 i):PE X Qgn (λY H Q=>td Y H λx H1=>ty Y H1 λy H2=>∃a c ds es vs us k u,x=.ref a/\y=.ref c/\sF X CL H2 a ds es vs us/\Ar X CL H2 k c/\k∈ds/\us[ds.idxOf k]? = some u/\Q u H2):=by
 intro pins s Y H Q I h;refine JS Na.lookup hs (d9 QmC λu s1 zz=>?_);obtain⟨x,H1,v,e,q1⟩:=zz;refine d9 (hi pins s1 Y H1 _ v q1) λj s2 zz=>?_;obtain⟨y,H2,b,d,a,c,ds,es,vs,us,k,w,ex,t,g,q,hm,hw,f⟩:=zz;subst ex t;obtain rfl:u=Value.ref a:=e;obtain rfl:j=Value.ref c:=d;obtain⟨z,xs,dd,h1,h2,r⟩:=sF.have b g;obtain⟨p,m,ep⟩:=aqF h1 g.2.2.2.2 r hm hw;exact#[dd.typeIs,wpAny_getItem_heap (Ky l) (q.is b) dd m #[w,H2,b.tok _,ep,f]]
def agC(m:Qa5)(hi:Qdv)(q:Qdu):PC X .NotIn i o (λY H Q=>ty Y H λy H1=>td Y H1 λx H2=>∃a c ds es vs us k,x=.ref a/\y=.ref c/\sF X CL H2 a ds es vs us/\Ar X CL H2 k c/\Q (.bl (!decide QpX)) H2):=by
 intro pins s Y H Q I h;refine d9 QiL λl s1 zz=>?_;obtain⟨y,H1,v,e,q1⟩:=zz;refine d9 (q pins s1 Y H1 _ v q1) λu s2 zz=>?_;obtain⟨x,H2,b,f,a,c,ds,es,vs,us,k,ex,t,g,r,j⟩:=zz;subst ex t;obtain rfl:u=Value.ref a:=f;obtain rfl:l=Value.ref c:=e;obtain⟨d,xs,dd,h1,h2,w⟩:=sF.have b g;refine wpAny_notIn_heap (Ky m) (r.is b) d dd #[_,H2,b.tok _,?_,j];by_cases hm:k∈ds
 .obtain⟨p,n⟩:=amf h1 g.2.2.2.2 hm;rw[n,l5 hm];rfl
 .rw[RI h1 hm,la hm];rfl
theorem agD(C:Qa5)(E:Qdu)(hi:Qdv)(hv:QjD)(hs:Qqs) :
  PS X Qrr (λD Y H=>tv Y H λv H1=>td Y H1 λx H2=>ty Y H2 λy d=>∃a c ds es vs us k,x=.ref a/\y=.ref c/\sF X CL d a ds es vs us/\Ar X CL d k c/\k∉ds/\ds.length<=1000000/\D.nx Y (upd d a (.ext (JV X.w a Qke (vs++[.ref c]) (us++[v]))))):=by
 intro pins s Y H D I h;refine wpAny_Assign_Subscript (d9 Qmu λr s1 zz=>?_) hs;obtain⟨v,H1,L,p,q1⟩:=zz;refine d9 (E pins s1 Y H1 _ L q1) λu s2 zz=>?_;obtain⟨x,H2,K,n,z⟩:=zz;refine d9 (hi pins s2 Y H2 _ K z) λB s3 zz=>?_;obtain⟨y,d,j,m,a,c,ds,es,vs,us,k,ex,J,g,F,hm,hl,t⟩:=zz;subst ex J;obtain rfl:u=Value.ref a:=n;obtain rfl:B=Value.ref c:=m;obtain⟨l,xs,dd,h1,h2,G⟩:=sF.have j g;have hz:xs.length<=sizeLine:=by rw[l7,<- cM (f:=(·.1)),h1];lia
 refine wpAny_setItem_heap (hsz:=hz) (Ky C) (F.is j) dd λh' b e=>#[Y,_,?_,t];rw[storedH_new (RI h1 hm)]at b;have g2:=agy l b h1 h2 G p;exact JR j (by rw[g.1];exact True.intro) e (let ⟨_,_,o,_,_,q,_⟩:=g2;#[o,q]) (XB g2)
variable{ts:Bz}{ds:At}{k d:D}
theorem aB.snoc{ds:At}{d:D}(h:QfO)(q:Qdw):aB K CL Z QgZ Qkd:=
 aB.ind (P:=λds vs=>aB K CL Z QgZ Qkd) (.cons q .nil) (λa _ i=>.cons a i) h
theorem bD.aqH{p:Addr}(S:QaA)(d:Qdx):aC H Qlo/\bD K CL b Qlo Z U Y (.lH w [] []::ts) Qfe:=by
 obtain⟨fp,gp,e,r,nd,k⟩:=S.rep;have f:Z p=none:=S.zh.free d;have sh:aC H Qlo:=aC.upd d;have keep:∀a∈fp++gp,a≠p:=λa c=>by
  have:∃o,H a=some o:=by
   obtain h|h:=i8.1 c
   .exact e.there a h
   .exact r.there a h
  obtain⟨o,q⟩:=this;exact aL q d
 refine#[sh,#[#[fp,[p]++gp,e.mono QA Qez,.cons (.lH aO .nil .nil) (r.mono QA λa c=>ay (keep a (by simp[c]))),?_,λa c=>?_],S.bh.trans sh,S.zz,S.zh.trans sh,S.new,λa o q i=>?_,S.tab]]
 .refine(rk (l₁:=fp) (l₂:=gp) (a:=p)).nodup_iff.2 Qh1
 .rcases fL.1 ((rk (l₁:=fp) (l₂:=gp) (a:=p)).mem_iff.1 c) with h|h
  .subst h;exact#[f,S.bh.free d]
  .exact k a h
 .by_cases h:a=p
  .subst h;rw[aO]at q;cases q;cases i
  .rw[ay h]at q;exact S.tp a o q i
section
variable{δ1 U2:BB}{e1:Expr}{ds es ks:At}{d:L3.D}{D:dI}
structure GG(ds:At):Prop where
 n:∀d∈ds,Ek 8 d
 d:ds.Nodup
 l:ds.length<=1000000
def agF:bU X CL b QeX U (.lH X.w [] []) U:=λH Z Y ts vs Q S kk=>cC agA λp a=>by
 obtain⟨c,d⟩:=S.aqH a;exact kk _ _ Z QA c d
def agG(o:Qa5)(ok:GG ds)(h1:cN X CL b e1 U QnT δ1)(h2:cN X CL b e2 δ1 Qfo U2)(h:Qv1)(hd:es[ds.idxOf Qfo]? = some d)(hs:N3 e2:=by exactλ_ _=>rfl):cN X CL b Qc5 U d U2:=λH Z Y ts vs Q S kk=>
 cC (agB (CL:=CL) o cQ cQ hs) (h1 H Z Y ts vs _ S λv H1 Z1 j k1 r m=>h2 H1 Z1 Y ts vs _ r λv2 H2 Z2 i k2 q g=>by
  cases m with
  | @lH a _ gs hs _ _ p l f=>
   have c:=g;obtain⟨_,_,rfl,t,s⟩:=g.qy;obtain⟨u,e,k⟩:=(f.mono k2).get hd;exact#[a,_,ds,es,gs,hs,.tup ks,u,rfl,rfl,#[k2 _ _ p,l.mono k2,f.mono k2,ok.n,ok.d],#[ok.n _ h,c],h,e,kk u H2 Z2 QjT Qao q k])
theorem agH(k:Qa5)(ok:GG ds)(h1:cN X CL b e1 U Qfo δ1)(h2:cN X CL b e2 δ1 QnT U2)(l:Ek 8 Qfo)(hm:Qin) :
  qW X CL b QeB U (!decide Qv1) U2:=λH Z Y ts vs Q S kk=>
 yL (DP (agC (CL:=CL) k cQ cQ) hm) (h1 H Z Y ts vs _ S λv H1 Z1 g k1 p e=>h2 H1 Z1 Y _ _ _ p λv2 H2 Z2 f k2 o j=>by
  cases j with
  | @lH a _ gs hs _ _ m h i=>
   have c:=e.mono k2;obtain⟨_,_,rfl,r,q⟩:=e.qy;exact#[a,_,ds,es,gs,hs,.tup ks,rfl,rfl,#[m,h,i,ok.n,ok.d],#[l,c],_,rfl,kk H2 Z2 QjV Qao o])
end
def RF{b:World}{ds:At}(h:∀d∈ds,d.xC w=d.xC b)(a:Addr)(vs us:B0):JV w a ds vs us=JV b a ds vs us:=by
 have one:∀{w b:World},(∀d∈ds,d.xC w=d.xC b)->∀g:Heap,JV w a ds vs us g->JV b a ds vs us g:=λ{w b} h g q=>by
  obtain⟨e,xs,o,es,ep,h1,h2,l,k,c,j,i⟩:=q;refine#[e,xs,o,es,ep,h1,h2,l,?_,c,j,i];rw[k];refine nv λx f=>?_;rw[h x.1 (by rw[<- c];exact i9.2 #[x,f,rfl])]
 funext g;exact propext #[one h g,one (λd hd=>(h d hd).symm) g]
variable{δ1:BB}
theorem amg{c:World}{ds es:At}(h:cN X CL b e U QgK δ1)(hw:∀d∈ds,d.xC w=d.xC c):cN X CL b e U Qov δ1:=λH Z Y ts vs Q S k=>
 h H Z Y ts vs _ S λv H1 Z1 f k1 l r=>k v H1 Z1 f k1 l (by
  cases r with
  | @lH a _ gs hs _ _ j g i=>exact .lH (by rw[<- RF hw];exact j) g i)
section
variable{x:Str}{d:D}
def ai{i:Int}{j:Nat}:cN X CL b Qmc U Qa7 U:=ak j6
def bH{j:Nat}:cN X CL b Ql9 U Qbl U:=ak dJ
def aN(h:Nat.ble n 1000=true:=by rfl):n<=sizeLine:=X3 h
variable{l:Qaf}{u0 u1 u2 v:α}
def gA:wg (v::l) 0=some v:=cR rfl
def mh:wg (u0::v::l) 1=some v:=cR rfl
def tM:wg (u0::u1::v::l) 2=some v:=cR rfl
def Kz:wg (u0::u1::u2::v::l) 3=some v:=cR rfl
section
variable{scope:Scope}{Nc:BA}{C:Addr}{fp:BY}(i:Nat)
def C9(h1:Nc[i]? = some x:=by rfl)(h2:Qih:=by decide +kernel)(hd:AD x:=by decide)(jO:AE x:=by decide):Vn QbL i x:=YO h1 h2 hd jO
def auk(h1:Nc[i]? = some x:=by rfl)(h2:QlH:=by decide +kernel)(hd:AD x:=by decide)(jO:AE x:=by decide):Vn QbL i x:=alv h1 h2 hd jO
def jR(h:U[i]? = some QdN:=by rfl)(n:Vn QbL i x:=by exact C9 _):cN QbL CL b QaD U d U:=ak (v_ n h)
def iH(h:U[i]? = some QdN:=by rfl)(n:Vn QbL i x:=by exact auk _):cN QbL CL b QaD U d U:=ak (v_ n h)
def Ba(h2:Qle:=by decide +kernel):Gl QbL x:=afL h2
end
abbrev kC(X:Cx)(CL:BM)(b:Bx)(st:Stmt)(N:BA){A:Type}(arg:Qah)(Pre:Qab)(res:QaV):Prop:=∀ ⦃a:A⦄,Pre a->c7 X CL b QbV Qje {nx:=λ_=>res a=.sh .non,rt:=λc _=>c=res a}
end
abbrev GQ(X:Cx)(s:Str):Prop:=X.env.kindOf s=some .cell
structure Wq(n:Nat)(p:Prop):Prop where
 h:p
structure jv(K:Frag)(x:Str)(st:Stmt)(f:Addr)(fd:QaU):Prop extends Rw K x x st f fd where
 m:InG K x f
 dn:fd.defaults=.none
structure o1(K:Frag)(C:Addr)(x qual:Str)(st:Stmt)(f:Addr)(fd:QaU):Prop extends Rw K x qual st f fd where
 a:findIn K Qar x=some Qdb
 i:isFn K Qae=true
 dn:fd.defaults=.none
variable{x:Str}{st:Stmt}{f:Addr}{fd:QaU}{ps:BA}
theorem jv.binds(F:Qow)
  (h:∀(kV doc pm:Value) (an:Db) (ez ct:Value) (us:B1),us.length=ps.length->bindArgs QkU #[us,[]]=pure Qcy):Binds K fd ps []:=F.1.binds F.dn h
variable{C:Addr}{qual:Str}
theorem o1.binds(F:Qvy)
  (h:∀(kV doc pm:Value) (an:Db) (ez ct:Value) (us:B1),us.length=ps.length->bindArgs Qf2 #[us,[]]=pure Qcy):Binds K fd ps []:=F.1.binds F.dn h
abbrev DdM(X:Cx)(CL:BM)(b:Bx)(st:Stmt)(N:BA){A:Type}(arg:Qbu)(Pre:Qab)(res:QaV)(out:Qbu):Prop:=
 ∀a,Pre a->c7 X CL b QbV Qjw {nx:=λU=>res a=.sh .non/\Keeps U QfD,rt:=λc U=>c=res a/\Keeps U QfD}
section
variable{oc kV doc pm ez ct:Value}{od an:Db}{GH:DA}
def fn1(m:Ql7)(l:K.lookup f=some #[oc,od,.func QkU,GH])(c:QnM)(k:QfN):jv K x st f QkU:=#[Ya l c k,m,rfl]
def fn2(a:findIn K Qar x=some Qdb)(i:isFn K Qae=true)(l:Qrq)(c:Qm2)(k:QfN):o1 K C x qual st f Qf2:=#[Ya l c k,a,i,rfl]
end
abbrev LU(x qual:Str)(st:Stmt)(ps:BA):Prop:=∀(kV doc pm:Value) (an:Db) (ez ct:Value),Yu ps.length λus=>bindArgs (W.fnOf x qual (fX st) QbV Qa6 Value.none kV doc pm an ez ct) {pos:=us}=pure Qcy
def aqI(P:Qat)(w:World)(mg:Bi)(base:Heap){K:Frag}{h:Heap}(CL:BM)(l:K.In h)(G:Qwy){x:Str}{st:Stmt}{f:Addr}{fd:QaU}{N ps:BA}(k:Nat){A:Type}(arg:Qah)(Pre:Qab)(res:QaV)(F:Qow)(S:Qdt)
  (j:∀{ez:Value} {i:Qav} {outer:D2} {s:Qb} {H:Hp} {E:XK} {b:Bx} {a:A},fc k (i.deeper (envOfC x Qa6 s.heap.objs.size f ez))->VF (tS oG P w K mg base N x Qa6 f ez i outer s H E).Q6->Pre a →
   c7 (tS oG P w K mg base N x Qa6 f ez i outer s H E).Q6 CL b QbV Qje {nx:=λ_=>res a=.sh .non,rt:=λt _=>t=res a})
  (q:LU x x st ps:=by(repeat intro _);rfl) :
  ∃f fd g,dg P w K mg base oG QaZ f fd g Qr4/\mg x=some Qae/\keepIn K Qae=true/\Binds K fd g []:=#[f,fd,ps,j8 F.1 S λ_ _ _ _ _ _ _ _ _ r p=>j r #[#[S.nd,rfl,.never],r.units] p,l8 l G F.m,F.kp,F.binds λa b c d e f=>Ej QnU]
def agI:z6 X "list.extend" (λx vs H Q=>RO X.K x vs H Q\/RY X.K x vs H Q):=by
 intro pins s Y H x vs v us Q I a b h;obtain h|h:=h
 .exact agp _ _ _ _ _ _ _ _ _ I a b h
 .exact agc _ _ _ _ _ _ _ _ _ I a b h
section
variable{tl tl0:Bz}{sq:At->L3.D}{ds:At}{D:dI}{pp pa pb pc:Pos}{i:Nat}{c f:Str}{fD:CO}{gs:BS}
def Nw(X:Cx)(CL:BM)(b:Bx)(e:Expr)(U:BB)(ds:At)(δ1:BB):Prop:=
 ∀(H Z:Hp) (Y:L2.St) (ts:Bz) (vs:B0) (Q:VK),bD X.K CL b H Z U Y ts vs->(∀a us H' Z',aC Z Z'->aC H H'->bD X.K CL b H' Z' δ1 Y ts vs->aB X.K CL Z' ds us->nF X.K H' a us\/tP X.K H' a us->Q Qag H')->yK X e Y H Q
def Sh(h:cN X CL b e U (sq ds) δ1)(c:L3.D.bC ds=true)(hd:sq=.lst\/sq=.tup:=by first|exact .inl rfl|exact .inr rfl):Nw X CL b e U ds δ1:=λH Z Y ts vs Q S k=>h H Z Y _ _ _ S λv H1 Z1 g k1 d a=>by
 obtain rfl|rfl:=hd
 .obtain⟨_,_,rfl,f,a⟩:=a.iM;exact k _ _ _ _ g k1 d Qxd (.inl f)
 .obtain⟨_,_,rfl,f,a⟩:=a.qy;exact k _ _ _ _ g k1 d Qxd (.inr f)
def aum(h:Qmf):Nw X CL b e U ds δ1:=λH Z Y ts vs Q S k=>h H Z Y _ _ _ S λv H1 Z1 c k1 a=>by
 obtain⟨_,_,rfl,f,d⟩:=a.GP.iM;exact k _ _ _ _ c k1 a.pop d (.inl (a.zh.seq f))
def t6(n:Qa0)(h0:U[i]? = some Qi5)(h:Nw X CL b e U ds δ1)(h1:δ1[i]? = some Qfh)(hl:tl.length+ds.length<=1000000)(k:c7 X CL b fD (δ1.set i (some Qt9)) D)
  (r:attributeBase QaW "extend" X.env QvZ=eval QaW X.env:=by rfl)
  (w:Qhq:=by rfl)
  (d:Qhr:=by rfl) (hs:Qaz:=by exact bq rfl) (v:swapsWith QqP none pos.line X.env=pure false:=by rfl) :
  c7 X CL b (.Expr QqP pos::fD) U D:=b8 λH Z Y ts vs E S M=>
 oH (yz (NW y3 PySem.F.slot_list_extend PySem.F.type_list_extend agI QeE QaQ r w d hs rfl) v) (by
  obtain⟨v0,e0,o⟩:=S.look h0;refine#[ _,e0,?_,h H Z Y _ _ _ S λ_ us H1 Z1 m k1 u f c=>?_]
  .obtain⟨_,_,rfl,c,_⟩:=o.iM;exact .inl #[rfl,_,c]
  .obtain⟨a,ws,j,g,s,t⟩:=u.abW (p:=[]) f e0 h1 rfl rfl;have q:=M.nx _ Y _ _ m t k;have l:ws.length+us.length<=sizeLine:=by rw[s,<- f.length];exact mi (oI hl Wl)
   exact c.imp (λc=>#[a,_,_,_,j,rfl,g,c,l,q]) λc=>#[a,_,_,_,j,rfl,g,c,l,q])
def gH(j:QfV)(n:Qhu)(nm:Qa0)(h:QdA)(h1:δ1[i]? = some (some (.pin a (.ins c gs))))(hl:gs.length<1000)(k:c7 X CL b fD (δ1.set i (some (.pin a (.ins c (nR f t gs))))) D)
  (hs:swapsWith e (some (.Attribute (.Name x pa) f pb)) pc.line X.env=pure false:=by rfl):c7 X CL b (.Assign [.Attribute (.Name x pa) f pb] e pc::fD) U D:=b8 λH Z Y ts vs E S M=>
 oH (ak0 QlI cQ hs) (h H Z Y ts vs _ S λv H' Z' z d=>by
  obtain⟨v0,e0,_⟩:=d.look h1;obtain⟨m,dx,ws,l,g,hlen,o⟩:=d.IJ (p:=[]) (f:=f) e0 h1 rfl rfl;exact#[_,e0,m,CL c,dx,ws,l,g,j,n,hlen▸hl,M.nx _ Y _ Z' z o k])
end
def V0{W:XK}:Passes QdK QbA W:=λpins Y H s ev s' I h=>by
 obtain⟨e,C,a0,B,H',rfl,i,g,f,d,c,b,a⟩:=h;exact#[e,C,pins,Y,H,H',s,rfl,I.jG,a,i,g,.inr #[a0,B,#[d,c,b],.inr f]]
noncomputable def T.bad:T:=.pin 0 Qph
section
variable{U2 U':BB}{D:dI}{pp apos:Pos}{i k:Nat}{fD:CO}{W:XK}{c m:Str}{A:Type}{Pre:Qab}{exc:Qb0}
def V1(i:Nat)(h:U[i]? = some (some T.bad)):c7 X CL b fD U D:=λH Z Y ts vs E S M=>by
 obtain⟨fp,gp,e,r,nd,k⟩:=S.rep;obtain⟨v,_,_,_,_,_,rt,_⟩:=e.get h;unfold T.bad at rt;have d:=rt.Rz;obtain⟨rfl,c⟩:=d;have a:=c.Gz;cases a.2
theorem eZ.at(e:eZ b W C)(S:Qhx):eZ #[H,Z] W C:=λH' Z' d zz zh nw tp=>e H' Z' (S.bh.trans d) (S.zz.trans zz) zh (λa o q z=>by
 cases c:Z a with
 | none=>exact JX S.bh (nw a o q c)
 | some u=>exact S.new a u c z) tp
theorem V2{arg:Qah}(a:A)(i:QnC)(p:eZ b W QdZ)(F:Ql4)(m:Qaw)(h:vc X CL b Qap U ((arg a).map T.sh) δ1)(j:Pre a)(hn:QbZ:=by rfl)
  (g:AD x:=by decide) (he:Qaq:=by exact bq rfl) (hpl:QaE:=by rfl) :
  bU X CL b Qbo U t U2:=λH Z Y ts vs Q S kk=>by
 obtain⟨f,fd,ps,q,hm,l,o⟩:=F.ex;refine cC (Dl q F.room m hm l o .nil i JW g he hpl) (h H Z Y ts vs _ S λus H1 Z1 hl r c=>?_);rw[ko];have d:us.length=(arg a).length:=by simp_all
 exact#[Z1,a,c.zh,c.tp,c.yM d,hn,j,c.N7,p.at c]
theorem asf{pl:Qhc}{arg:Qah}{fs:Qv2}{ds:At}(a:A)(z:QnC)(K:eZ b W QdZ)(F:FqR X CL c m k n arg Pre exc)(E:cN X CL b o U Qa3 δ1)(h:GA X CL b Qap δ1 Qb3 U2)(j:arg a=.ins c fs::ds)(C:Pre a)(hf:Qhe:=by rfl)(hn:QbZ:=by rfl)
  (he:Qaq:=by exact bq rfl) (hpl:QaE:=by rfl)
  (B:eval QhW X.env=(do
   let I ← eval o X.env
   standAt apos.atName
   let (f,first) ← holding [I] Qi3
   callWith pos f first (backTo pos QeJ) QdE):=by rfl) :
  bU X CL b QhW U t U':=λH Z Y ts vs Q S kk=>by
 obtain⟨f,fd,ps,M,N,J⟩:=F.ex;refine cC (JK cQ F.cls M N F.room J .nil z JW he hpl B) (E H Z Y ts vs _ S λv H1 Z1 R k1 L r=>?_);have u:=r;obtain⟨y,dx,gs,rfl,x,s⟩:=r.D0;refine#[y,dx,gs,rfl,x,s.none hf,h H1 Z1 Y ts vs _ L λus H2 Z2 hl P k2 g=>?_];rw[ko];have i:us.length=ds.length:=by simp_all
 have p:=(g.yM i).mono g.zh;refine#[H2,a,.refl _,λ_ _ q _=>q,by rw[j];exact .cons (u.mono k2) p,hn,C,g.N8,λH' Z' G ww l nw tp=>?_];obtain⟨Z3,O,d⟩:=g.grown G g.zh ww l nw tp;exact K H' Z3 d.bh d.zz d.zh d.new d.tp
def Gk(K:Frag)(CL:BM)(n:Nat)(arg:Qbu)(Pre:Qab)(exc:Qb0):Sp:=λvs H _ E=>
 ∃(W:Hp) (a:A) (gp:BY),aC W Qkb/\(∀c o,H c=some o->jH o=true->W c=some o)/\aU K CL H W Qcx vs gp/\gp.Nodup/\(arg a).length=n/\Pre a/\nM CL W/\eZ #[rE H gp,W] E QdZ
theorem KC{mg:Bi}{base:Heap}{N:BA}{arg:Qbu}(F:Qds)(S:Qdt)
  (l:∀(ez:Value) (e:Qav) (outer:D2) (s:Qb) (H:Hp) (E:XK) (b:Bx) (a:A),fc k (e.deeper Qf3)->Pre a->eZ b E QdZ →
   c7 ((tS Qfz P w K mg base N qual Qa6 f ez e outer s H E).i4 (XE (tS Qfz P w K mg base N qual Qa6 f ez e outer s H E) E)) CL b QbV Qjw {nx:=λ_=>False,rt:=λ_ _=>False}) :
  dg P w K mg base Qfz QaZ f fd ps (Gk K CL ps.length arg Pre exc):=by
 obtain⟨dV,oc,od,kV,doc,pm,an,ez,ct,GH,rfl,lk,jO⟩:=F.ex;refine Mc lk jO S (λvs H Q E h=>?_) λe outer s H vs Q E i h=>?_
 .obtain⟨W,a,gp,_,_,r,_,hl,_⟩:=h;rw[<- r.length];exact hl
 .obtain⟨W,a,gp,g,tp,r,nd,hl,j,tb,m⟩:=h;have wn:∀c∈gp,W c=none:=λc d=>by
   cases q:W c with
   | none=>rfl
   | some o=>exact absurd d (k6 (g c o q)).1
  have h0:gu K CL H W Qjw (start N vs) gp:=by
   unfold nS L2.start;rw[<- r.length];exact Cu _ r
  have h1:∀c o,W c=some o->W c=none->rE H gp c=none:=λc o q z=>by grind
  have body:=l ez e outer s H E #[rE H gp,W] a i j m H W _ [] [] {nx:=λ_ _=>False,rt:=λ_ _=>False} #[#[gp,[],h0,.nil,by rw[ko];exact nd,λc d=>by rw[ko]at d;exact#[wn c d,rG d]],λc o q=>(k6 q).2,.refl _,λc o q=>(k6 (g c o q)).2,h1,tp,tb] #[λ_ _ _ _ _ _ z=>z.elim,λ_ _ _ _ _ _ _ _ z=>z.elim,λ_ _ _ _ _ _ z=>z.elim,λ_ _ _ _ _ _ z=>z.elim];refine#[ _,oa,λpins s1 I=>?_];refine me (body pins s1 (I.i4 _)) (λfl s' z=>?_) λev s' z=>al5 rfl rfl rfl rfl z;cases fl with
  | next=>obtain⟨_,_,_,q⟩:=z;exact q.elim
  | brk=>obtain⟨_,_,_,q⟩:=z;exact q.elim
  | cont=>obtain⟨_,_,_,q⟩:=z;exact q.elim
  | ret u=>obtain⟨_,_,_,_,_,q⟩:=z;exact q.elim
def Si{mg:Bi}{base:Heap}{N:BA}{arg:Qah}(F:Qds)(S:Qdt)
  (j:∀(ez:Value) (c:Qav) (outer:D2) (s:Qb) (H:Hp) (E:XK) (b:Bx) (a:A),fc k (c.deeper Qf3)->Pre a->eZ b E QdZ →
   c7 ((tS Qfz P w K mg base N qual Qa6 f ez c outer s H E).i4 (XE (tS Qfz P w K mg base N qual Qa6 f ez c outer s H E) E)) CL b QbV Qje {nx:=λ_=>False,rt:=λ_ _=>False}) :
  dg P w K mg base Qfz QaZ f fd ps (qr K CL ps.length arg Pre exc):=
 (KC (arg:=λa=>(arg a).map T.sh) F S λez c outer s H E b a i d g=>by
  unfold nS;rw[kc,cM];exact j ez c outer s H E b a i d g).imp λvs H Q E z=>by
  obtain⟨W,a,h,tp,r,hl,d,tb,g⟩:=z;have e:rE H []=H:=by funext;simp[rE]
  exact#[W,a,[],e▸h,tp,aU.JJ r,.nil,by simpa using hl,d,tb,e.symm▸g]
structure F1(X:Cx)(CL:BM)(c m:Str)(k n:Nat){A:Type}(arg:Qbu)(Pre:Qab)(exc:Qb0):Prop where
 ex:∃f fd ps,Meth X.K (CL c) m f/\dg X.prog X.w X.K X.mg X.base QdK k f fd ps (Gk X.K CL n arg Pre exc)/\Binds X.K fd ps []
 room:fc k X.A
 cls:yG X.K (CL c)
theorem OJ{pl:Qhc}{arg:Qbu}{g:QgO}{dl:At}{fs:BS}(a:Addr->A)(v:QnC)(G:∀y,eZ b W (CL (exc (a y))))(F:F1 X CL c m k n arg Pre exc)(nm:Qa0)(hi:Qjn)(h:Qrn)(C:∀y,g y->Pre (a y))
  (hf:Qhe:=by rfl) (j:∀y,g y->arg (a y)=.pin y Qa3::dl.map T.sh:=by intros;rfl) (hlen:∀y,(arg (a y)).length=n:=by intros;rfl)
  (he:Qaq:=by exact bq rfl) (hpl:QaE:=by rfl)
  (B:eval Qex X.env=(do
   let I ← eval QaW X.env
   standAt apos.atName
   let (f,first) ← holding [I] Qi3
   callWith pos f first (backTo pos QeJ) QdE):=by rfl) :
  bU X CL b Qex U t U2:=λH Z Y ts vs Q S kk=>by
 obtain⟨f,fd,ps,M,N,D⟩:=F.ex;obtain⟨y,dx,gs,q,ev,E,hn,L⟩:=S.recv hi;refine cC (JK QlI F.cls M N F.room D .nil v JW he hpl B) #[_,ev,y,dx,gs,rfl,E,hn m hf,h H Z Y _ _ _ L λus H1 Z1 hl O k1 u=>?_];rw[ko];have o:bD X.K CL b H1 Z1 δ1 Y ((T.pin y Qa3::dl.map T.sh).reverse++ts) ((V.ref y::us).reverse++vs):=by simp_all
 obtain⟨gp,r,nd,l⟩:=o.cut WA;obtain⟨s,p,pm⟩:=r.rev;have J:rE H1 gp=rE H1 s:=funext λc=>by
  by_cases d:c∈gp
  .rw[rG d,rG Qvx]
  .rw[ku d,ku QrM]
 rw[J]at l;rw[<- j y q]at p;exact#[Z1,a y,s,l.zh,u.tp,p,pm.nodup_iff.2 nd,hlen y,C y q,u.N7,(G y).at l]
end
variable{t0:T}{u v0 wv:V}{i:Nat}{ds es:At}{k d:L3.D}
theorem bD.amh(S:bD K CL b H Z U Y (.sh k::.sh d::ts) (v::u::vs))(ev:Y[i]? = some QcC)(hi:U[i]? = some Qb9)(o:T.jX p t0=some QgK)(l:C8 H v0 p wv) :
  ∃a gs hs,wv=.ref a/\H a=some (.ext (JV w a ds gs hs))/\aB K CL Z ds gs/\aB K CL Z es hs/\bD K CL b (upd H a (.ext (JV w a Qke (gs++[v]) (hs++[u])))) Z (U.set i (some (T.je p (.lH w Qke (es++[d])) t0))) Y ts vs:=by
 obtain⟨f2,gp,m,n,nd,go⟩:=S.A9 ev hi o l;cases m with
 | @lH a _ gs hs _ _ q rs h=>
  cases n with
  | @cons _ _ _ _ s j q1 g=>
   replace q1:=q1.Gz;obtain⟨rfl,q1⟩:=q1;cases g with
   | @cons _ _ _ _ r j e g=>
    replace e:=e.Gz;obtain⟨rfl,e⟩:=e;have ne:∀c∈j,c≠a:=λc f z=>by subst z;exact(ml.1 nd).1 (by simp[f])
    exact#[a,gs,hs,rfl,q,rs,h,go rfl List.mem_cons_self rfl (.lH aO (rs.snoc q1) (h.snoc e)) (g.mono QA λc f=>ay (ne c f)) (by simpa using nd) λc f=>by simpa using f]
section
variable{e0:Expr}{t1:T}{ks:At}{D:dI}{ps pb:Pos}{fD:CO}{c f:Str}{fs:BS}
def agL(r:Qa5)(ok:GG ds)(h:QiD)(y:QmY)(h2:bU X CL b e2 δ1 (.sh Qfo) δ1)(h1:δ1[i]? = some QgW)(B:T.jX p t1=some QnT)(s:Ek 8 Qfo)(hn:L3.D.tup ks∉ds)(kk:c7 X CL b fD (δ1.set i (some (T.je p (.lH X.w (ds++[.tup ks]) (es++[d])) t1))) D)
  (hs:Qqz:=by rfl):c7 X CL b Qlf U D:=b8 λH Z Y ts vs E S M=>
 oH (agD (CL:=CL) r cQ cQ cQ hs) (h H Z Y ts vs _ S λv H1 Z1 o k1 G=>y H1 Z1 Y _ _ _ G λv0 w H2 Z2 m k2 F ev q=>h2 H2 Z2 Y _ _ _ F λv2 K Z3 k k3 f=>by
  have j:=f.GP;have g:=j;obtain⟨c,us,rfl,J,I⟩:=j.qy;obtain⟨a,gs,hs,z,x,u,t,C⟩:=f.amh ev h1 B (q.mono k3);exact#[a,c,ds,es,gs,hs,.tup ks,z,rfl,#[x,u.mono f.zh,t.mono f.zh,ok.n,ok.d],#[s,g.mono f.zh],hn,ok.l,M.nx _ Y _ Z3 (o.trans (m.trans k)) C kk])
def acd{z w:Int}(B:QfV)(n:Qhu)(F:Qxc)(h1:U[i]? = some QgW)(q:T.jX p t1=some Qa3)(hf:fs.lookup f=some QxR)(h:Qua)(hl:fs.length<1000)
  (k:c7 X CL b fD (U.set i (some (T.je p (.ins c (nR f (.sh (.int (z-w))) fs)) t1))) D):c7 X CL b (.AugAssign (.Attribute e0 f pb) .Sub e pos::fD) U D:=b8 λH Z Y ts vs E S M=>
 oH (XI cQ cQ ak1) (F H Z Y ts vs _ S λv0 v H1 Z1 u k1 s ev o=>by
  obtain⟨v',f2,at',r⟩:=s.Yr ev h1 q;have:=at'.inj o;subst this;obtain⟨a,dx,gs,g,rfl,rfl,C,rs⟩:=r.D0;obtain⟨y,g1,g2,g3,A,_,j,_⟩:=cS.at _ rs hf;replace j:=j.Gz;obtain⟨rfl,j⟩:=j;cases j;refine#[a,CL c,dx,gs,_,rfl,C,B,n,A,h H1 Z1 Y ts vs _ s λv2 H2 Z2 t k2 L x=>?_];cases x;obtain⟨N,m,l,G,I,hlen,J⟩:=(L.push (d:=.int (z-w)) Qbs).IJ (f:=f) ev h1 q (o.mono k2);cases G;exact#[z,w,rfl,rfl,m,l,I,by rw[hlen];exact hl,M.nx _ Y _ Z2 (u.trans t) J k])
end
def KD{a:World}{ds:At}(h:∀d∈ds,d.xC w=d.xC a):(D.tup ds).xC w=(D.tup ds).xC a:=by
 rw[D.xC,D.xC,zb,zb,nv h]
section
variable{D:dI}{fD:CO}
def LM(p:QcG)(c:World)(hi:U[i]? = some Qb9)(n:T.x5 p t0=some QgK)(hw:∀d∈ds,d.xC w=d.xC c)(k:c7 X CL b fD (U.set i (some (T.Yy p Qov t0))) D):c7 X CL b fD U D:=λH Z Y ts vs E S M=>by
 refine k H Z Y ts vs E ?_ M;obtain⟨fp,gp,e,r,nd,kk⟩:=S.rep;obtain⟨v1,e1,e2,q,hv,j,rt,put,_⟩:=e.get hi;obtain⟨h,f2,at',l,put2⟩:=rt.raw S.zh p n;have f:bO X.K CL H Z Qov h f2:=by
  cases l with
  | @lH a _ gs hs _ _ o rs m=>exact .lH (by rw[<- RF hw];exact o) rs m
 have g:=put QA Qcs (put2 f);rw[jk hv]at g;subst j;exact#[#[_,gp,g,r,nd,kk],S.bh,S.zz,S.zh,S.new,S.tp,S.tab]
end
structure FnD(K:Frag)(x:Str)(st:Stmt)(f:Addr)(fd:QaU)(ps:BA):Prop extends Rw K x x st f fd where
 m:InG K x f
 b:Binds K fd ps []
def fnD{tp:Addr}{oc:Value}{od an:Db}{GH:DA}{kV doc pm ez ct:Value}{o:Obj}{items:Cc}(m:Ql7)(l:Qrs)
  (c:QnM) (k:QfN) (lt:K.lookup tp=some o) (od:o.data=.seq items n)
  (q:Yu ps.length λus=>∃kk,bindArgs QkT {pos:=us}=seqItems? QpI >>= kk/\kk QoD=pure Qcy) :
  FnD K x st f QkK ps:=by
 refine#[#[#[_,oc,_,kV,doc,pm,an,ez,ct,GH,rfl,l,c],k],m,λs us a hl=>?_];rw[ko]at hl ⊢;obtain⟨kk,e1,e2⟩:=Ej q us hl;exact .of_defaults rfl (a _ _ lt) od e1 e2
variable{fD:CO}
theorem c7.mono{D D':dI}(h:c7 X CL b fD U D)(nx:∀U,D.nx U->D'.nx U)(rt:∀t U,D.rt t U->D'.rt t U)(bk:∀U,D.bk U->D'.bk U:=by intro _ z;exact z)(ct:∀U,D.ct U->D'.ct U:=by intro _ z;exact z):c7 X CL b fD U D':=λH Z Y ts vs E S M=>
 h H Z Y ts vs E S #[λU' Y' H' Z' z a q=>M.nx U' Y' H' Z' z a (nx _ q),λt v H' Z' U' Y' z a q=>M.rt t v H' Z' U' Y' z a (rt _ _ q),λU' Y' H' Z' z a q=>M.bk U' Y' H' Z' z a (bk _ q),λU' Y' H' Z' z a q=>M.ct U' Y' H' Z' z a (ct _ q)]
section
variable{D:dI}{px:Pos}{body:CO}
theorem agM(g:Gx X)(nm:Qbt)(P:Qhv)(h:Qsw)(h0:P 0 δ1)(hl:∀j U,P j U->i<U.length)
  (hs:∀(I:Bx) (j:Nat) (k:CU) (d:L3.D) U,kvs[j]? = some (k,d)->P j U->c7 X CL I body (U.set i (some (wN k))) {nx:=P QU,rt:=D.rt,bk:=λU2=>c7 X CL b fD U2 D,ct:=P QU}) (hd:∀U,P kvs.length U->c7 X CL b fD U D)
  (B:AN X e:=by intro _;rfl):c7 X CL b (.For QoM e body [] pos::fD) U D:=b8 λH Z Y ts vs E S M=>
 oH (X0 g.xe g.calm (amd cQ) (yC g.nd nm.hi nm.loc nm.hf) oa B) (h H Z Y ts vs _ S λv H1 Z1 l k1 o=>by
  have r:=o.GP;cases r with
  | @dct a gs _ en w q=>
   have z:kvs.length=gs.length:=q.length;refine#[a,gs,en,rfl,Rd.mono o.zh w,λj m Y H2=>m=gs.length-j/\j<=gs.length/\∃Z2 U2,aC Z1 Z2/\bD X.K CL b H2 Z2 U2 Y ts vs/\P j U2,#[_,rfl,kx _,_,δ1,.refl _,o.pop,h0],?_];rintro j m J H2 ⟨rfl,N,Z2,U2,s,f,p2⟩;have p:=Rd.mono f.zh (Rd.mono s w);by_cases u:j<gs.length
   .refine .inr #[#[u,p],_,λY' H' h=>#[_,We,rfl,u,h],λy H' A=>?_];obtain⟨rfl,L,k,v,rfl,F,C⟩:=A;obtain⟨d,n,_⟩:=(q.mono s).xi F;exact hs _ j k d U2 n p2 _ Z2 _ ts vs _ ((f.RM (.tup (f.tp _ _ C rfl) (aU.JJ (yX _)))).set (hl j U2 p2)) #[λU' Y' H' Z' s' c k=>#[Z',U',s.trans s',c,k],λt v H' Z' U' Y' s' c k=>M.rt t v _ _ U' Y' QtP c k,λU' Y' H' Z' s' c k=>M.nx U' Y' _ _ QtP c k,λU' Y' H' Z' s' c k=>#[Z',U',s.trans s',c,k]]
   .have G:j=gs.length:=by lia
    subst G;exact .inl #[#[js _,p],M.nx U2 J _ _ (l.trans s) f (hd U2 (z▸p2))])
end
def OL(kvs:Qnp):At:=kvs.map λq=>VJ q.1
variable{H1 Z1:Hp}{gs:B2}{en:Nat}
theorem YB(S:bD X.K CL b H1 Z1 δ1 Y ts vs)(e:Rd Z1 a QbD)(c:gV X.K CL Z1 kvs gs):D7 X CL b δ1 Y ts vs Z1 H1 (OL kvs) QoO H1:=by
 have hl:=c.length;have h:(OL kvs).length=gs.length:=by unfold OL;rw[cM,hl]
 refine#[Z1,.refl _,.refl _,S,λi H2 s hi=>#[We,Rd.mono s e],λi Z2 H2 x H' s1 s2 tp hi f=>?_,λH2 s=>#[We,Rd.mono s e]];obtain⟨rfl,m,k,v,rfl,j,g⟩:=f;obtain⟨d,hd,l⟩:=c.xi j;exact#[Z2,VJ k,by unfold OL;rw[k4,hd];rfl,.refl s2 tp,.tup (tP.of (tp _ _ g rfl)) (yX _)]
theorem A2(h:Qsw)(S:Qhx):Ot X (yK X e) Y H (D7 X CL b δ1 Y ts vs Z H (OL kvs)):=h H Z Y ts vs _ S λv H1 Z1 f k1 c=>by
 have r:=c.GP;cases r with
 | @dct a gs _ en d g=>
  obtain⟨Z2,q1,j,i⟩:=(YB c.pop d g).ex;exact#[a,gs,en,rfl,Rd.mono c.zh d,#[Z2,f.trans q1,k1.trans j,i]]
variable{e1:Expr}{c:Str}{fs:Qv2}
def KG{kj:Nat}{p2:Pos}(h:cN X CL b e1 U Qa3 δ1):qW X CL b Qk1 U false δ1:=λH Z Y ts vs Q S k=>
 yL (DP (Rh cQ)) (h H Z Y ts vs _ S λv H1 Z1 a k1 d r=>by
   obtain⟨_,_,_,rfl,_,_⟩:=r.D0;exact#[_,rfl,by simpa using k H1 Z1 a k1 d])
structure EL(X:Cx)(N G:BA):Prop extends VF X where
 ll:∀(i:Nat) {x:Str} (_:N[i]? = some x:=by rfl),Ln X i x
 gg:∀(i:Nat) {x:Str} (_:G[i]? = some x:=by rfl),Gl X x
noncomputable abbrev Tb(N:BA):Bool:=N.all λx=>!(x==("__debug__":Str)) && !(x==("__classdict__":Str))
variable{N P G:BA}{tb:DO}
def gE(u:VF X)(c:QmZ)(a:X.N=N:=by rfl)(hf:∀x,X.fn x=true:=by exactλ_=>rfl)(hd:Tb N=true:=by decide +kernel):EL X N G:=
 #[u,λi x h=>by
  have:=nr.1 hd _ (l4 h);simp only[l9,u3]at this;exact gL c i h (by rw[a];exact h) (hf x) this.1 this.2,λi x h=>gG c i h]
def KH{sc:Scope}(h:Q7 sc tb=true){k:NameKind}(m:(x,k)∈tb):sc.names.lookup x=some k:=by
 obtain⟨i,hi⟩:=List.mem_iff_getElem?.1 m;exact cX h i hi
def cE(u:VF X)(c:Q7 X.env.scope tb=true)(a:X.N=N:=by rfl)(hf:∀x,X.fn x=true:=by exactλ_=>rfl)(hd:Tb N=true:=by decide +kernel)
  (hl:∀x∈N,(x,.local)∈tb\/(x,.cell)∈tb:=by decide +kernel) (b:∀x∈G,(x,.globalImplicit)∈tb:=by decide +kernel):EL X N G:=
 #[u,λi x h=>by
  have:=nr.1 hd _ (l4 h);simp only[l9,u3]at this;obtain m|m:=hl x (l4 h)
  .exact NM (by rw[a];exact h) (KH c m) (hf x) this.1 this.2
  .exact mkC (by rw[a];exact h) (KH c m) (hf x) this.1 this.2,λi x h=>KH c (b x (l4 h))]
abbrev Q9(K:Frag)(x:Str):Prop:=nsIn K mainGlobals x=some none
abbrev Bb(K:Frag)(x:Str)(n:Int)(t:Tok):Prop:=nsIn K mainGlobals x=some (some (.int n t))
theorem jv.bA(F:Qow)(ps:BA)(q:LU x x st ps:=by(repeat intro _);rfl):Binds K fd ps []:=F.binds λa b c d e f=>Ej QnU
theorem o1.bA(F:Qvy)(ps:BA)(q:LU x qual st ps:=by(repeat intro _);rfl):Binds K fd ps []:=F.binds λa b c d e f=>Ej QnU
open PySem.W in
def YC(n:Nat){α:Type}(R:α->Prop):KasT α->Prop
 | .ret a=>R a
 | .ask i j k=>i<n/\j<n/\∀c,YC n R (k c)
open PySem.W in
noncomputable def Fs{α:Type}(f:Qwz):KasT α->α
 | .ret a=>a
 | .ask i j k=>Fs f (k (f i j))
section
open PySem.W
variable{β:Type}{p:QhE}{R:α->Prop}
theorem vG{S:β->Prop}{g:α->KasT β}(h:∀a,R a->YC n S (g a)):∀{t:KasT α},YC n R t->YC n S (t.bind g)
 | .ret a,r=>h a r
 | .ask i j k,r=>#[r.1,r.2.1,λc=>vG h (r.2.2 c)]
theorem V3{f:Qwz}{cmp:Nat->Nat->Qmo->Shared->Prop}(h:∀i j C s,i<n->j<n->C (f i j) s->cmp i j C s):∀{t:KasT α},YC n R t->R (Fs f t)/\∀Q s,Q (Fs f t) s->t.kasWp cmp Q s
 | .ret a,r=>#[r,λQ s q=>q]
 | .ask i j k,r=>#[(V3 h (r.2.2 _)).1,λQ s q=>h i j _ s r.1 r.2.1 ((V3 h (r.2.2 _)).2 Q s q)]
def Ni(n:Nat)(p:QhE):Prop:=p.Perm (List.toArray (List.range QaC))
theorem Ni.gd(h:QfY){k:Nat}:p.getD k 0<n+1:=by
 unfold Array.getD;split
 .have:=h.mem_iff.1 (Array.getElem_mem ‹_›);simp_all
 .lia
theorem Ni.rev(h:QfY)(i j d:Nat):Ni n (mirror p i j d):=(mirror_perm p i j d).trans h
theorem Sj(h:QfY):∀m k,YC QaC Qji (kas_asc p m k)
 | 0,_=>trivial
 | m+1,k=>#[h.gd,h.gd,fun|true=>trivial|false=>Sj h m _]
theorem KJ:∀m (p:QhE) k q,Ni n p->YC QaC (λr=>Ni n r.1) (kas_desc m p k q)
 | 0,_,_,_,h=>h
 | m+1,p,k,q,h=>#[h.gd,h.gd,fun
  | true=>by
   show YC _ _ (if q > 0 then _ else _);split<;>exact KJ m _ _ _ (by first|exact h.rev .. | exact h)
  | false=>#[h.gd,h.gd,fun|true=>h|false=>KJ m _ _ _ h]]
def acg(h:QfY)(k m:Nat):YC QaC Qu5 (kas_tail3 k m p):=vG (λ_ _=>by exact h.rev ..) (Sj (h.rev ..) _ _)
def V4(h:QfY)(k m:Nat):YC QaC Qu5 (kas_descPart k m p):=vG (λr q=>by split<;>exact acg (by first|exact q.rev .. | exact q) _ _) (KJ _ _ _ _ h)
theorem El(h:QfY)(k:Nat):∀m l r,YC QaC Qji (kas_place p k m l r)
 | 0,_,_=>trivial
 | m+1,l,r=>by
  unfold kas_place;split
  .trivial
  .exact#[h.gd,h.gd,fun|true=>El h k m _ _|false=>El h k m _ _]
theorem Ta:∀m (p:QhE) k,Ni n p->YC QaC (Ni n) (kas_bin m p k)
 | 0,_,_,h=>h
 | m+1,p,k,h=>vG (λl _=>Ta m _ _ ((bubble_perm ..).trans h)) (El h k k 0 k)
def V5:YC QaC (Ni n) (kas_sort QaC):=by
 have h:Ni n _:=Array.Perm.refl _;refine vG (R:=λr=>Ni n r.2) (λr q=>?_) (vG (λk _=>?_) (Sj h _ _))
 .split
  .exact Ta _ _ _ q
  .exact q
 .split
  .exact h
  .split
   .exact#[h.gd,h.gd,fun|true=>h|false=>V4 (h.rev ..) _ _]
   .exact V4 h _ _
end
noncomputable def qE(p:Ch)(l:Qaf):List α:=p.filterMap (l[·]?)
def o4(kz:AT):Ch:=(Fs (λi j=>decide Qvz) (PySem.W.kas_sort kz.length)).toList
def jb(g:QkF)(l:Qaf):List α:=qE (o4 (l.map g)) l
variable{β:Type}{g:QkF}{l:Qaf}
theorem Em(kz:AT):(o4 kz).Perm (List.range kz.length):=by
 cases kz with
 | nil=>exact .refl _
 | cons k kz=>exact Array.perm_iff_toList_perm.1 (V3 (λi j C s _ _ c=>c) V5).1
theorem OO:∀l:List α,qE (List.range l.length) l=l
 | []=>rfl
 | a::l=>by
  unfold qE;rw[mM,List.range_succ_eq_map,nz,List.filterMap_map];exact congrArg _ (OO l)
variable{kz:AT}
noncomputable def IL(h:kz.length=l.length):(qE (o4 kz) l).Perm l:=((Em _).filterMap _).trans (.of_eq (h▸OO l))
def rH(l:Qaf):(jb g l).Perm l:=IL (cM _)
def Bc{x:α}:x∈jb g l↔x∈l:=(rH l).mem_iff
def Bd(l:Qaf):(jb g l).length=l.length:=(rH l).length_eq
def IQ(f:β->α)(l:List β):jb g Qfm=(jb (λy=>g (f y)) l).map f:=by
 unfold jb qE;rw[kc,List.map_filterMap];congr 1;funext i;exact k4 ..
theorem Be{R:QnZ}{m:List β}(h:l.length=m.length)(q:∀(i:Nat) a c,l[i]? = some a->m[i]? = some c->R a c):∀p,Paired R (qE p l) (qE p m)
 | []=>.nil
 | i::p=>by
  have b:=Be h q p;unfold qE at b ⊢;rw[nz,nz];by_cases hi:i<l.length
  .have e1:=kA hi;have e2:=kA (h▸hi);rw[e1,e2];exact .cons (q i _ _ e1 e2) b
  simp_all
def Cy(kz:AT)(xs:B0):B0:=qE (o4 kz) xs
def IU{xs:B0}(h:QwA):(Cy kz xs).length=xs.length:=(IL h).length_eq
theorem YD{g:D->Int}{ds:At}(r:Qoa):aB K CL Z (jb g ds) (Cy Qpi us):=by
 have h:=Be (R:=bL K CL Z) r.length (λi a c h1 h2=>by
  obtain⟨v,e,q⟩:=r.get h1;simp_all) (o4 Qpi)
 unfold jb Cy;generalize qE _ _=x at h ⊢;generalize qE _ _=y at h ⊢
 induction h with
 | nil=>exact .nil
 | cons r _ i=>exact .cons r i
theorem OQ{keys:Cc}{us:B1}{xs:B0}(c:keys.size=us.length)(hl:Qnc)(r:QcV){p:QhE}(b:p.toList=o4 kz) :
  Vals QgT ((p.map (kas_item QiJ)).map (·.2)).toList:=by
 have e:∀q,(∀i∈q,i<us.length)->q.map (λi=>(kas_item QiJ i).2)=qE q us:=by
  intro q
  induction q with
  | nil=>intro _;rfl
  | cons i q a=>
   intro h;have hi:=h i iB;unfold qE at a ⊢;rw[lx,a λj d=>h j Qkl];simp[kas_item,hi,c]
 rw[Array.map_map,Array.toList_map,b];refine(e _ λi hi=>?_)▸Be r.length (λi x u h1 h2=>?_) _
 .have:=nk.1 ((Em _).mem_iff.1 hi);lia
 .obtain⟨v,e,q⟩:=r.get h1;simp_all
section
variable{kS l:Addr}{us:B1}{xs:B0}{J:Qj3}{e1:Nat}{P:Qs1}
theorem agN{keys:Cc}{e:Nat}(I:Qbj)(q:mX X pins H kS)(v:QjE)(b:kS≠a)(ok:s.heap.get? kS=some QtN)(o:s.heap.get? a=some (seqObj "list" #[] e1))
  (l:IntsAre keys.toList kz) (hlen:Qnc) (D:us.length<64) (r:QcV)
  (h:∀s' out c,L2.Inv X pins Y H s'->s'.heap.get? a=some Qub->Vals QgT out.toList->P Qmy s') :
  wpAny Qr A (ksk_end a false us.toArray e1 QpH keys) P E s:=by
 have hsz:keys.size=us.length:=by
  have h1:=l.length;rw[zt]at h1;lia
 have k:(keys.zip us.toArray).size=us.length:=by rw[Array.size_zip,hsz,oD,Nat.min_self]
 unfold ksk_end
 try dsimp only
 simp only[sv,if_false];by_cases h2:us.toArray.size<2
 .rw[cq h2,cq h2];refine ec (j3 ?_);rw[StateT.run_pure];refine ec (j3 ?_)
  try dsimp only
  rw[oD]at h2;have ep:Qrj=o4 kz:=by
   rw[k,<- hlen]
   match kz,hlen with
   | [],_=>rfl
   | [_],_=>rfl
   | _::_::_,e=>rw[<- e]at h2;simp at h2;lia
  refine VG I q v b ok o We We rfl λs' c m o'=>h s' _ c m o' ?_;have:=OQ hsz hlen r (p:=List.toArray Qrj) ep
  rwa [kas_range]at this
 .rw[bW h2,bW h2];rw[oD]at h2;rw[ksk_kind l (by rw[hsz];lia)];refine ec (j3 ?_);obtain⟨n,hn⟩:∃n,kz.length=n+1:=#[kz.length-1,We];have G:=(V3 (f:=λi j=>decide Qvz) (cmp:=kas_cmp X.prog X.w A oneType' QiJ) (λi j C s hi B c=>?cmp) (V5 (n:=n))).2
  case cmp=>
   have it:∀i,i<n+1->∃t,(kas_item QiJ i).1=.int (kz.getD i 0) t:=λi hi=>by
    have h1:i<keys.size:=by lia
    obtain⟨t,e⟩:=l.int_at i keys[i] (by simp[h1]);have h2:i<us.length:=by lia
    exact#[t,by rw[<- e];simp[kas_item,Array.getD,h1,h2];rw[dif_pos We]]
   obtain⟨t,e1⟩:=it i hi;obtain⟨u,e2⟩:=it j B;unfold kas_cmp;rw[e1,e2,keyLt'_oneType];exact oneLt_int c
  have R:=PySem.W.kas_runs (E:=E) (n:=n+1) (s:=s) (Q:=λ_ d s'=>s'=s/\failedOf d=none/\∃p:Array Nat,p.toList=o4 kz/\arrOf d=p.map _) We We (λx d s' _ e1 e2 g=>#[g.1,e2,x,g.2,e1]) (G (λp s'=>s'=s/\p.toList=o4 kz) s #[rfl,by unfold o4;rw[hn]]);unfold PySem.W.kas_st at R;rw[show n+1=(keys.zip us.toArray).size by lia,kas_range]at R;refine ec (me R ?_ λ_ _ e=>e);rintro⟨⟨⟩,d⟩ s' ⟨rfl,hf,p,y,e⟩;have z:(arrOf d).size=us.length:=by
   have:=(Em kz).length_eq;grind
  refine VG I q v b ok o We We hf λs' c m o'=>h s' _ c m o' ?_;rw[e];exact OQ hsz hlen r y
theorem aci(I:Qbj)(G:QjE)(p:s.heap.get? a=some (seqObj "list" us.toArray n))(j0:J H)
  (hlen:Qnc) (R:us.length<64) (r:QcV)
  (turn:∀(i:Nat) (x:V) (k:Int),xs[i]? = some x->kz[i]? = some k->∀(U:BC) (s':Qb) (u:Value) (H':Hp),L2.Inv X U Y H' s'->J H'->RelV x u →
   wpAny Qr A QnK (EP X U Y λv T=>v=.int k/\J T) Qby s')
  (h:∀s' H' out c,L2.Inv X pins Y H' s'->J H'->H' a=none->s'.heap.get? a=some Qub->Vals QgT out.toList->P Qmy s') :
  wpAny Qr A (ksk_tree a Qae false) P E s:=by
 have rest:∀{s:Qb} {kS:Addr} {e1:Nat},L2.Inv X pins Y H s->mX X pins H kS->kS≠a->s.heap.get? kS=some (seqObj "list" #[] 0)->s.heap.get? a=some (seqObj "list" #[] e1)->wpAny Qr A (ksk_rest a Qae false us.toArray e1 QpH) P E s:=by
  intro s kS e1 I F C ok p;refine ec (wpAny_rule ?_)
  first
   | rw[List.forIn_toArray]
   | (simp)
   | rw[<- Array.forIn_toList]
  refine ec (ksk_fold (λi s'=>∃H' g e,L2.Inv X _ Y H' s'/\J H'/\H' _=none/\H' a=none/\s'.heap.get? _=some (seqObj _ g e)/\s'.heap.get? a=some _/\IntsAre g.toList (kz.take i)) _ 0 s
   #[H,_,0,I,j0,F.1,G.1,ok,p,by simpa using IntsAre.nil] ?step ?done)
  case step=>
   rintro j u s' hx ⟨H',g,e,S,M,L,na,d,l,D⟩;simp only[Nat.zero_add]at D ⊢;have hj:=(md.1 hx).1;obtain⟨k,B⟩:∃k,kz[j]? = some k:=#[_,kA We];obtain⟨x,y⟩:∃x,xs[j]? = some x:=#[_,kA (r.length▸hj)];have W:RelV x u:=by
    obtain⟨u',e1,e2⟩:=r.get y;lia
   have hz:g.size<=us.length:=by
    have h1:=D.length;simp at h1;lia
   have Ip:=S.pinned (λb q=>by
    obtain rfl|q:=fL.1 q
    .exact xn F L
    .exact lh.1 q▸xn G na) (λb q=>by
    obtain rfl|q:=fL.1 q
    .exact#[_,d,We ]
    simp_all)
   refine ec (wpAny_attempt (me (turn j x k y B _ _ u _ Ip M W) (λv t he=>?_) λ_ _ hF=>hF.elim));obtain⟨w,H2,m,K,rfl,j2⟩:=he;obtain⟨t2,rfl⟩:=K;have pk:=m.pin _ (jN _ (jN _ (kW Wp d)));have pa:=m.pin _ (jN _ (jN _ (kW Wp l)));have I3:=Du m.tR (xn F pk.2.1) (Obj.mapSeq (·.push (.int k t2)));have s1:=zr t.heap kS (Obj.mapSeq (·.push (.int k t2)));obtain⟨c2,Iq⟩:∃c2,(t.heap.update kS (Obj.mapSeq _)).get? kS=some _:=#[_,get?_update_seq pk.1 (·.push _)];have ek:kz.take QU=kz.take j++[k]:=by simp[sm,B]
   have ea:(g.push (Value.int k t2)).toList=g.toList++[Value.int k t2]:=by simp
   refine ec (listUpdate_at pk.1 rfl ?_ (by rw[l7];lia) (l6 (Nat.le_of_eq (Array.size_push _)) (by rw[l7];lia)));exact j3 #[rfl,_,_,_,I3,j2,pk.2.1,pa.2.1,Iq,(s1.2 a C.symm).trans pa.1,by rw[ea,ek];exact ksk_snoc D]
  case done=>
   rintro s' ⟨H',g,e,S,M,L,na,d,l,D⟩;have O:IntsAre g.toList kz:=by grind
   refine ec (listItems_at d rfl ?_);exact agN S (xn F L) (xn G na) C d l O hlen R r λs2 out c m Z v2=>h _ _ _ c m M na Z v2
 have ha:=kr p;obtain⟨e1,z⟩:∃e1,(s.heap.update a _).get? a=some (seqObj _ _ e1):=#[_,get?_update_seq p _ ];have I1:=Du I G (Obj.mapSeq λ_=>(#[]));have N:((s.heap.update a (Obj.mapSeq λ_=>(#[]))).push Qsk).objs.size=s.heap.objs.size+1:=by simp
 have m:L2.Inv X _ Y H {s with heap:=((s.heap.update a _).push Qsk).push (seqObj "list" #[] 0)}:=
  I1.kept λb o e=>lr _ Qfy
 refine ec (listItems_at p rfl ?_);refine ec (listUpdate_at p rfl ?_ (by rw[oD,l7];lia) Wp);refine ec (seqEpoch_at z rfl ?_);refine ec (wpAny_newTuple ?_ (by show us.length<=_;rw[l7];lia));refine ec (wpAny_newList ?_ Wp);apply u5;refine rest m (I.DR Wp (I.cV.fresh Wp)) (N▸Nat.ne_of_gt (Nat.lt_succ_of_lt ha)) (mf _ rfl) (lr _ (lr _ z))
theorem Sl{Q:VK}(I:Qbj)(z:nF X.K H l xs)(hlen:QwA)(B:xs.length<64)(y:J H)
  (turn:∀(i:Nat) (x:V) (k:Int),xs[i]? = some x->kz[i]? = some k->∀(n:BC) (s':Qb) (u:Value) (H':Hp),L2.Inv X n Y H' s'->J H'->RelV x u →
   wpAny Qr X.A.in1.in1 QnK (EP X n Y λv j=>v=.int k/\J j) Qby s')
  (h:∀D H',J H'->H' D=none->Q Qfu (upd H' D (.lst QgT))) :
  wpAny Qr X.A (call QiS [.ref l] [(Str.ofString "key",.ref f)]) Qbg E s:=by
 obtain⟨us,r,pl,hz⟩:=I.list z;have G:=r.length;have hl:s.heap.IsList l us.toArray:=pl.isList;refine call_function_entry_kw kind_sorted plain_sorted entry_sorted (ksk_s1 _ _) ?_;unfold Builtin.«sorted»;refine ec (m:=checkCount "sorted" 1 1 _) (j3 ?_);refine ec (collect_list hl ?_ (by rw[l7];lia));refine ec (wpAny_newList ?_ (by rw[l7];lia));have hsz:((s.heap.push (seqObj "list" #[] 0)).update s.heap.objs.size (Obj.mapSeq (· ++ us.toArray))).objs.size=s.heap.objs.size+1:=by
  rw[Heap.size_update,size_push']
 have a:(((s.heap.push (seqObj "list" #[] 0)).update s.heap.objs.size (Obj.mapSeq (· ++ us.toArray))).push Qf9).get? Qbm=some Qf9:=by
  rw[<- hsz];exact mf _ rfl
 have keep:∀b o,s.heap.get? b=some o->(((s.heap.push (seqObj "list" #[] 0)).update s.heap.objs.size (Obj.mapSeq (· ++ us.toArray))).push Qf9).get? b=some o:=λb o q=>by
  have d:b<s.heap.objs.size:=kr q;rw[Heap.get?_push_ne _ _ _ (by rw[hsz];exact l1 (Nat.lt_succ_of_lt d)),Heap.get?_update_ne _ _ _ _ (l1 d),Heap.get?_push_ne _ _ _ (l1 d)];exact q
 show wpAny _ _ _ _ _ {s with heap:=((s.heap.push (seqObj "list" #[] 0)).update s.heap.objs.size (Obj.mapSeq (· ++ us.toArray))).push Qf9};rw[hsz];have C:L2.Inv X pins Y H {s with heap:=((s.heap.push (seqObj "list" #[] 0)).update s.heap.objs.size (Obj.mapSeq (· ++ us.toArray))).push Qf9}:=I.kept (t':=s.toks) keep;have p:∀{H':Hp},H' Qbm=none->mX X pins H' Qbm:=λ{H'} e=>I.DR (ox _) e;refine ec (u5 (wpAny_call_entry_kw slot_list_sort #[_,a,rfl] entry_list_sort ?body (ksk_l1 _ _)))
 case body=>
  have g:=ksk_t1 f Qbm;show wpAny Qr X.A.in1.in1 (Builtin.«list.sort» #[[.ref Qbm],[(Str.ofString "key",.ref f)]]) _ _ _;rw[g];refine aci C (p QmJ) a y We We r turn λs' H' out c F t na o' v'=>#[_,rfl,?_];refine j3 #[_,rfl,.ref Qbm,_,IE F (p na) (o:=.lst QgT) #[?_,out.toList,c,v',?_],rfl,h _ H' t na]
  .rw[IU hlen];exact hz
  .simpa using o'
end
variable{body:Expr}{g:L3.D->Int}{scope:Scope}{y q tx:Str}{Nc:BA}{ix:Ch}{params:QkC}{pp lp p2:Pos}
theorem En(L:x3 X CL tx q)(g0:Gx X)(dp:X.A.depth<recursionLimit)(hm:Qi7)(hg:QjC)(sc:QfX)(h:Qc3)(hi:Qdy)(hl:ds.length<64)
  (inner:aqr X CL q scope Nc body (D4 δ1 ix) ds g) (P:Qth:=by rfl)
  (Ox:∀cl pm cd ct u,bindArgs QqH #[[u],[]]=pure [(y,u)]:=by intros;rfl) (G:QuD:=by rfl) (O:QuE:=by rfl)
  (hs:Qaz:=by exact bq rfl) :
  bU X CL b (.Call QmR [e] [#[some "key",.Lambda params body scope lp,p2]] pos) U (.lst ((jb g ds).map T.sh)) δ1:=by
 intro H Z Y ts vs Q S k pins s I;have m:PA X [e] (Vm (yK X e) x7):=bX cQ dY hs;have hk:PK X [#[some "key",.Lambda params body scope lp,p2]] (Vm (yK X (.Lambda params body scope lp)) x7):=Vo cQ YE;refine rg (nJ I hg hm rC ?_);refine callWith_kw (d9 (m pos pins s Y H (λE H1=>∃v Z1,E=[v]/\aC Z Z1/\aC H H1/\bD X.K CL b H1 Z1 δ1 Y ts vs/\bL X.K CL H1 Qcq v) I (h H Z Y ts vs _ S λv H1 Z1 C k1 l r=>#[v,Z1,rfl,C,k1,l,r])) λus s1 zz=>?_) (by rw[hs];rfl) (by rw[hs];rfl) rfl rfl;obtain⟨aa,H1,I1,r1,v1,Z1,e1,C,k1,l,rep1⟩:=zz;subst e1;have N:H1 (CL tx)=some QpG:=by
  have:=l.N8 tx L.tab.1 L.tab.2.1;rw[L.tab.2.2]at this;exact this
 refine d9 (hk pos pins s1 Y H1 (λzs H2=>∃f c,zs=[.ref f]/\aC H1 H2/\H2 f=some Qk9/\H2 c=some QcU) I1
  (λqv s' W=>alT L W N (λy hy e=>W.ok.has y.1 (sc.frees y hy e).2) P λf c H2 s2 V k2 hf M _=>#[.ref f,H2,V,rfl,f,c,rfl,k2,hf,M])) λws s2 zz=>?_
 obtain⟨zs,H2,V,rz,f,c,e2,k2,hf,M⟩:=zz;subst e2;obtain⟨u,rfl,ru⟩:=rz.one;cases ru;obtain⟨v,rfl,rv⟩:=r1.one;obtain⟨p,VL,rfl,hq,F⟩:=rep1.iM;cases rv;show wpAny _ _ (call QiS [.ref p] [(Str.ofString "key",.ref f)]) _ _ s2;have hlen:=F.length;refine Sl (J:=λj=>∃Z3,aC H2 j/\aC H2 Z3/\aC Z3 j/\∀a o,j a=some o->jH o=true->Z3 a=some o) (kz:=ds.map g) V (k2.seq hq) (by rw[cM,hlen]) We
  #[H2,.refl _,.refl _,.refl _,λ_ _ q _=>q] (λi x kk hx w qv s' u j R zz rx=>?_) λD j zz hD=>?_
 .obtain⟨Z3,a1,a2,a3,a4⟩:=zz;obtain⟨d,hd,rd⟩:=F.yn hx;have ek:kk=g d:=by
   rw[k4,hd]at w;exact(mu w).symm
  subst ek;refine abD sc R R.ok.frames (R.ok.hd g0.calm) dp (a1 _ _ hf) (a1 _ _ M) rx Ox G O ?_;have S0:bD X.K CL #[j,Z3] j Z3 (some Qbb::D4 δ1 ix) (A5 Y ix (some x)) [] []:=
   #[#[[]++[],[],.cons (.sh (rd.mono Qjt)) ((yO l ix j).mono Qjt λa m=>by cases m),.nil,oy,λa m=>by cases m],.refl _,.refl _,a3,λa o q z=>(by have n:Z3 a=none:=z;rw[show Z3 a=some o from q]at n;cases n),a4,l.N8.mono Qjt]
  refine inner f c s' j #[j,Z3] d (l4 hd) j Z3 _ [] [] _ S0 λv H5 Z5 z5 k5 B r5=>#[?_,Z5,a1.trans k5,a2.trans z5,B.zh,B.tp];cases r5;rfl
 .obtain⟨Z3,a1,a2,a3,a4⟩:=zz;obtain⟨Z',n,S4⟩:=l.back (t:=.sh (.int 0)) (v:=.int 0) (fp:=[]) (k2.trans a1) l.zh Qjt a3 (λa o q z=>z) a4 QxU oy (λa m=>by cases m) QaB;obtain⟨c5,B⟩:=(bD.qz (YD (g:=g) ((aB.mZ l.tp hi F).mono n)) S4.pop).nO (g0:=[]) (by rw[IU (by rw[cM,hlen]),cM,Bd];exact hlen.symm) hD;exact k _ _ _ (C.trans n) ((k1.trans (k2.trans a1)).trans c5) B
structure FnE(K:Frag)(x:Str)(st:Stmt)(f:Addr)(fd:QaU)(ps:BA)(i:Int):Prop extends Rw K x x st f fd where
 m:InG K x f
 b:Binds K fd ps []
 bd:∃u,Binds K fd ps [.int i u]
def fnE{tp:Addr}{oc:Value}{od an:Db}{GH:DA}{kV doc pm ez ct:Value}{o:Obj}{items:Cc}{m:Nat}{i:Int}{u:Tok}(a:Ql7)(l:Qrs)
  (c:QnM) (k:QfN) (lt:K.lookup tp=some o) (od:o.data=.seq items n)
  (q:Yu ps.length λus=>∃kk,bindArgs QkT {pos:=us}=seqItems? QpI >>= kk/\kk QoD=pure Qcy)
  (hm:ps.length=m+1) (q1:Yu m λus=>∃kk,bindArgs QkT {pos:=us}=seqItems? QpI >>= kk/\kk QoD=pure (ps.zip (us++[.int i u]))) :
  FnE K x st f QkK ps i:=by
 have d:=fnD a l c k lt od q;refine#[d.1,d.m,d.b,u,λs us e hl=>?_];obtain⟨kk,e1,e2⟩:=Ej q1 us (by rw[lj,hm]at hl;exact Nat.succ.inj hl);exact .of_defaults rfl (e _ _ lt) od e1 e2
structure FcD(X:Cx)(CL:BM)(x:Str)(k n:Nat){A:Type}(arg:Qah)(Pre:Qab)(res:QaV)(i:Int):Prop where
 ex:∃f fd ps,dg X.prog X.w X.K X.mg X.base oG k f fd ps Qf6/\X.mg x=some Qae/\keepIn X.K Qae=true/\∃u,Binds X.K fd ps [.int i u]
 room:fc k X.A
structure xt(X:Cx)(CL:BM)(x:Str)(k n:Nat){A:Type}(arg:Qah)(Pre:Qab)(exc:Qb0)(i:Int):Prop where
 ex:∃f fd ps,dg X.prog X.w X.K X.mg X.base QdK k f fd ps Qiw/\X.mg x=some Qae/\keepIn X.K Qae=true/\∃u,Binds X.K fd ps [.int i u]
 room:fc k X.A
variable{es:Cf}{k:Nat}{A:Type}{i:Int}{arg:Qah}{Pre:Qab}
theorem cFD{res:QaV}(a:A)(F:FcD X CL x k n arg Pre res i)(r:Qaw)(h:GA X CL b Qap U Qb3 δ1)(p:Pre a)(t:arg a=ds++[.int i]:=by rfl)(hn:QbZ:=by rfl)
  (o:AD x:=by decide) (he:Qaq:=by exact bq rfl) (hpl:QaE:=by rfl) :
  bU X CL b Qbo U QbT δ1:=λH Z Y ts vs Q S kk=>by
 obtain⟨f,fd,ps,z,hm,q,u,s⟩:=F.ex;refine cC (Dl z F.room r hm q s (Ij:=[.int i]) QsJ Cg JW o he hpl) (h H Z Y ts vs _ S λus H1 Z1 hl j k1 d=>?_);have c:us.length=ds.length:=by simp_all
 have w:=d.drops (by simp[c]);refine#[Z1,a,d.zh,d.tp,by rw[t];exact(d.yM c).snoc Qbs,hn,p,d.N7,λv H' W' fp g ww m nw tp rt nd own=>?_];obtain⟨Z',l,y⟩:=w.back g QA ww m nw tp rt nd own Qaj;exact kk v H' Z' (j.trans l) (k1.trans g) y
def agO{exc:Qb0}(a:A)(d:Qeo)(F:Qti)(l:Qaw)(h:Qt8)(g:Pre a)(o:arg a=ds++[.int i]:=by rfl)(hn:QbZ:=by rfl)
  (c:AD x:=by decide) (he:Qaq:=by exact bq rfl) (hpl:QaE:=by rfl) :
  xf X CL b Qbo U (exc a) δ1:=by
 obtain⟨f,fd,ps,p,hm,j,u,m⟩:=F.ex;exact VP (dw:=[.int i]) a d p F.room hm j m QsJ (λ_ ws r=>by rw[o];exact r.snoc Qbs) l h g hn c he hpl
theorem xt.pin{p:BC}{arg:Qah}{Pre:Qab}{exc:Qb0}(F:Qti):xt Qd0 CL x k n arg Pre exc i:=#[F.ex,F.room]
variable{U2:BB}
theorem agP(w:Qa5):yE X QwO (λx y H Q=>∃a c,bL X.K CL H a x/\bL X.K CL H (.lst c) y/\wM 60 a/\(∀d∈c,wM 60 d/\Oe d a=false)/\Q (.bl false) H):=by
 intro pins s Y H x y v u Q I i g h;obtain⟨a,c,m,rc,f,e,q⟩:=h;obtain⟨as,o⟩:=J8 I f m i;obtain⟨l,us,rfl,t,k⟩:=rc.iM;cases g;obtain⟨its,j,pl,_⟩:=I.list t;have at':∀{us:B0} {its:B1} {c:At},aB X.K CL H c us->Vals us its->(∀d∈c,wM 60 d/\Oe d a=false)->∀y∈its,SeqAt.EqAt X.A.in1 s y v false:=by
  intro us
  induction us with
  | nil=>intro its c r v _ y b;cases v;cases b
  | cons u us p=>
   intro its c r v e y b;cases r with
   | cons r rs=>
    cases v with
    | cons v vs=>
     obtain rfl|b:=fL.1 b
     .obtain⟨d1,d2⟩:=e _ iB;obtain⟨bs,n⟩:=J8 I d1 r v;rw[<- d2];exact SeqAt.eqAt_reads _ _ _ _ _ _ _ _ n o d1.lay.1 f.lay.1 (by have:=f.lay.2;show X.A.units+1+_<_;lia)
     .exact p rs vs (λd hd=>e d (i3 _ hd)) y b
 refine SeqAt.in_listAt QuF pl.isList (λy b=>at' k j e y (by simpa using b)) #[.bl _,H,I,rfl,?_];rw[show its.toArray.any QuF=false by simp];exact q
def agQ(j:Qa5)(h1:cN X CL b e1 U d δ1)(h2:cN X CL b e2 δ1 Qcq U2)(k1:wM 60 d)(k2:∀e∈ds,wM 60 e/\Oe e d=false)(hm:Ql5:=by rfl):qW X CL b Qim U false U2:=λH Z Y ts vs Q S k=>
 yL (vq (agP j) cQ cQ hm) (h1 H Z Y ts vs _ S λv1 H1 Z1 g c m i=>h2 H1 Z1 Y ts vs _ m λv2 H2 Z2 f a l h=>#[d,ds,i.mono a,h,k1,k2,_,rfl,k H2 Z2 QjV QcR l])
def S3{i:Nat}{D:dI}(h:U[i]? = some QaK)(e:t.fC=.lst ds\/t.fC=.tup ds)(k:ds.length<=sizeLine->c7 X CL b fD U D):c7 X CL b fD U D:=λH Z Y ts vs E S M pins s I=>by
 obtain⟨v,_,r⟩:=S.look h;refine k ?_ H Z Y ts vs E S M pins s I;obtain e|e:=e<;>rw[e]at r
 .obtain⟨_,_,rfl,c,a⟩:=r.iM;rw[a.length];exact(I.list c).elim λ_ z=>z.2.2
 .obtain⟨_,_,rfl,c,a⟩:=r.qy;rw[a.length];exact(I.tuple c).elim λ_ z=>z.2.2
end L3
namespace Law
open PySem L2 L3
noncomputable def top(i:Nat):Stmt:=PySem.Challenge.pw_moodtree_k52_whole_table_walked.main.body.getD i Qta
noncomputable def Dw:Nat->AT->Int->AT
 | 0,_,_=>[]
 | n+1,es,k=>if k=-1 then [] else k::Dw n es (es.getD k.toNat 0)
def bP(es:AT)(m:Int):AT:=Dw Qe8 es Qgq
def dh(es:AT):Prop:=∀k:Nat,k<es.length->-1<=es.getD k 0/\es.getD k 0<k
variable{es:AT}{k:Int}
theorem dh.at(h:dh es)(h0:0<=k)(h1:Qcf):-1<=es.getD k.toNat 0/\es.getD k.toNat 0<k:=by
 have:=h k.toNat We;lia
noncomputable def dP(ks:BA)(es ss:AT):D:=.ins "Tree" [("kinds",.lst Qcu),("elders",.lst Qbn),("starts",.lst Qdc)]
variable{ks:BA}{ss:AT}
def k7:List.lookup ("kinds":Str) [(("kinds":Str),D.lst Qcu),("elders",.lst Qbn),("starts",.lst Qdc)]=some (.lst Qcu):=Ke
def oO:List.lookup ("elders":Str) [(("kinds":Str),D.lst Qcu),("elders",.lst Qbn),("starts",.lst Qdc)]=some (.lst Qbn):=rfl
def OS:List.lookup ("starts":Str) [(("kinds":Str),D.lst Qcu),("elders",.lst Qbn),("starts",.lst Qdc)]=some (.lst Qdc):=rfl
def bT(ds:At):T.fC QdP=.lst ds:=by rw[T.fC,lI]
def aP(l:AT):(T.lst ((l.map D.int).map T.sh)).clean=true:=A6▸Cp _
theorem rJ(l:BA):(T.lst ((l.map D.str).map T.sh)).clean=true:=by
 induction l with
 | nil=>rfl
 | cons x l a=>exact a
noncomputable def Eo(ks:BA)(es ss:AT):BS:=[("kinds",.lst ((ks.map .str).map T.sh)),("elders",.lst ((es.map .int).map T.sh)),("starts",.lst ((ss.map .int).map T.sh))]
def YF(ks:BA)(es ss:AT):T.fC QlK=dP ks es ss:=by
 unfold Eo;rw[T.fC,T.tL,T.tL,T.tL,bT,bT,bT];rfl
def Cz(ks:BA)(es ss:AT):T.c6 (Eo ks es ss)=true:=by
 unfold Eo;rw[T.c6,T.c6,T.c6,rJ,aP,aP];rfl
theorem V6{es:AT}(h:dh es):∀(n:Nat) {k x:Int},-1<=k->k<es.length->x∈Dw n es k->0<=x/\x<=k
 | 0,k,x,_,_,a=>by cases a
 | n+1,k,x,h0,h1,a=>by
  rw[Dw]at a;split at a
  .cases a
  .have b:=h.at We h1;obtain rfl|a:=fL.1 a
   .lia
   .have:=V6 h n We We a;lia
theorem Ep{es:AT}(h:dh es):∀(a b:Nat) {k:Int},-1<=k->k<es.length->k<a->k<b->Dw a es k=Dw b es k
 | 0,0,_,_,_,_,_=>rfl
 | 0,b+1,k,h0,_,e,_=>by
  rw[Dw,Dw,cq We]
 | a+1,0,k,h0,_,_,d=>by
  rw[Dw,Dw,cq We]
 | a+1,b+1,k,h0,h1,e,d=>by
  rw[Dw,Dw];split
  .rfl
  .have c:=h.at We h1;rw[Ep h a b c.1 We We We]
theorem fN(h:dh es){m:Int}(h0:0<=m)(h1:Qc0):bP es m=if es.getD m.toNat 0=-1 then [] else es.getD m.toNat 0::bP es Qgq:=by
 have hm:=h.at h0 h1;unfold bP;rw[Dw];split
 .rfl
 .rename_i b;have a:=h.at (k:=es.getD m.toNat 0) We We;rw[Ep h es.length Qe8 a.1 We We We]
variable{x:Int}
theorem bI(h:dh es){m:Int}(h0:0<=m)(h1:Qc0)(a:Qo1):0<=x/\x<m/\x<es.length:=by
 have hm:=h.at h0 h1;have:=V6 h _ hm.1 We a;lia
theorem qF{es:AT}(h:dh es):∀(n:Nat) {m x:Int},0<=m->m<es.length->m<n->x∈bP es m->∃pre,bP es m=pre++x::bP es x/\∀y∈pre,y∈bP es m/\x∈bP es y
 | 0,m,x,h0,_,hn,_=>by lia
 | n+1,m,x,h0,h1,hn,a=>by
  have hm:=h.at h0 h1;have e:=fN h h0 h1;generalize d:es.getD m.toNat 0=k at hm e;by_cases c:k=-1
  .rw[e,cq c]at a;cases a
  .rw[bW c]at e;rw[e]at a;obtain rfl|a:=fL.1 a
   .exact#[[],by rw[e];rfl,λy b=>by cases b]
   .obtain⟨pre,p1,p2⟩:=qF h n (m:=k) We We We a;refine#[k::pre,by rw[e,p1];rfl,λy b=>?_];obtain rfl|b:=fL.1 b
    .exact#[by rw[e];exact iB,a]
    .exact#[by rw[e];exact i3 _ (p2 y b).1,(p2 y b).2]
variable{y:Int}
theorem k8(h:dh es){m:Int}(h0:0<=m)(h1:Qc0)(b:Qo1)(a:y∈bP es x):y∈bP es m:=by
 obtain⟨pre,p1,_⟩:=qF h QjZ h0 h1 We b;exact p1▸jN _ Qee
theorem rK(h:dh es){m:Int}(h0:0<=m)(h1:Qc0)(b:Qo1)(a:y∈bP es m):x=y\/x∈bP es y\/y∈bP es x:=by
 obtain⟨pre,p1,p2⟩:=qF h QjZ h0 h1 We b;rw[p1]at a;obtain a|a:=i8.1 a
 .exact .inr (.inl (p2 y a).2)
 .obtain e|a:=fL.1 a
  .exact .inl e.symm
  .exact .inr (.inr a)
theorem xJ{es:AT}(h:dh es):∀(n:Nat) {m:Int},0<=m->m<es.length->m<n->(bP es m).Pairwise (λa b=>b<a)
 | 0,m,h0,_,hn=>by lia
 | n+1,m,h0,h1,hn=>by
  have hm:=h.at h0 h1;rw[fN h h0 h1];split
  .exact .nil
  .have hs:=xJ h n (m:=es.getD m.toNat 0) We We We;refine mN.2 #[λx c=>?_,hs];have:=bI h We We c;lia
def IV(h:dh es){m:Int}(h0:0<=m)(h1:Qc0)(a:es.getD m.toNat 0 ≠ -1):es.getD m.toNat 0∈bP es m:=by
 rw[fN h h0 h1,bW a];exact iB
def mS(es:AT):Prop:=dh es/\∀k:Nat,k+1<es.length->es.getD QaZ 0=k\/es.getD QaZ 0∈bP es k
theorem mS.down(h:mS es){k:Nat}(c:k+1<es.length)(a:x∈bP es ((k+1:Nat):Int)):x=k\/x∈bP es k:=by
 have e:=fN h.1 (m:=((k+1:Nat))) We We;rw[ke]at e;have b:=h.2 k c;rw[e]at a;split at a
 .cases a
 .obtain a|a:=fL.1 a
  .obtain b|b:=b
   .exact .inl (a.trans b)
   .exact a ▸ .inr b
  .obtain b|b:=b
   .rw[b]at a;exact .inr a
   .exact .inr (k8 h.1 We We b a)
def cT(es:AT)(u m:Int):AT:=(m::(bP es m).takeWhile Qc4).reverse
def zf(es:AT):Int->AT->Int->Prop
 | a,[],m=>a=m
 | a,x::l,m=>(0<=x/\x<es.length/\es.getD x.toNat 0=a)/\zf es x l m
theorem zf.snoc{es:AT}{m:Int}(h0:0<=m)(h1:Qc0):∀{l:AT} {a:Int},zf es a l Qgq->zf es a (l++[m]) m
 | [],a,h=>#[#[h0,h1,Eq.symm h],rfl]
 | x::l,a,h=>#[h.1,zf.snoc h0 h1 h.2]
variable{u:Int}
theorem Dc(h:dh es){m:Int}(h0:0<=m)(h1:Qc0)(c:u∈bP es m)(b:x∈(bP es m).takeWhile Qc4):u∈bP es x:=by
 obtain⟨pre,p1,p2⟩:=qF h QjZ h0 h1 We c;rw[p1]at b;have ne:∀y∈pre,decide (y≠u)=true:=λy a=>by
  have:=bI h (m:=y) (by have:=bI h h0 h1 (p2 y a).1;lia) (by have:=bI h h0 h1 (p2 y a).1;lia) (p2 y a).2;simp;lia
 have:(pre++u::bP es u).takeWhile Qc4=pre:=by
  rw[MI ne,List.takeWhile_cons,bW Wp,ko]
 rw[this]at b;exact(p2 x b).2
def KL(bw:Bn)(es:AT)(a b:Int):Int:=((bP es a).find? (λx=>bw x&&decide (x∈bP es b))).getD (-1)
theorem Er{α:Type}{p:QpJ}:∀{l:Qaf} {x:α},l.find? p=some x->∃pre a,l=pre++x::a/\p x=true/\∀y∈pre,p y=false
 | [],_,h=>by cases h
 | y::l,x,h=>by
  rw[p5]at h;cases e:p y with
  | true=>
   rw[e]at h;cases h;exact#[[],l,rfl,e,Wp ]
  | false=>
   rw[e]at h;obtain⟨pre,a,h1,h2,b⟩:=Er h;refine#[y::pre,a,WA,h2,λz hz=>?_];obtain rfl|hz:=fL.1 hz
   .exact e
   simp_all
def V7(bw:Bn)(es:AT)(a b t:Int):Prop:=
 (t=-1/\∀x∈bP es a,x∈bP es b->bw x=false)\/(t∈bP es a/\t∈bP es b/\bw t=true/\∀x∈bP es a,x∈bP es b->bw x=true->x=t\/x∈bP es t)
variable{bw:Bn}
theorem agR(h:dh es){a b:Int}(h0:0<=a)(h1:a<es.length):V7 bw es a b (KL bw es a b):=by
 unfold KL;cases e:(bP es a).find? _ with
 | none=>
  refine .inl #[rfl,λx d k=>?_];have:=za.1 e x d;simp_all
 | some t=>
  obtain⟨pre,i,p1,p2,j⟩:=Er e;have g:t∈bP es a:=by simp_all
  simp at p2;refine .inr #[g,p2.2,p2.1,λx d k n=>?_];obtain c|c|c:=rK h h0 h1 d g
  .exact .inl c
  .exact .inr c
  .exfalso;have hs:=xJ h (a.toNat+1) h0 h1 We;rw[p1]at d hs;have m:=by
    have f:x∈bP es a:=p1▸d;have l:=bI h h0 h1 f;exact(bI h We We c).2.1
   obtain d|d:=i8.1 d
   .have:=j x d;lia
   .obtain e2|d:=fL.1 d
    .lia
    .have:=(mN.1 (yY.1 hs).2.1).1 x d;lia
variable{t:Int}
theorem V7.symm{a b:Int}(h:V7 bw es a b t):V7 bw es b a t:=by
 obtain⟨e,h⟩|⟨h1,h2,g,f⟩:=h
 .exact .inl #[e,λx d c=>h x c d]
 .exact .inr #[h2,h1,g,λx d c=>f x c d]
theorem V8{es:AT}{x:Int}(h:dh es):∀(n:Nat) {k:Int},-1<=k->k<es.length->Dw n Qea k=Dw n es k
 | 0,_,_,_=>rfl
 | n+1,k,h0,h1=>by
  rw[Dw,Dw];split
  .rfl
  .have a:=h.at We h1;have e:(es++[x]).getD k.toNat 0=es.getD k.toNat 0:=by
    rw[km,y4 We,<- km]
   rw[e,V8 h n a.1 We]
def Es{k:Nat}(h:Qcf):(es++[x]).getD k 0=es.getD k 0:=by
 rw[km,y4 h,<- km]
theorem KN(h:dh es){m:Int}(h0:0<=m)(h1:Qc0):bP Qea m=bP es m:=by
 have hm:=h.at h0 h1;unfold bP;rw[Es We,V8 h _ hm.1 We,Ep h _ Qe8 hm.1 We WE We]
theorem dh.snoc(h:dh es)(h0:-1<=x)(h1:QcH):dh Qea:=λk a=>by
 simp at a;by_cases e:k<es.length
 .exact Es e▸h k e
 .have:k=es.length:=by lia
  simp_all
theorem mS.snoc(h:mS es){k:Nat}(d:k+1=es.length)(b:x=k\/x∈bP es k):mS Qea:=by
 have a:-1<=x/\x<es.length:=by
  obtain e|e:=b
  .lia
  .have:=bI h.1 We We e;lia
 refine#[h.1.snoc a.1 a.2,λj c=>?_];simp at c;rw[KN h.1 We We];by_cases e:j+1<es.length
 .exact Es e▸h.2 j e
 .have:j=k:=by lia
  simp_all
structure agS(es:AT)(m:Int)(L:Nat):Prop where
 le:m+1+L<=es.length
 iff:∀i:Nat,i<es.length->((m=-1\/m∈bP es i)↔m<i/\(i:Int)<m+1+L)
 eld:∀i:Nat,m<i->(i:Int)<m+1+L->m<=es.getD i 0
 beh:m+1+L=es.length\/es.getD (m+1+L).toNat 0<m
theorem Sn(h:mS es){m:Int}(h0:-1<=m)(h1:Qc0):∃L,agS es m L:=by
 by_cases hm:m=-1
 .subst hm;refine#[es.length,We,λi hi=>#[λ_=>by lia,λ_=>.inl rfl],λi hi l=>(h.1 i We).1,.inl We]
 .have h0:0<=m:=by lia
  have o:∀i:Nat,i<es.length->m∈bP es i->m<i:=λi hi b=>(bI h.1 We We b).2.1;have go:∀(r L:Nat),m+1+L+r=es.length->(∀i:Nat,m<i->(i:Int)<m+1+L->m∈bP es i)->∃n:Nat,m+1+n<=es.length/\(∀i:Nat,m<i->(i:Int)<m+1+n->m∈bP es i)/\(m+1+n=es.length\/m∉bP es (m+1+n)):=by
   intro r
   induction r with
   | zero=>intro L e k;exact#[L,We,k,.inl We]
   | succ r q=>
    intro L e k;by_cases hw:m∈bP es (m+1+L)
    .refine q (L+1) We λi d l=>?_;by_cases hi:(i:Int)<m+1+L
     .exact k i d hi
     .have:(i:Int)=m+1+L:=by lia
      rw[this];exact hw
    .exact#[L,We,k,.inr hw]
  obtain⟨L,u,g,t⟩:=go (es.length-QjZ) 0 We (λi d l=>by lia);have out:∀(r i:Nat),(i:Int)=m+1+L+r->i<es.length->m∉bP es i:=by
   intro r
   induction r with
   | zero=>
    intro i hi y b;obtain e|e:=t
    .lia
    .rw[show(i:Int)=m+1+L by lia]at b;exact e b
   | succ r q=>
    intro i hi y b;obtain⟨j,rfl⟩:∃j,i=j+1:=#[i-1,We];obtain e|e:=h.down y b
    .lia
    .exact q j We We e
  refine#[L,u,λi hi=>#[λhw=>?_,λ⟨a,c⟩=>.inr (g i a c)],λi d l=>?_,?_]
  .have b:=hw.resolve_left hm;have:=o i hi b;refine#[this,?_];by_cases B:(i:Int)<m+1+L
   .exact B
   .exact absurd b (out (i-(m.toNat+1+L)) i We hi)
  .have b:=g i d l;have hi:i<es.length:=by lia
   have e:=fN h.1 (m:=(i:Int)) We We;rw[ke]at e;rw[e]at b;split at b
   .cases b
   .rename_i D;have A:=h.1 i hi;obtain e2|b:=fL.1 b
    .lia
    .have:=bI h.1 (m:=es.getD i 0) We We b;lia
  .by_cases v:m+1+L=es.length
   .exact .inl v
   .refine .inr ?_;obtain⟨j,E⟩:∃j:Nat,(j:Int)=m+L:=#[(m+L).toNat,We];have f:j+1<es.length:=by lia
    have nw:m∉bP es ((j+1:Nat):Int):=out 0 QU We f;have x:m=j\/m∈bP es j:=by
     by_cases e:m=j
     .exact .inl e
     .exact .inr (g j We We)
    have C:(m+1+L).toNat=j+1:=by lia
    rw[C];have e:=fN h.1 (m:=((j+1:Nat):Int)) We We;rw[ke]at e;have A:=h.1 QU f;by_cases s:es.getD QU 0=-1
    .lia
    .rw[bW s]at e;rw[e]at nw;have n1:m≠es.getD QU 0:=λz=>nw (by rw[<- z];exact iB);have p:m∉bP es Qv3:=λz=>nw (i3 _ z);obtain z|z:=h.2 j f
     .rw[z]at n1 p;obtain w|w:=x
      .exact absurd w n1
      .exact absurd w p
     .obtain w|w:=x
      .have:=bI h.1 (m:=(j:Int)) We We z;lia
      .rcases rK h.1 (m:=(j:Int)) We We w z with c|c|c
       .exact absurd c n1
       .exact absurd c p
       .have:=bI h.1 (m:=m) We We c;lia
theorem zg:∀(n:Nat) (es:AT) (k:Int),(Dw n es k).length<=n
 | 0,_,_=>js _
 | n+1,es,k=>by
  rw[Dw];split
  .exact kx _
  .exact Nat.succ_le_succ (zg n es _)
noncomputable def bK(ks:BA)(x:Int):Bool:=decide (ks.getD x.toNat Str.empty="one")
noncomputable def iO(es:AT)(m:Int):AT:=((List.range es.length).filter (λ(i:Nat)=>decide (es.getD i 0=m))).map (λ(i:Nat)=>(i:Int))
def acm(es:AT)(m:Int):(((List.range es.length).map λ(i:Nat)=>D.tup [.int i,.int (es.getD i 0)]).filter (λd=>decide (d.at2.wL=m))).map (λd=>T.sh d.JU)=((iO es m).map D.int).map T.sh:=by
 unfold iO;rw[p3,kc,kc,kc];rfl
def Dy(es:AT)(m:Int):(iO es m).length<=es.length:=by
 unfold iO;rw[cM];exact l6 QfA Wp
theorem lM{m:Int}(h:x∈iO es m):0<=x/\x<es.length/\es.getD x.toNat 0=m:=by
 obtain⟨i,hi,rfl⟩:=i9.1 h;obtain⟨h1,h2⟩:=l0.1 hi;have h1:=nk.1 h1;have h2:=l3 h2;exact#[We,We,‹_› ]
theorem rL{m:Int}(h0:0<=x)(h1:QcH)(h2:es.getD x.toNat 0=m):x∈iO es m:=by
 refine List.mem_map.2 #[x.toNat,List.mem_filter.2 #[List.mem_range.2 We,by simpa using h2],We]
def Et(es:AT)(m:Int):(iO es m).Pairwise (· < ·):=by
 refine List.Pairwise.map _ (λa b h=>?_) (HI _ List.pairwise_lt_range);exact Int.ofNat_lt.2 h
noncomputable def OU(s:AT)(k:Int):Int:=if s.length=0 then k else s.getD (k % (s.length:Nat)).toNat 0 % 1000000007 / QuG+k / (s.length:Nat)*k
def Sq(es:AT)(m:Int)(n:Nat):Int:=(m::bP es m).getD n 0
theorem OV{es:AT}(h:dh es):∀(f:Nat) {m:Int} {n:Nat},0<=m->m<es.length->m<f->n<(bP es m).length->(0<=Sq es m n/\Sq es m n<es.length)/\es.getD (Sq es m n).toNat 0=Sq es m QaC
 | 0,m,n,h0,_,hf,_=>by lia
 | f+1,m,n,h0,h1,hf,hn=>by
  have hm:=h.at h0 h1;have e:=fN h h0 h1;generalize c:es.getD _ 0=k at hm e;by_cases b:k=-1
  .rw[e,cq b]at hn;cases hn
  .rw[bW b]at e;cases n with
   | zero=>
    unfold Sq;refine#[#[h0,h1],?_];exact e▸c
   | succ n=>
    rw[e,mM]at hn;have a:=OV h f (m:=k) (n:=n) We We We We;unfold Sq at a ⊢;exact e▸a
variable{n:Nat}
theorem KP{m:Int}(hn:n<=(bP es m).length):Sq es m n=m\/Sq es m n∈bP es m:=by
 cases n with
 | zero=>exact .inl rfl
 | succ n=>
  refine .inr ?_;show(bP es m).getD n 0∈_;grind
def Eu(n:Int)(es:AT)(j:Nat):Int:=if n % 3=0 then(if 2<((bP es j).length:Int)+1 then 2 else((bP es j).length:Int)+1) else((bP es j).length:Int)+1
def Fu(s:AT)(n:Int)(es:AT)(j:Nat):Int:=if ((bP es j).length:Int)=12 then(if 1 > OU s Qde % Eu n es j then 1 else OU s Qde % Eu n es j) else OU s Qde % Eu n es j
theorem acn(n:Int)(es:AT)(j:Nat):0<Eu n es j/\Eu n es j<=((bP es j).length:Int)+1:=by
 unfold Eu;split
 .split<;>lia
 .lia
theorem amj(s:AT)(n:Int)(es:AT)(j:Nat):0<=Fu s n es j/\Fu s n es j<=((bP es j).length:Int):=by
 obtain⟨h1,h2⟩:=acn n es j;have a:=mj (OU s Qde) (b:=Eu n es j) We;have b:=mm (OU s Qde) h1;unfold Fu;split
 .split<;>lia
 .lia
def q5(s:AT)(n:Int):Nat->AT
 | 0=>[-1]
 | j+1=>q5 s n j++[Sq Qj5 j (Fu s n Qj5 j).toNat]
theorem amk(s:AT)(n:Int):∀j,(q5 s n j).length=j+1/\mS Qj5
 | 0=>#[rfl,#[λk a=>by
   have:(q5 s n 0).length=1:=rfl;have:k=0:=by lia
   subst this;exact#[Int.le_refl _,show(-1)<0 by decide],λk a=>by
   have:(q5 s n 0).length=1:=rfl;lia]]
 | j+1=>by
  obtain⟨h1,h2⟩:=amk s n j;refine#[by show(q5 s n j++_).length=_;simp_all,?_];have b:=amj s n Qj5 j;exact h2.snoc h1.symm (KP We)
def YH(es:AT)(n:Nat):AT:=(List.range n).map λ(i:Nat)=>((bP es i).length:Int)
variable{i:Nat}
def S1(es:AT)(h:i<n):(YH es n).getD i 0=((bP es i).length:Int):=by
 unfold YH;rw[km,k4,pj h];rfl
def getD_snoc:(es++[x]).getD es.length 0=x:=by
 rw[km,y5 (js _),Nat.sub_self];rfl
theorem acp(h:dh es)(h0:0<=x)(h1:QcH):bP Qea es.length=x::bP es x:=by
 have h':=h.snoc We h1;rw[fN h' We WF,ke,getD_snoc,bW We,KN h h0 h1]
theorem acq(h:dh es)(h0:0<=x)(h1:QcH):YH Qea Qe8=YH es es.length++[((bP es x).length:Int)+1]:=by
 unfold YH;rw[rb,ky];congr 1
 .apply nv;intro i hi;have:=nk.1 hi;rw[KN h We We]
 .show [((bP _ _).length:Int)]=_;rw[acp h h0 h1];simp
noncomputable def eu(isAll:Bn)(es ch:AT):Nat->AT
 | 0=>[0]
 | j+1=>if es.getD QU 0∈eu isAll es ch j/\(isAll Qv3=true\/ch.getD (es.getD QU 0).toNat 0=((j+1:Nat):Int)) then eu isAll es ch j++[((j+1:Nat):Int)] else eu isAll es ch j
theorem gf{isAll:Bn}{es ch:AT}:∀(j:Nat) {x:Int},x∈eu isAll es ch j->0<=x/\x<=j
 | 0,x,h=>by simp_all [eu]
 | j+1,x,h=>by
  rw[eu]at h;split at h
  .obtain h|h:=i8.1 h
   .have:=gf j h;lia
   .have:=by simpa using h
    lia
  .have:=gf j h;lia
theorem zj{isAll:Bn}{es ch:AT}:∀(j:Nat),(eu isAll es ch j).length<=j+1
 | 0=>js _
 | j+1=>by
  have:=zj (isAll:=isAll) (es:=es) (ch:=ch) j;rw[eu];split
  .simp;lia
  .lia
noncomputable def au(ks:BA)(x:Int):Bool:=decide Qsa
theorem aml{k:Nat}(h:(k:Int)∈es):iO es k≠[]:=λz=>by
 obtain⟨i,hi,e⟩:=zp h;have:(i:Int)∈iO es k:=rL We We WA;simp_all
def LL(ks:BA)(es:AT):Prop:=∀k:Nat,k<es.length->ks.getD k Str.empty="one"->iO es k≠[]
noncomputable def aX(ks:BA)(x:Int):Bool:=decide QrW
noncomputable def rM(bw:Bn)(es fO acc:AT)(m:Int):AT:=if es.getD m.toNat 0∈fO/\bw Qgq=true then acc.set (es.getD m.toNat 0).toNat m else acc
def Ss(bw:Bn)(es fO acc ops:AT):AT:=ops.foldl (rM bw es fO) acc
theorem Dz(bw:Bn)(es fO:AT):∀(ops acc:AT),(Ss bw es fO acc ops).length=acc.length
 | [],acc=>rfl
 | m::ops,acc=>by
  show(Ss _ es _ _ ops).length=_;rw[Dz _ es _ _];unfold rM;split
  .rw[p4]
  .rfl
def acs(bw:Bn)(es fO acc ops:AT)(m:Int):Ss bw es fO acc QpK=rM bw es fO (Ss bw es fO acc ops) m:=by
 unfold Ss;simp
noncomputable def setStep(bw:Bn)(ch acc:AT)(m:Int):AT:=if bw m=true then acc.set m.toNat (ch.getD m.toNat 0) else acc
def YJ(bw:Bn)(ch acc some:AT):AT:=some.foldl (setStep bw ch) acc
theorem Ew(bw:Bn)(ch:AT):∀(some acc:AT),(YJ bw ch acc some).length=acc.length
 | [],acc=>rfl
 | m::ops,acc=>by
  show(YJ _ ch _ ops).length=_;rw[Ew _ ch _];unfold setStep;split
  .rw[p4]
  .rfl
theorem SU{bw:Bn}{es fO ch:AT} :
  ∀(ops acc:AT),(∀m∈ops,∀e,es.getD m.toNat 0=e->bw e=true->ch.getD e.toNat 0=m)->(∀e∈fO,0<=e/\e<acc.length)->∀i:Nat,i<acc.length →
   (Ss bw es fO acc ops).getD i 0=if (i:Int)∈fO/\bw i=true/\∃m∈ops,es.getD m.toNat 0=(i:Int) then ch.getD i 0 else acc.getD i 0
 | [],acc,_,_,i,_=>by
  simp;rfl
 | m::ops,acc,g,hm,i,hi=>by
  show(Ss bw es fO (rM bw es fO acc m) ops).getD i 0=_;have hl:(rM bw es fO acc m).length=acc.length:=by
   unfold rM;split
   .rw[p4]
   .rfl
  rw[SU ops _ (λk a=>g k Qee) (by rw[hl];exact hm) i (by rw[hl];exact hi)];by_cases h1:(i:Int)∈fO/\bw i=true/\∃m∈ops,es.getD m.toNat 0=(i:Int)
  .rw[cq h1,cq #[h1.1,h1.2.1,h1.2.2.imp λk a=>#[i3 _ a.1,a.2]]]
  .rw[bW h1];unfold rM;by_cases h2:es.getD m.toNat 0∈fO/\bw Qgq=true
   .rw[cq h2];have h:=hm _ h2.1;by_cases c:es.getD m.toNat 0=(i:Int)
    .rw[cq #[by rw[<- c];exact h2.1,by rw[<- c];exact h2.2,m,iB,c]];have:=g m iB _ c (by rw[<- c];exact h2.2);rw[ke]at this;rw[this,c,ke,km,wx hi];rfl
    .rw[bW (λz=>by
      obtain⟨f,d,k,a,b⟩:=z;obtain e|a:=fL.1 a
      .rw[e]at b;exact c b
      .exact h1 #[f,d,k,a,b])]
     rw[km,wi We,<- km]
   .rw[bW h2];rw[bW (λz=>by
     obtain⟨f,d,k,a,b⟩:=z;obtain e|a:=fL.1 a
     .rw[e]at b;exact h2 #[by rw[b];exact f,by rw[b];exact d]
     .exact h1 #[f,d,k,a,b])]
theorem DB{bw:Bn}{ch:AT}:∀(some acc:AT),(∀e∈some,0<=e/\e<acc.length)->∀i:Nat,i<acc.length →
   (YJ bw ch acc some).getD i 0=if (i:Int)∈some/\bw i=true then ch.getD i 0 else acc.getD i 0
 | [],acc,_,i,_=>rfl
 | m::ops,acc,hm,i,hi=>by
  show(YJ _ ch _ ops).getD i 0=_;have hl:(setStep bw ch acc m).length=acc.length:=by
   unfold setStep;split
   .rw[p4]
   .rfl
  rw[DB _ _ (hl▸λe he=>hm e QgR) i (hl▸hi)];have b:=hm m iB;by_cases h1:(i:Int)∈ops/\bw i=true
  .rw[cq h1,cq #[i3 _ h1.1,h1.2]]
  .rw[bW h1];unfold setStep;by_cases h2:bw m=true
   .rw[cq h2];by_cases a:m=i
    .subst a;rw[cq #[ Wp,h2],ke,km,wx hi];rfl
    .rw[bW (λz=>by
      obtain e|e:=fL.1 z.1
      .exact a e.symm
      .exact h1 #[e,z.2])]
     rw[km,wi We,<- km]
   .rw[bW h2,bW (λz=>by
     obtain e|e:=fL.1 z.1
     .rw[<- e]at h2;exact h2 z.2
     simp_all)]
def Ex{a b:AT}(hl:a.length=b.length)(h:∀i:Nat,i<a.length->a.getD i 0=b.getD i 0):a=b:=by
 apply List.ext_getElem hl;intro i h1 h2;have:=h i h1;rw[km,km,kA h1,kA h2]at this;exact this
theorem lN{isAll:Bn}{es ch:AT}(g:dh es):∀(j:Nat) {k:Nat},k<=j->j<es.length->(((k:Int)∈eu isAll es ch j)↔(k=0\/(es.getD k 0∈eu isAll es ch j/\QqD)))
 | 0,k,n,h=>by
  have:k=0:=by lia
  subst this;simp[eu]
 | j+1,k,n,h=>by
  have mono:∀{x:Int},x∈eu isAll es ch j->x∈eu isAll es ch QU:=λ{x} a=>by
   rw[eu];split
   .exact kq _ a
   .exact a
  have back:∀{x:Int},x<((j+1:Nat):Int)->x∈eu isAll es ch QU->x∈eu isAll es ch j:=λ{x} p a=>by
   rw[eu]at a;split at a
   .obtain z|z:=i8.1 a
    .exact z
    .have:x=((j+1:Nat):Int):=by simpa using z
     lia
   .exact a
  by_cases e:k=j+1
  .subst e;have o:=g QU h;have m:((j+1:Nat):Int)∉eu isAll es ch j:=λz=>by
    have:=gf j z;lia
   constructor
   .intro z;rw[eu]at z;split at z
    .rename_i c;exact .inr #[mono c.1,c.2]
    .exact absurd z m
   .rintro(z|⟨d,b⟩)
    .lia
    .rw[eu,cq #[back We d,b]];exact jN _ Wp
  .have f:=lN (isAll:=isAll) (ch:=ch) g j (k:=k) We We;have o:=g k We;constructor
   .intro z;obtain w|⟨l,i⟩:=f.1 (back We z)
    .exact .inl w
    .exact .inr #[mono l,i]
   .rintro(z|⟨d,b⟩)
    .exact mono (f.2 Qd6)
    .exact mono (f.2 (.inr #[back We d,b]))
theorem fz{isAll:Bn}{es ch:AT}:∀j,(eu isAll es ch j).Pairwise (· < ·)
 | 0=>nZ _ _
 | j+1=>by
  rw[eu];split
  .refine yY.2 #[fz j,nZ _ _,λa d b c=>?_];have:=gf j d;have:=by simpa using c
   lia
  .exact fz j
theorem xK:∀{a b:AT},a.Pairwise (· < ·)->b.Pairwise (· < ·)->(∀x,x∈a↔x∈b)->a=b
 | [],[],_,_,_=>rfl
 | [],y::b,_,_,h=>absurd ((h y).2 Wp) Wp
 | x::a,[],_,_,h=>absurd ((h x).1 iB) Wp
 | x::a,y::b,g,f,h=>by
  obtain⟨a1,a2⟩:=mN.1 g;obtain⟨b1,b2⟩:=mN.1 f;have e:x=y:=by
   obtain e|d:=fL.1 ((h x).1 iB)
   .exact e
   .obtain e|c:=fL.1 ((h y).2 iB)
    .exact e.symm
    .have:=a1 y c;have:=b1 x d;lia
  subst e;rw[xK a2 b2 λz=>#[λhz=>by
   obtain e|e:=fL.1 ((h z).1 Qfj)
   .have:=a1 z hz;lia
   .exact e,λhz=>by
   obtain e|e:=fL.1 ((h z).2 Qfj)
   .have:=b1 z hz;lia
   .exact e]]
def oQ(es ops:AT)(m:Int):AT:=(iO es m).filter (λx=>decide (x∈ops))
def OW(bw:Bn)(es ss ops:AT)(k:Nat):Int:=if bw k=true/\oQ es ops k≠[] then(oQ es ops k).getD 0 0 else ss.getD k 0
def YK(bw:Bn)(es ss ops:AT)(n:Nat):AT:=(List.range n).map (OW bw es ss ops)
def V9(bw:Bn)(es ss ops:AT){k:Nat}(h:k<n):(YK bw es ss ops n).getD k 0=OW bw es ss ops k:=by
 unfold YK;rw[km,k4,pj h];rfl
noncomputable def kD(ss mem:AT)(a:Bool)(e:Int):Int:=if a=true/\mem.getD e.toNat 0 ≠ -1 then mem.getD e.toNat 0 else ss.getD e.toNat 0
def Nj(aF isAll:Bn)(es ss mem:AT)(a:Bool)(m:Int):AT:=if aF m=true then [] else if isAll m=true then iO es m else [kD ss mem a m]
def kU(aF isAll:Bn)(es ss mem:AT)(far:Bool):Nat->Bool->Int->AT
 | 0,_,m=>[m]
 | d+1,near,m=>m::(Nj aF isAll es ss mem (far || near) m).flatMap (λp=>kU aF isAll es ss mem far d false p)
structure d7(aF isAll:Bn)(es ss mem:AT):Prop where
 pre:mS es
 leaf:∀k:Nat,k<es.length->aF k=true->iO es k=[]
 one:∀k:Nat,k<es.length->aF k=false->isAll k=false->ss.getD k 0∈iO es k/\(mem.getD k 0=-1\/mem.getD k 0∈iO es k)
variable{aF isAll:Bn}{mem:AT}
def Wa(h:Qa4){u:Bool}{k:Nat}(b:Qcf)(h1:aF k=false)(h2:isAll k=false):kD ss mem u k∈iO es k:=by
 obtain⟨a,c⟩:=h.one k b h1 h2;unfold kD;split
 .rename_i z;exact c.resolve_left z.2
 .exact a
variable{p:Int}
def qG(h:Qa4){u:Bool}{k:Nat}(b:Qcf)(a:p∈Nj aF isAll es ss mem u k):p∈iO es k:=by
 unfold Nj at a;split at a
 .cases a
 .rename_i h1;split at a
  .exact a
  .rename_i h2;have:=by simpa using a
   exact this▸Wa h b (by simpa using h1) (by simpa using h2)
def SS(h:Qa4){u:Bool}{k:Nat}(b:Qcf)(a:p∈iO es k):p∈Nj aF isAll es ss mem u k↔(isAll k=true\/kD ss mem u k=p):=by
 have hl:aF k=false:=by
  cases e:aF k with
  | false=>rfl
  | true=>rw[h.leaf k b e]at a;cases a
 unfold Nj;rw[bW (by rw[hl];decide)];cases e:isAll k with
 | true=>rw[cq rfl];exact#[λ_=>.inl rfl,λ_=>a]
 | false=>
  rw[bW Wl,lh];exact#[λz=>.inr z.symm,λz=>z.elim (λz=>by cases z) (λz=>z.symm)]
theorem cG(h:mS es)(b:p∈iO es k):0<=p/\p<es.length/\es.getD p.toNat 0=k/\k<p:=by
 have a:=lM b;have:=h.1 p.toNat We;refine#[a.1,a.2.1,a.2.2,?_];lia
theorem OX(h:Qa4){far:Bool}:∀(a c:Nat) {near:Bool} {k:Nat},k<es.length->es.length<=k+a+1->es.length<=k+c+1->kU aF isAll es ss mem far a near k=kU aF isAll es ss mem far c near k
 | 0,0,_,_,_,_,_=>rfl
 | 0,c+1,near,k,d,f,_=>by
  have:Nj aF isAll es ss mem (far || near) k=[]:=MO.2 λp b=>by
   have:=cG h.pre Qps;lia
  rw[kU,kU,this];rfl
 | a+1,0,near,k,d,_,e=>by
  have:Nj aF isAll es ss mem (far || near) k=[]:=MO.2 λp b=>by
   have:=cG h.pre Qps;lia
  rw[kU,kU,this];rfl
 | a+1,c+1,near,k,d,f,e=>by
  rw[kU,kU];congr 1;rw[List.flatMap_def,List.flatMap_def];congr 1;apply nv;intro p b;have g:=cG h.pre Qps;obtain⟨q,rfl⟩:∃q:Nat,p=q:=#[p.toNat,We];exact OX h a c We We We
theorem lO(h:Qa4){far:Bool}:∀(d:Nat) {near:Bool} {k:Nat},k<es.length->es.length<=k+d+1->∀x:Nat,x<es.length →
  ((x:Int)∈kU aF isAll es ss mem far d near k↔(x=k\/(k<x/\es.getD x 0∈kU aF isAll es ss mem far d near k/\(isAll Qe9=true\/kD ss mem (far || (near&&decide (es.getD x 0=(k:Int)))) Qe9=(x:Int)))))
 | 0,near,k,j,hd,x,i=>by
  rw[kU,lh];have t:=h.pre.1 x i;constructor
  .intro z;exact .inl We
  .rintro(z|⟨n,b,_⟩)
   .lia
   .lia
 | d+1,near,k,j,hd,x,i=>by
  have t:=h.pre.1 x i;rw[kU,fL,mI];have xM:∀p∈Nj aF isAll es ss mem (far || near) k,∀y:Nat,y<es.length->((y:Int)∈kU aF isAll es ss mem far d false p↔((y:Int)=p\/(p<y/\es.getD y 0∈kU aF isAll es ss mem far d false p/\(isAll (es.getD y 0)=true\/kD ss mem far (es.getD y 0)=(y:Int))))):=λp a y c=>by
   have l:=cG h.pre (qG h j a);obtain⟨q,rfl⟩:∃q:Nat,p=q:=#[p.toNat,We];have:=lO h (far:=far) d (near:=false) (k:=q) We We y c;rw[this];simp only[Bool.false_and,wy];constructor
   .rintro(z|⟨n,b⟩)
    .exact .inl We
    .exact .inr #[We,b]
   .rintro(z|⟨n,b⟩)
    .exact .inl We
    .exact .inr #[We,b]
  have f:∀(dd:Nat) (p:Nat),p<es.length->∀y:Int,y∈kU aF isAll es ss mem far dd false p->(p:Int)<=y:=by
   intro dd
   induction dd with
   | zero=>intro p _ y c;rw[kU,lh]at c;lia
   | succ dd s=>
    intro p a y c;rw[kU,fL,mI]at c;obtain e|⟨q,u,c⟩:=c
    .lia
    .have l:=cG h.pre (qG h a u);obtain⟨r,rfl⟩:∃r:Nat,q=r:=#[q.toNat,We];have:=s r We y c;lia
  constructor
  .rintro(z|⟨p,a,z⟩)
   .exact .inl We
   .have g:=qG h j a;have l:=cG h.pre g;have v:p<=x:=by
     obtain⟨q,rfl⟩:∃q:Nat,p=q:=#[p.toNat,We];exact f d q We x z
    refine .inr #[We,?_];rcases(xM p a x i).1 z with e|⟨e1,e2,w⟩
    .have A:es.getD x 0=(k:Int):=by
      rw[<- e,ke]at l;exact l.2.2.1
     rw[A];refine#[iB,?_];rw[l5 rfl,xb];have:=(SS h j g).1 a;rw[<- e]at this;exact this
    .have o:p<=es.getD x 0:=by
      obtain⟨q,rfl⟩:∃q:Nat,p=q:=#[p.toNat,We];exact f d q We _ e2
     refine#[i3 _ (mI.2 #[p,a,e2]),?_];rw[la We,wz,wy];exact w
  .rintro(z|⟨n,b,m⟩)
   .exact .inl We
   .obtain e|b:=fL.1 b
    .
     have g:(x:Int)∈iO es k:=rL We We (by rw[ke];exact e);rw[e,l5 rfl,xb]at m;have a:=(SS h j g).2 m;exact .inr #[x,a,(xM x a x i).2 Qaj]
    .obtain⟨p,a,b⟩:=mI.1 b;have g:=qG h j a;have l:=cG h.pre g;have o:p<=es.getD x 0:=by
      obtain⟨q,rfl⟩:∃q:Nat,p=q:=#[p.toNat,We];exact f d q We _ b
     rw[la We,wz,wy]at m;exact .inr #[p,a,(xM p a x i).2 (.inr #[We,b,m])]
theorem cz(h:Qa4){far:Bool}:∀(d:Nat) {near:Bool} {k:Nat},k<es.length->∀y∈kU aF isAll es ss mem far d near k,0<=y/\y<es.length/\(y=k\/(k:Int)∈bP es y)
 | 0,near,k,g,y,a=>by
  rw[kU,lh]at a;exact#[We,We,.inl a]
 | d+1,near,k,g,y,a=>by
  rw[kU,fL,mI]at a;obtain e|⟨p,j,a⟩:=a
  .exact#[We,We,.inl e]
  .have l:=cG h.pre (qG h g j);obtain⟨q,rfl⟩:∃q:Nat,p=q:=#[p.toNat,We];obtain⟨f,c,i⟩:=cz h d We y a;have b:(k:Int)∈bP es q:=by
    rw[fN h.pre.1 We We,l.2.2.1];simp
   refine#[f,c,.inr ?_];obtain e|e:=i
   .exact e▸b
   .exact k8 h.pre.1 f c e b
theorem nT(h:Qa4){far:Bool}:∀(d:Nat) {near:Bool} {k:Nat},k<es.length->(kU aF isAll es ss mem far d near k).Pairwise (· < ·)
 | 0,_,_,_=>by rw[kU];exact nZ _ _
 | d+1,near,k,g=>by
  rw[kU];refine mN.2 #[λy b=>?_,List.pairwise_flatMap.2 #[λp f=>?_,?_]]
  .obtain⟨p,f,b⟩:=mI.1 b;have s:=cG h.pre Qpt;obtain⟨q,rfl⟩:∃q:Nat,p=q:=#[p.toNat,We];obtain⟨l,j,i⟩:=cz h d (k:=q) We y b;obtain e|e:=i
   .lia
   .have:=bI h.pre.1 l j e;lia
  .have s:=cG h.pre Qpt;obtain⟨q,rfl⟩:∃q:Nat,p=q:=#[p.toNat,We];exact nT h d We
  .have hs:(Nj aF isAll es ss mem (far || near) k).Pairwise (· < ·):=by
    unfold Nj;split
    .exact .nil
    .split
     .exact Et es k
     .exact nZ _ _
   refine Mo ?_ hs;intro p r f n v x w y b;have s:=cG h.pre Qpt;have o:=cG h.pre (qG h g n);obtain⟨q,rfl⟩:∃q:Nat,p=q:=#[p.toNat,We];obtain⟨a,rfl⟩:∃a:Nat,r=a:=#[r.toNat,We];obtain⟨x0,B,t⟩:=cz h d (k:=q) We x w;obtain⟨l,j,i⟩:=cz h d (k:=a) We y b;obtain⟨L,S⟩:=Sn h.pre (m:=(q:Int)) We We;have xL:x<(q:Int)+1+L:=by
    obtain e|e:=t
    .lia
    .obtain⟨z,rfl⟩:∃z:Nat,x=z:=#[x.toNat,We];exact((S.iff z We).1 (.inr e)).2
   have u:¬ ((q:Int)∈bP es a):=λz=>by
    rw[fN h.pre.1 (m:=(a:Int)) We We,o.2.2.1,bW We]at z;obtain e|e:=fL.1 z
    .lia
    .have:=bI h.pre.1 (m:=(k:Int)) We We e;lia
   have A:(q:Int)+1+L<=a:=by
    have:=S.iff a We;by_cases c:(a:Int)<(q:Int)+1+L
    .exact absurd ((this.2 #[v,c]).resolve_left We) u
    .lia
   have:(a:Int)<=y:=by
    obtain e|e:=i
    .lia
    .have:=bI h.pre.1 l j e;lia
   lia
def Ey(isAll:Bn)(es ss mem:AT)(far near:Bool)(k:Nat):Nat->AT
 | 0=>[(k:Int)]
 | j+1=>if es.getD QcD 0∈Ey isAll es ss mem far near k j/\(isAll Qv4=true\/kD ss mem (far || (near&&decide (es.getD QcD 0=(k:Int)))) Qv4=((k+1+j:Nat):Int)) then Ey isAll es ss mem far near k j++[((k+1+j:Nat):Int)] else Ey isAll es ss mem far near k j
theorem vH{far near:Bool}{k:Nat}:∀(j:Nat) {x:Int},x∈Ey isAll es ss mem far near k j->k<=x/\x<=k+j
 | 0,x,h=>by simp_all [Ey]
 | j+1,x,h=>by
  rw[Ey]at h;split at h
  .obtain h|h:=i8.1 h
   .have:=vH j h;lia
   .have:=by simpa using h
    lia
  .have:=vH j h;lia
theorem xN{far near:Bool}{k:Nat}:∀j,(Ey isAll es ss mem far near k j).Pairwise (· < ·)
 | 0=>nZ _ _
 | j+1=>by
  rw[Ey];split
  .refine yY.2 #[xN j,nZ _ _,λa d b c=>?_];have:=vH j d;have:=by simpa using c
   lia
  .exact xN j
theorem Sw(h:Qa4){far near:Bool}{k d:Nat}(f:Qcf)(hd:es.length<=k+d+1):∀(j:Nat),k+j<es.length->∀x:Nat,x<=k+j->((x:Int)∈Ey isAll es ss mem far near k j↔(x:Int)∈kU aF isAll es ss mem far d near k)
 | 0,o,x,m=>by
  rw[Ey,lh,lO h d f hd x We];constructor
  .intro z;exact .inl We
  .rintro(z|⟨z,_⟩)
   .lia
   .lia
 | j+1,o,x,m=>by
  have g:=Sw h (far:=far) (near:=near) f hd j We;have r:=h.pre.1 QcD We;have mono:∀{y:Int},y∈Ey isAll es ss mem far near k j->y∈Ey isAll es ss mem far near k QU:=λ{y} a=>by
   rw[Ey];split
   .exact kq _ a
   .exact a
  have back:∀{y:Int},y<((k+1+j:Nat):Int)->y∈Ey isAll es ss mem far near k QU->y∈Ey isAll es ss mem far near k j:=λ{y} p a=>by
   rw[Ey]at a;split at a
   .obtain z|z:=i8.1 a
    .exact z
    .have:y=((k+1+j:Nat):Int):=by simpa using z
     lia
   .exact a
  by_cases e:x=k+1+j
  .subst e;rw[lO h d f hd QcD We];have nx:((k+1+j:Nat):Int)∉Ey isAll es ss mem far near k j:=λz=>by
    have:=vH j z;lia
   have b:es.getD QcD 0∈Ey isAll es ss mem far near k j↔es.getD QcD 0∈kU aF isAll es ss mem far d near k:=by
    by_cases e0:es.getD QcD 0=-1
    .rw[e0];constructor
     .intro z;have:=vH j z;lia
     .intro z;have:=cz h d f _ z;lia
    .obtain⟨q,n⟩:∃q:Nat,es.getD QcD 0=q:=#[(es.getD QcD 0).toNat,We];rw[n];exact g q We
   constructor
   .intro z;rw[Ey]at z;split at z
    .rename_i c;exact .inr #[We,b.1 c.1,c.2]
    .exact absurd z nx
   .rintro(z|⟨_,l,i⟩)
    .lia
    .rw[Ey,cq #[b.2 l,i]];exact jN _ Wp
  .have:=g x We;constructor
   .intro z;exact this.1 (back We z)
   .intro z;exact mono (this.2 z)
variable{far near:Bool}
theorem YL(h:Qa4){k d:Nat}(b:Qcf)(hd:es.length<=k+d+1):kU aF isAll es ss mem far d near k=Ey isAll es ss mem far near k (es.length-1-k):=by
 refine xK (nT h d b) (xN _) λx=>?_;constructor
 .intro a;have c:=cz h d b x a;obtain⟨q,rfl⟩:∃q:Nat,x=q:=#[x.toNat,We];exact(Sw h b hd _ We q We).2 a
 .intro a;have c:=vH _ a;obtain⟨q,rfl⟩:∃q:Nat,x=q:=#[x.toNat,We];exact(Sw h b hd _ We q We).1 a
def t7(mode:Str):Prop:=mode="new" \/ mode="near" \/ mode="far"
noncomputable def e7(mode:Str):Bool:=decide (mode="far")
noncomputable def iE(mode:Str):Bool:=decide (mode="near")
def GR(ks:BA)(es ss mem:AT)(mode:Str)(m:Int):AT:=kU QaT Q4 es ss mem Qka es.length QpL m
theorem DC(h:Qa4){d k:Nat}(g:Qcf):(kU aF isAll es ss mem far d near k).length<=es.length:=by
 have hs:=nT h (far:=far) d (near:=near) g;have e:=cz h (far:=far) d (near:=near) g;generalize kU _ _ es ss _ _ d _ k=l at hs e;have go:∀(l:Qem) (lo:Int),l.Pairwise (· < ·)->(∀x∈l,lo<=x/\x<es.length)->l.length<=es.length-lo\/l=[]:=by
  intro l
  induction l with
  | nil=>intro lo _ _;exact .inr rfl
  | cons x r i=>
   intro lo h1 h2;obtain⟨a,c⟩:=mN.1 h1;have b:=h2 x iB;rcases i _ c (λy f=>#[a y f,(h2 y (i3 _ f)).2]) with z|z
   .left;grind
   .left;rw[z];simp;lia
 rcases go l 0 hs (λx b=>#[(e x b).1,(e x b).2.1]) with z|z
 .lia
 simp_all
def jf(es:AT)(u t x:Int):Prop:=x=t\/(x∈bP es t/\(u=-1\/u∈bP es x))
theorem Ez(h:dh es)(t0:0<=t)(t1:Qb1)(a:QhF)(x:Int):x∈cT es u t↔jf es u t x:=by
 unfold cT jf;rw[w1,fL];refine or_congr Iff.rfl ?_;obtain rfl|a:=a
 .have e:(bP es t).takeWhile (λx=>decide (x ≠ -1))=bP es t:=by
   have:=MI (p:=λx=>decide (x≠(-1:Int))) (l₁:=bP es t) (l₂:=[]) (λy b=>by
    have:=bI h t0 t1 b;simp;lia)
   simpa using this
  simp_all
 .have i:=bI h t0 t1 a;constructor
  .intro z;exact#[(Ii _).subset z,.inr (Dc h t0 t1 a z)]
  .rintro⟨c,f⟩;obtain⟨pre,p1,p2⟩:=qF h (t.toNat+1) t0 t1 We a;have ne:∀y∈pre,decide (y≠u)=true:=λy b=>by
    have g:=bI h t0 t1 (p2 y b).1;have:=bI h (m:=y) We We (p2 y b).2;simp;lia
   have e:(bP es t).takeWhile Qc4=pre:=by
    rw[p1,MI ne,List.takeWhile_cons,bW Wp,ko]
   rw[e];have k:=bI h t0 t1 c;have d:u∈bP es x:=f.resolve_left We;have j:=bI h (m:=x) We We d;rw[p1]at c;obtain z|z:=i8.1 c
   .exact z
   .obtain z|z:=fL.1 z
    .lia
    .have:=bI h (m:=u) We We z;lia
variable{t:Nat}
def oT(aF isAll:Bn)(es ss mem:AT)(far near:Bool)(u:Int)(t:Nat)(x:Int):Prop:=
 (jf es u t x/\x≠t)\/x∈kU aF isAll es ss mem far es.length near t\/∃s p,jf es u t s/\s≠t/\isAll s=true/\p∈iO es s/\¬ jf es u t p/\x∈kU aF isAll es ss mem false es.length false p
def CB(aF isAll:Bn)(es ss mem:AT)(far near:Bool)(u:Int)(t:Nat)(e x:Int):Prop:=
 isAll e=true\/(kD ss mem ((decide (e=t)&&(far || near)) || Qqq) e=x/\(e=t\/¬ jf es u t e))
theorem kF(h:dh es)(b:Qb1)(a:jf es u t x):0<=x/\x<=t:=by
 obtain e|⟨e,_⟩:=a
 .lia
 .have:=bI h We We e;lia
theorem Wb(h:dh es)(c:Qb1){s:Int}(hs:jf es u t s)(d:p∈iO es s)(a:p∈bP es t\/p=t):jf es u t p:=by
 obtain a|a:=a
 .refine .inr #[a,?_];have f:=kF h c hs;have b:=lM d;have pb:=bI h (m:=(t:Int)) We We a;have e:=fN h (m:=p) b.1 b.2.1;rw[b.2.2,bW We]at e;have st:s∈bP es t:=k8 h We We a (by rw[e];exact iB);obtain z|⟨_,z|z⟩:=hs
  .have:=bI h (m:=(t:Int)) We We st;lia
  .exact .inl z
  .exact .inr (by rw[e];exact i3 _ z)
 .exact .inl a
theorem zk(h:Qa4)(d:Qb1){s:Int}(hs:jf es u t s)(c:s≠t)(f:p∈iO es s)(hpl:¬ jf es u t p)(b:x=p\/p∈bP es x)(x0:0<=x)(g:QcH):¬ jf es u t x/\¬ Quc:=by
 have a:=h.pre.1;have i:=kF a d hs;have pb:=cG h.pre f;have up:=λz=>hpl (Wb a d hs f z);have key:¬ Quc:=by
  rintro(z|z)
  .rw[z]at b;obtain e|e:=b
   .exact up (.inr e.symm)
   .exact up Qkh
  .obtain e|e:=b
   .rw[e,fN a (m:=p) pb.1 pb.2.1,pb.2.2.1,bW We]at z;obtain w|w:=fL.1 z
    .exact c w.symm
    .have:=bI a (m:=s) We We w;lia
   .obtain w|w|w:=rK a x0 g z e
    .exact up (.inr w.symm)
    .rw[fN a (m:=p) pb.1 pb.2.1,pb.2.2.1,bW We]at w;obtain v|v:=fL.1 w
     .exact c v.symm
     .have:=bI a (m:=s) We We v;lia
    .exact up Qd1
 refine#[λz=>?_,key];obtain z|⟨z,_⟩:=z
 .exact key Qd6
 .obtain e|e:=b
  .rw[e]at z;exact up Qd6
  .exact up (.inl (k8 a We We z e))
theorem Wc(h:Qa4)(c:Qb1)(x:Nat)(g:QcH) :
  oT aF isAll es ss mem far near u t x↔(jf es u t x\/(oT aF isAll es ss mem far near u t Qe9/\¬ jf es u t x/\CB aF isAll es ss mem far near u t Qe9 x)):=by
 have i:=h.pre.1;have P:=i x g;have f:=λy F=>cz h (far:=far) (near:=near) es.length c y F;have vn:(t:Int)∈kU aF isAll es ss mem far es.length near t:=(lO h es.length c We t c).2 Qaj;have n:∀y:Int,y∈kU aF isAll es ss mem far es.length near t->y≠t->¬ jf es u t y:=λy F L z=>by
  obtain⟨D,C,B⟩:=f y F;have:=kF i c z;obtain e|e:=B
  .exact L e
  .have:=bI i D C e;lia
 constructor
 .rintro(z|z|⟨s,p,a,l,j,o,A,m⟩)
  .exact .inl z.1
  .by_cases e:(x:Int)=t
   .exact .inl Qkh
   .refine .inr ?_;have H:=z;rw[lO h es.length c We x g]at H;obtain⟨r,d,b⟩:=H.resolve_left We;refine#[.inr (.inl d),n x z e,?_];unfold CB;obtain b|b:=b
    .exact .inl b
    .refine .inr #[?_,?_]
     .rw[l5 d,xb];rw[<- b];congr 1;cases far<;>cases near<;>simp
     .by_cases e2:es.getD x 0=t
      .exact .inl e2
      .exact .inr (n _ d e2)
  .have pb:=cG h.pre o;have J:=kF i c a;obtain⟨q,rfl⟩:∃q:Nat,p=q:=#[p.toNat,We];obtain⟨D,C,B⟩:=cz h (far:=false) (near:=false) es.length (k:=q) We x m;obtain⟨M,O⟩:=zk h c a l o A B D C;refine .inr #[?_,M,?_]
   .rw[lO h es.length (k:=q) We We x g]at m;obtain w|⟨_,d,_⟩:=m
    .subst w;have:es.getD x 0=s:=by have:=pb.2.2.1;rwa [ke]at this
     rw[this];exact .inl #[a,l]
    .exact .inr (.inr #[s,q,a,l,j,o,A,d])
   .rw[lO h es.length (k:=q) We We x g]at m;unfold CB;obtain w|⟨_,d,b⟩:=m
    .subst w;have:es.getD x 0=s:=by have:=pb.2.2.1;rwa [ke]at this
     rw[this];exact .inl j
    .obtain b|b:=b
     .exact .inl b
     .obtain⟨e0,e1,e2⟩:=cz h (far:=false) (near:=false) es.length (k:=q) We _ d;obtain⟨p1,p2⟩:=zk h c a l o A e2 e0 e1;refine .inr #[?_,.inr p1];rw[la QtQ,la Qrg];rw[<- b];congr 1;simp
 .rintro(z|⟨a,l,j⟩)
  .by_cases e:(x:Int)=t
   .rw[e];exact .inr (.inl vn)
   .exact .inl #[z,e]
  .unfold CB at j;obtain a|a|⟨s,p,r,d,b,E,I,w6⟩:=a
   .
    have J:=kF i c a.1;have N:isAll Qe9=true:=j.elim id (λw=>w.2.elim (λv=>absurd v a.2) (λv=>absurd a.1 v));have K:(x:Int)∈iO es Qe9:=rL We We (by rw[ke]);exact .inr (.inr #[_,x,a.1,a.2,N,K,l,(lO h es.length g We x g).2 Qaj])
   .obtain⟨e0,e1,e2⟩:=f _ a;have G:(t:Int)<=es.getD x 0:=by
     obtain e|e:=e2
     .lia
     .have:=bI i e0 e1 e;lia
    refine .inr (.inl ((lO h es.length c We x g).2 (.inr #[We,a,?_])));obtain w|⟨w,_⟩:=j
    .exact .inl w
    .refine .inr ?_;rw[<- w,l5 a,xb];congr 1;cases far<;>cases near<;>simp
   .have pb:=cG h.pre E;have J:=kF i c r;obtain⟨q,rfl⟩:∃q:Nat,p=q:=#[p.toNat,We];obtain⟨e0,e1,e2⟩:=cz h (far:=false) (near:=false) es.length (k:=q) We _ w6;obtain⟨p1,p2⟩:=zk h c r d E I e2 e0 e1;have G:(q:Int)<=es.getD x 0:=by
     obtain e|e:=e2
     .lia
     .have:=bI i e0 e1 e;lia
    refine .inr (.inr #[s,q,r,d,b,E,I,(lO h es.length (k:=q) We We x g).2 (.inr #[We,w6,?_])]);obtain w|⟨w,_⟩:=j
    .exact .inl w
    .refine .inr ?_;rw[<- w,la QtQ,la Qrg];congr 1;simp
def q4(aF isAll:Bn)(es ss mem:AT)(far near:Bool)(u:Int)(t:Nat):AT:=
 (cT es u t).dropLast++kU aF isAll es ss mem far es.length near t++((cT es u t).dropLast.filter Qm3).flatMap (λs=>((iO es s).filter Qll).flatMap (λp=>kU aF isAll es ss mem false es.length false p))
def Bf(es:AT)(u t:Int):(cT es u t).dropLast=((bP es t).takeWhile Qc4).reverse:=by
 unfold cT;rw[rf,List.dropLast_concat]
theorem vI(h:dh es)(d:Qb1)(b:x∈(cT es u t).dropLast):x∈cT es u t/\x≠t:=by
 have a:=b;rw[Bf,w1]at b;have c:=(Ii _).subset b;have:=bI h We We c;exact#[List.dropLast_subset _ a,We]
def Wd(a:x∈cT es u t)(b:x≠t):x∈(cT es u t).dropLast:=by
 rw[Bf,w1];unfold cT at a;rw[w1]at a;exact(fL.1 a).resolve_left b
theorem DE(h:Qa4)(b:Qb1)(j:QhF)(x:Int):x∈q4 aF isAll es ss mem far near u t↔oT aF isAll es ss mem far near u t x:=by
 have li:=Ez h.pre.1 We We j;unfold q4 oT;rw[i8,i8,or_assoc];refine or_congr ?_ (or_congr Iff.rfl ?_)
 .constructor
  .intro z;obtain⟨a,c⟩:=vI h.pre.1 b z;simp_all
  .rintro⟨a,c⟩;exact Wd ((li x).2 a) c
 .simp only[mI,l0];constructor
  .rintro⟨s,⟨s1,s2⟩,p,⟨p1,p2⟩,z⟩;obtain⟨a,c⟩:=vI h.pre.1 b s1;refine#[s,p,(li s).1 a,c,s2,p1,λw=>?_,z];simp_all
  .rintro⟨s,p,i,g,f,e,k,d⟩;refine#[s,#[Wd ((li s).2 i) g,f],p,#[e,?_],d];simp_all
variable{l:AT}
theorem qH(h:l.Pairwise (· < ·)):l.Nodup:=List.Pairwise.imp (λ{a b} c=>by lia) h
theorem Bg(h:Qa4)(j:Qb1)(Z:QhF):(q4 aF isAll es ss mem far near u t).Nodup:=by
 have d:=h.pre.1;have li:=Ez d (u:=u) (t:=(t:Int)) We We Z;have E:(cT es u t).dropLast.Nodup:=by
  rw[Bf];have hs:=xJ d (t+1) (m:=(t:Int)) We We We;exact List.pairwise_reverse.2 (List.Pairwise.imp (λ{a b} (aa:b<a)=>(by lia:b≠a)) (List.Pairwise.sublist (Ii _) hs))
 have side:∀s∈(cT es u t).dropLast.filter Qm3,∀p∈(iO es s).filter Qll,jf es u t s/\s≠t/\p∈iO es s/\¬ jf es u t p:=λs hs p n=>by
  obtain⟨s1,s2⟩:=l0.1 hs;obtain⟨p1,p2⟩:=l0.1 n;obtain⟨a,c⟩:=vI d j s1;refine#[(li s).1 a,c,p1,λw=>?_];rw[l5 ((li p).2 w)]at p2;cases p2
 have wit:∀s p x,jf es u t s->s≠t->p∈iO es s->¬ jf es u t p->x∈kU aF isAll es ss mem false es.length false p->0<=x/\x<es.length/\(x=p\/p∈bP es x):=λs p x _ _ n _ v=>by
  have pb:=cG h.pre n;have K:∃q:Nat,p=q:=#[p.toNat,by
   have:=pb.1;lia]
  obtain⟨q,rfl⟩:=K;exact cz h es.length We x v
 unfold q4;refine ma.2 #[ma.2 #[E,qH (nT h _ j),λa N b B e=>?_],?_,λa N b B e=>?_]
 .subst e;obtain⟨a1,a2⟩:=vI d j N;have lb:=kF d j ((li a).1 a1);obtain⟨V,U,T⟩:=cz h es.length j a B;obtain e|e:=T
  .exact a2 e
  .have:=bI d V U e;lia
 .refine List.pairwise_flatMap.2 #[λs hs=>List.pairwise_flatMap.2 #[λp n=>?_,?_],?_]
  .obtain⟨_,_,p1,_⟩:=side s hs p n;have pb:=cG h.pre p1;have K:∃q:Nat,p=q:=#[p.toNat,by
    have:=pb.1;lia]
   obtain⟨q,rfl⟩:=K;exact qH (nT h _ We)
  .have L:((iO es s).filter Qll).Pairwise (· < ·):=HI _ (Et es s);refine Mo ?_ L;intro p l n A mG x v y G e;subst e;obtain⟨s1,s2,p1,p2⟩:=side s hs p n;obtain⟨_,_,i,r⟩:=side s hs l A;obtain⟨x0,D,C⟩:=wit s p x s1 s2 p1 p2 v;obtain⟨_,_,k⟩:=wit s l x s1 s2 i r G;have pb:=cG h.pre p1;have f:=cG h.pre i;have O:=kF d j s1;have S:∀z,z∈bP es l->z<=s:=λz hz=>by
    rw[fN d (m:=l) f.1 f.2.1,f.2.2.1,bW We]at hz;obtain w|w:=fL.1 hz
    .lia
    .have:=bI d (m:=s) We We w;lia
   have R:∀z,z∈bP es p->z<=s:=λz hz=>by
    rw[fN d (m:=p) pb.1 pb.2.1,pb.2.2.1,bW We]at hz;obtain w|w:=fL.1 hz
    .lia
    .have:=bI d (m:=s) We We w;lia
   obtain e|e:=C
   .obtain g|g:=k
    .lia
    .rw[e]at g;have:=R _ g;lia
   .obtain g|g:=k
    .rw[g]at e;have:=S _ e;lia
    .obtain w|w|w:=rK d x0 D e g
     .lia
     .have:=S _ w;lia
     .have:=R _ w;lia
  .have M:((cT es u t).dropLast.filter Qm3).Nodup:=HI _ E;refine Mo ?_ M;intro s s' hs J W x v y G e;subst e;obtain⟨p,n,v⟩:=mI.1 v;obtain⟨l,A,G⟩:=mI.1 G;obtain⟨s1,s2,p1,p2⟩:=side s hs p n;obtain⟨o,I,i,r⟩:=side s' J l A;obtain⟨x0,D,C⟩:=wit s p x s1 s2 p1 p2 v;obtain⟨_,_,k⟩:=wit s' l x o I i r G;have pb:=cG h.pre p1;have f:=cG h.pre i;have O:=kF d j s1;have H:=kF d j o;have up:∀{s p s':Int},jf es u t s->p∈iO es s->¬ jf es u t p->jf es u t s'->0<=s'->¬ (p=s'\/p∈bP es s'):=λ{s p s'} ls pin np F _ z=>by
    refine np ?_;obtain z|z:=z
    .rw[z];exact F
    .refine Wb d j ls pin (.inl ?_);obtain w|⟨w,_⟩:=F
     .rw[<- w];exact z
     .exact k8 d We We w z
   have d1:¬ p∈bP es l:=λz=>by
    rw[fN d (m:=l) f.1 f.2.1,f.2.2.1,bW We]at z;exact up s1 p1 p2 o H.1 ((fL.1 z))
   have d2:¬ l∈bP es p:=λz=>by
    rw[fN d (m:=p) pb.1 pb.2.1,pb.2.2.1,bW We]at z;exact up o i r s1 O.1 ((fL.1 z))
   have P:p≠l:=λz=>W (by rw[<- pb.2.2.1,<- f.2.2.1,z]);obtain e|e:=C
   .obtain g|g:=k
    .exact P (e.symm.trans g)
    .rw[e]at g;exact d2 g
   .obtain g|g:=k
    .rw[g]at e;exact d1 e
    .obtain w|w|w:=rK d x0 D e g
     .exact P w
     .exact d1 w
     .exact d2 w
 .subst e;obtain⟨s,hs,B⟩:=mI.1 B;obtain⟨p,n,B⟩:=mI.1 B;obtain⟨s1,s2,p1,p2⟩:=side s hs p n;obtain⟨x0,D,C⟩:=wit s p a s1 s2 p1 p2 B;obtain⟨Y,X⟩:=zk h j s1 s2 p1 p2 C x0 D;obtain z|z:=i8.1 N
  .exact Y ((li a).1 (vI d j z).1)
  .exact X ((cz h es.length j a z).2.2.elim .inl .inr)
theorem LI(h:Qa4)(a:Qb1)(c:QrN):0<=x/\x<es.length:=by
 obtain z|z|⟨s,p,i,g,f,b,e,w6⟩:=c
 .have:=kF h.pre.1 a z.1;lia
 .have:=cz h _ a x z;lia
 .have pb:=cG h.pre b;have d:∃q:Nat,p=q:=#[p.toNat,by
   have:=pb.1;lia]
  obtain⟨q,rfl⟩:=d;have:=cz h _ We _ w6;lia
theorem zl{α:Type}{f:α->AT}{c:Nat}:∀{l:Qaf},(∀x∈l,(f x).length<=c)->(l.flatMap f).length<=l.length*c
 | [],_=>by simp
 | x::l,h=>by
  rw[y6,lj,mM];have:=zl λy a=>h y Qee;have:=h x iB;lia
variable{α:Type}
theorem YM(l:Qaf):cutD l none Qo2=l.dropLast:=by
 unfold cutD;have e1:HT.GK l.length 0 none=0:=rfl;have e2:HT.GK l.length l.length Qo2=l.length-1:=by
  unfold HT.GK;lia
 rw[e1,e2,List.drop_zero,Nat.sub_zero,List.dropLast_eq_take]
def KQ(h:bK ks x=true):au ks x=false:=by
 have h:=l3 h;unfold au;rw[h];rfl
variable{ch:AT}
theorem YN{some:AT}(g:dh es)(hn:es.length=n)(o:0<n)(hm:mem.length=n)(r:ch.length=n)(p:∀k:Nat,k<n->ks.getD k Str.empty="one"->ch.getD k 0∈iO es k)
  (hs:∀x∈some,x∈eu Q4 es ch Qd5):Ss QaG es some mem Qiy=YJ QaG ch mem some:=by
 have l:∀m∈eu Q4 es ch Qd5,0<=m/\m<n:=λm a=>by
  have:=gf _ a;lia
 have b:∀m∈some,0<=m/\m<mem.length:=λm a=>by
  have:=l m (hs m a);lia
 have key:∀m∈eu Q4 es ch Qd5,∀e,es.getD m.toNat 0=e->bK ks e=true->0<=e->ch.getD e.toNat 0=m:=λm a e he f e0=>by
  have q:=l m a;obtain⟨k,rfl⟩:∃k:Nat,m=k:=#[m.toNat,We];rw[ke]at he;rcases(lN g (n-1) (k:=k) We We).1 a with z|⟨_,z⟩
  .subst z;have:=g 0 We;lia
  .rw[he]at z;obtain z|z:=z
   .rw[KQ f]at z;cases z
   .exact z
 apply Ex
 .rw[Dz,Ew]
 .intro i hi;rw[Dz]at hi;rw[DB some mem b i hi];have h1:=SU (bw:=λx=>bK ks x&&decide (0<=x)) (es:=es) (fO:=some) (ch:=ch) Qiy mem (λm a e he f=>by
   rw[l9,pf]at f;exact key m a e he f.1 f.2) b i hi
  have h2:Ss (λx=>bK ks x&&decide (0<=x)) es some mem Qiy=Ss QaG es some mem Qiy:=by
   unfold Ss;congr 1;funext acc m;unfold rM;by_cases h:es.getD m.toNat 0∈some
   .have:=b _ h;simp only[l5 this.1,xb]
   .rw[bW Qv5,bW Qv5]
  rw[<- h2,h1];by_cases c:(i:Int)∈some/\bK ks i=true
  .rw[cq c,cq ?_];refine#[c.1,by rw[c.2,l5 We];rfl,?_];have d:=lM (p i We (by have:=l3 c.2;rwa [ke]at this));obtain⟨k,j⟩:∃k:Nat,ch.getD i 0=k:=#[(ch.getD i 0).toNat,We];rw[j]at d;rw[ke]at d;refine#[(k:Int),(lN g Qd5 (k:=k) We We).2 (.inr #[by rw[d.2.2];exact hs _ c.1,.inr (by rw[d.2.2,ke,j])]),by rw[ke];exact d.2.2]
  .rw[bW c,bW (λz=>c #[z.1,by have:=z.2.1;rw[l9]at this;exact this.1])]
theorem acA{O:AT}(b:dh es)(hn:QfZ)(hs:O.Pairwise (· < ·))(c:∀x∈O,0<=x/\x<es.length)
  (g:∀k:Nat,k<es.length->((k:Int)∈O↔(k=0\/(es.getD k 0∈O/\QqD)))):eu isAll es ch Q3=O:=by
 have key:∀(f k:Nat),k<f->k<es.length->((k:Int)∈eu isAll es ch Q3↔(k:Int)∈O):=by
  intro f
  induction f with
  | zero=>intro k h;lia
  | succ f d=>
   intro k j a;rw[lN b Q3 We We,g k a];have l:=b k a;by_cases e:es.getD k 0=-1
   .rw[e];constructor
    .rintro(z|z)
     .exact .inl z
     .have:=gf _ z.1;lia
    .rintro(z|z)
     .exact .inl z
     .have:=c _ z.1;lia
   .obtain⟨q,i⟩:∃q:Nat,es.getD k 0=q:=#[(es.getD k 0).toNat,We];rw[i,d q We We]
 refine xK (fz _) hs λx=>?_;constructor
 .intro z;have:=gf _ z;obtain⟨q,rfl⟩:∃q:Nat,x=q:=#[x.toNat,We];exact(key (q+1) q We We).1 z
 .intro z;have:=c _ z;obtain⟨q,rfl⟩:∃q:Nat,x=q:=#[x.toNat,We];exact(key (q+1) q We We).2 z
theorem Wf{isAll:Bn}{es ss mem:AT}:∀j,Ey isAll es ss mem false false 0 j=eu isAll es ss j
 | 0=>rfl
 | j+1=>by
  rw[Ey,Wf j];have e:0+1+j=j+1:=by lia
  rw[e];rfl
def zm(bw:Bn)(es ch:AT):Prop:=∀k:Nat,k<es.length->bw k=true->ch.getD k 0∈iO es k
def t8(aF bw isAll:Bn)(es:AT):Prop:=∀k:Nat,k<es.length->(aF k=true/\bw k=false/\isAll k=false/\iO es k=[])\/(aF k=false/\bw k=true/\isAll k=false)\/(aF k=false/\bw k=false/\isAll k=true)
theorem agV(a:QhG){e k:Nat}(he:Qpu)(c:Qcf)(h:es.getD k 0=(e:Int))(b:¬ isAll e=true):aF e=false/\bw e=true/\isAll e=false:=by
 obtain z|z|z:=a e he
 .have:(k:Int)∈iO es e:=rL We We ‹_›;simp_all
 .exact z
 .exact absurd z.2.2 b
theorem Wg(a:dh es)(f:QhG){k e:Nat}(he:Qpu)(b:Qcf)(h:es.getD k 0=(e:Int))(d:Qsx)(c:¬ isAll e=true):((k:Int)∈eu isAll es ch Q3↔ch.getD e 0=(k:Int)):=by
 rw[lN a Q3 We We,h];have:=a k b;constructor
 .rintro(z|z)
  .lia
  .obtain z|z:=z.2
   .exact absurd z c
   .rwa [ke]at z
 .intro z;exact .inr #[d,.inr (by rw[ke];exact z)]
theorem OY(g:dh es)(b:QhG)(n:Qpv){e:Nat}(he:Qpu)(a:bw e=true)(i:Qsx):oQ es QeL e≠[]/\(oQ es QeL e).getD 0 0=ch.getD e 0:=by
 have d:=n e he a;have c:=lM d;have h:¬ isAll e=true:=λz=>by
  obtain y|y|y:=b e he
  .rw[y.2.1]at a;cases a
  .rw[y.2.2]at z;cases z
  .rw[y.2.1]at a;cases a
 have hm:ch.getD e 0∈oQ es QeL e:=by
  refine l0.2 #[d,l5 ?_];obtain⟨q,f⟩:∃q:Nat,ch.getD e 0=q:=#[(ch.getD e 0).toNat,We];rw[f]at c ⊢;rw[ke]at c;exact(Wg g b he We c.2.2 i h).2 f
 have k:∀x∈oQ es QeL e,x=ch.getD e 0:=λx m=>by
  obtain⟨h1,h2⟩:=l0.1 m;have h2:=l3 h2;have j:=lM h1;obtain⟨q,rfl⟩:∃q:Nat,x=q:=#[x.toNat,We];rw[ke]at j;exact((Wg g b he We j.2.2 i h).1 h2).symm
 generalize oQ es QeL e=l at hm k;cases l with
 | nil=>cases hm
 | cons y l=>exact#[Wp,k y iB]
theorem acB(a:dh es)(hn:QfZ)(g:QhG)(j:Qpv):eu isAll es (YK bw es ss QeL es.length) Q3=eu isAll es ch Q3:=by
 refine acA a hn (fz _) (λx i=>by have:=gf _ i;lia) λk c=>?_;rw[lN a _ We We];have m:=a k c;by_cases b:es.getD k 0∈eu isAll es ch Q3
 .have l:=gf _ b;obtain⟨e,he⟩:∃e:Nat,es.getD k 0=e:=#[(es.getD k 0).toNat,We];rw[he]at b ⊢;by_cases h:isAll e=true
  .simp[h,true_or]
  .have f:=(agV g We c he h).2.1;have d:=OY a g j We f b;rw[ke,V9 _ _ _ _ We];unfold OW;rw[cq #[f,d.1],d.2]
 .simp only[b,false_and]
theorem Wh(b:dh es):∀(f:Nat) {t e:Int},0<=t->t<es.length->t<f->e∈bP es t->∃y:Int,Qnd/\0<=y/\y<es.length/\es.getD y.toNat 0=e
 | 0,t,e,h0,_,hf,_=>by lia
 | f+1,t,e,h0,h1,hf,he=>by
  have a:=fN b h0 h1;have i:=b.at h0 h1;by_cases e1:es.getD t.toNat 0=-1
  .rw[a,cq e1]at he;cases he
  .rw[bW e1]at a;rw[a]at he;obtain z|z:=fL.1 he
   .exact#[t,.inl rfl,h0,h1,z.symm]
   .obtain⟨y,h,g,d,c⟩:=Wh b f We We We z;refine#[y,.inr ?_,g,d,c];rw[a];obtain z|z:=h
    .exact z▸iB
    .exact i3 _ z
theorem YQ(h:dh es){t:Int}(t0:0<=t)(t1:Qb1)(x0:0<=x)(e:QcH)(d:0<=y)(b:y<es.length)(he:es.getD x.toNat 0=es.getD y.toNat 0)(g:x=t\/x∈bP es t)(f:Qnd):x=y:=by
 have no:∀a c:Int,0<=a->a<es.length->0<=c->c<es.length->es.getD a.toNat 0=es.getD c.toNat 0->¬ a∈bP es c:=λa c a0 a1 c0 i j hm=>by
  have k:=h.at a0 a1;rw[fN h c0 i]at hm;by_cases e1:es.getD c.toNat 0=-1
  .rw[cq e1]at hm;cases hm
  .rw[bW e1]at hm;obtain z|z:=fL.1 hm
   .lia
   .have:=bI h We We z;lia
 obtain rfl|g:=g<;>obtain rfl|f:=f
 .rfl
 .exact absurd f Qtj
 .exact absurd g Qu6
 .obtain z|z|z:=rK h t0 t1 g f
  .exact z
  .exact absurd z Qu6
  .exact absurd z Qtj
theorem xO(h:mS es):∀(f t:Nat),t<f->t<es.length->t=0\/(0:Int)∈bP es t
 | 0,t,hf,_=>by lia
 | f+1,t,hf,b=>by
  by_cases e:t=0
  .exact .inl e
  .obtain⟨s,rfl⟩:∃s,t=s+1:=#[t-1,We];have d:=h.1 _ b;have h2:0<=es.getD (s+1) 0:=by
    obtain z|z:=h.2 s b
    .lia
    .have:=bI h.1 We We z;lia
   have c:=fN h.1 (m:=((s+1:Nat))) We We;rw[ke]at c;refine .inr ?_;rw[c];obtain⟨q,a⟩:∃q:Nat,es.getD (s+1) 0=q:=#[(es.getD (s+1) 0).toNat,We];rw[a];obtain z|z:=xO h f q We We
   .rw[z];simp
   simp_all
def zo(es:AT)(u x:Int):Prop:=u=-1\/u∈bP es x
def KR(c:dh es)(x0:0<=x)(a:QcH)(b:y∈bP es x)(d:zo es u y):zo es u x:=by
 obtain z|z:=d
 .exact .inl z
 .exact .inr (k8 c x0 a b z)
def EA(b:QhF)(a:jf es u t x):zo es u x:=by
 obtain rfl|z:=a
 .exact b
 .exact z.2
theorem zq(h:Qa4)(f:Qb1)(c:QhF)(i:QrN):zo es u x:=by
 have a:=h.pre.1;obtain z|z|⟨s,p,hs,_,_,e,_,z⟩:=i
 .exact EA c z.1
 .obtain⟨x0,d,y⟩:=cz h _ f x z;obtain rfl|y:=y
  .exact c
  .exact KR a x0 d y c
 .have b:=cG h.pre e;have j:=kF a f hs;obtain⟨q,rfl⟩:∃q:Nat,p=q:=#[p.toNat,We];have g:=KR a b.1 b.2.1 (b.2.2.1▸IV a b.1 b.2.1 We) (EA c hs);obtain⟨x0,d,y⟩:=cz h _ We x z;obtain rfl|y:=y
  .exact g
  .exact KR a x0 d y g
theorem C3(W:QhG)(hc:Qpv)(h:Qa4)(p:Qb1)
  (L:u=-1\/(u∈bP es t/\bw u=true/\u∈eu isAll es ch Q3)) :
  ∃K:AT,K.length=es.length/\zm bw es K ∧
   (eu isAll es K Q3).Perm ((eu isAll es ch Q3).filter (λx=>!(decide QfF || decide Qn3))++q4 aF isAll es ss mem far near u t)/\(t:Int)∈eu isAll es K Q3:=by
 classical
 have o:=h.pre.1;have hn:0<es.length:=by lia
 have d:u=-1\/u∈bP es t:=L.imp id (·.1);have E:∀e:Int,∃y:Int,e∈bP es t->Qnd/\0<=y/\y<es.length/\es.getD y.toNat 0=e:=λe=>by
  by_cases z:e∈bP es t
  .obtain⟨y,hy⟩:=Wh o (t+1) (t:=(t:Int)) We We We z;exact#[y,λ_=>hy]
  .exact#[0,λy=>absurd y z]
 obtain⟨st,E⟩:∃st:Int->Int,∀e:Int,e∈bP es t->(st e=t\/st e∈bP es t)/\0<=st e/\st e<es.length/\es.getD (st e).toNat 0=e:=#[λe=>Classical.choose (E e),λe=>Classical.choose_spec (E e)]
 let fl:Int->Bool:=λe=>(decide (e=t)&&(far || near)) || Qqq
 let c:Nat->Int:=λk=>if (k:Int)=u\/(jf es u t k/\(k:Int)≠t) then st k else if zo es u k then kD ss mem (fl k) k else ch.getD k 0
 have Dt:∀k:Nat,k<es.length->((List.range es.length).map c).getD k 0=c k:=λk l=>by
  rw[km,k4,pj l];rfl
 have J:∀e:Int,jf es u t e->oT aF isAll es ss mem far near u t e:=λe he=>by
  have X:=kF o p he;obtain⟨q,rfl⟩:∃q:Nat,e=q:=#[e.toNat,We];exact(Wc h p q We).2 (.inl he)
 let N:Int->Prop:=λx=>(x∈eu isAll es ch Q3/\¬ zo es u x)\/oT aF isAll es ss mem far near u t x
 have I:∀x,N x->0<=x/\x<es.length:=λx hx=>by
  obtain z|z:=hx
  .have:=gf _ z.1;lia
  .exact LI h p z
 have hN:∀k:Nat,k<es.length->(N k↔(k=0\/(N (es.getD k 0)/\(isAll (es.getD k 0)=true\/c (es.getD k 0).toNat=(k:Int))))):=by
  intro k l;have De:=o k l;have n:=fN o (m:=(k:Int)) We We;rw[ke]at n;by_cases k0:k=0
  .subst k0;rw[cq We]at n;refine#[λ_=>.inl rfl,λ_=>?_];obtain z|z:=L
   .refine .inr (J _ ?_);obtain y|y:=xO h.pre (t+1) t We p
    .exact .inl We
    .exact .inr #[y,.inl z]
   .refine .inl #[(lN o Q3 (k:=0) We We).2 Qaj,?_];rintro(y|y)
    .have:=gf _ z.2.2;lia
    .rw[n]at y;cases y
  .have e0:es.getD k 0 ≠ -1:=by
    obtain y|y:=xO h.pre (k+1) k We l
    .exact absurd y k0
    .intro z;rw[n,cq z]at y;cases y
   rw[bW e0]at n;have S:=lN (isAll:=isAll) (ch:=ch) o Q3 (k:=k) We We;have T:=Wc (far:=far) (near:=near) (u:=u) h p k l;obtain⟨e,he⟩:∃e:Nat,es.getD k 0=e:=#[(es.getD k 0).toNat,We];rw[he]at n S T De ⊢;rw[ke]at S ⊢;have U:e<es.length:=by lia
   have eb:zo es u e->zo es u k:=λz=>KR o We We (by rw[n];exact iB) z;have self:∀x:Int,0<=x->x<es.length->¬ x∈bP es x:=λx a0 a1 z=>by
    have:=bI o a0 a1 z;lia
   have B:(e:Int)∈bP es t->(st e=k↔((k:Int)=t\/(k:Int)∈bP es t)):=λz=>by
    obtain⟨s1,s2,s3,s4⟩:=E e z;constructor
    .intro y;rw[<- y];exact s1
    .intro y;exact YQ o (t:=(t:Int)) We We s2 s3 We We (by rw[s4,ke,he]) s1 y
   by_cases v:zo es u k
   .by_cases i:(e:Int)=u
    .have g:=L.resolve_left We;rw[<- i]at g;have H:¬ zo es u e:=by
      rintro(z|z)
      .lia
      .rw[i]at z;exact self u We We z
     have M:¬ isAll e=true:=λz=>by
      obtain y|y|y:=W e U
      .rw[y.2.1]at g;cases g.2.1
      .rw[y.2.2]at z;cases z
      .rw[y.2.1]at g;cases g.2.1
     have j:c e=st e:=cq (.inl i);rw[j];have O:¬ oT aF isAll es ss mem far near u t e:=λz=>H (zq h p d z);constructor
     .rintro(z|z)
      .exact absurd v z.2
      .obtain y|y:=T.1 z
       .refine .inr #[.inl #[g.2.2,H],.inr ((B g.1).2 ?_)];obtain y|y:=y
        .exact .inl y
        .exact .inr y.1
       .exact absurd y.1 O
     .rintro(z|⟨_,z|z⟩)
      .exact absurd z k0
      .exact absurd z M
      .refine .inr (J _ ?_);rcases(B g.1).1 z with y|y
       .exact .inl y
       .exact .inr #[y,v]
    .have s:zo es u e:=by
      obtain z|z:=v
      .exact .inl z
      .rw[n]at z;obtain y|y:=fL.1 z
       .exact absurd y.symm i
       .exact .inr y
     have V:N k↔oT aF isAll es ss mem far near u t k:=#[λz=>z.resolve_left (λy=>y.2 v),.inr];have L2:N e↔oT aF isAll es ss mem far near u t e:=#[λz=>z.resolve_left (λy=>y.2 s),.inr];rw[V,L2,T];by_cases r:jf es u t e/\(e:Int)≠t
     .have j:c e=st e:=cq (.inr r);rw[j];have het:(e:Int)∈bP es t:=by
       obtain y|y:=r.1
       .exact absurd y r.2
       .exact y.1
      have hm:CB aF isAll es ss mem far near u t e k↔isAll e=true:=by
       unfold CB;constructor
       .rintro(z|z)
        .exact z
        .obtain y|y:=z.2
         .exact absurd y r.2
         .exact absurd r.1 y
       .exact .inl
      rw[hm,B het];constructor
      .rintro(z|z)
       .refine .inr #[J _ r.1,.inr ?_];obtain y|y:=z
        .exact .inl y
        .exact .inr y.1
       .exact .inr #[z.1,.inl z.2.2]
      .rintro(z|⟨z1,D⟩)
       .exact absurd z k0
       .by_cases C:jf es u t k
        .exact .inl C
        .obtain D|D:=D
         .exact .inr #[z1,C,D]
         .refine absurd ?_ C;obtain y|y:=D
          .exact .inl y
          .exact .inr #[y,v]
     .have j:c e=kD ss mem (fl e) e:=by
       show Qp8=_;rw[bW (λz=>z.elim i r),cq s]
      rw[j];have G:¬ jf es u t k:=by
       rintro(z|z)
       .refine r #[.inr #[?_,s],We];rw[<- z,n];exact iB
       .have:=bI o (m:=(t:Int)) We We z.1;exact r #[.inr #[k8 o We We z.1 (by rw[n];exact iB),s],We]
      have hm:CB aF isAll es ss mem far near u t e k↔(isAll e=true\/kD ss mem (fl e) e=k):=by
       have:(e:Int)=t\/¬ jf es u t e:=by
        by_cases y:(e:Int)=t
        .exact .inl y
        .exact .inr (λw=>r #[w,y])
       unfold CB;constructor
       .rintro(z|z)
        .exact .inl z
        .exact .inr z.1
       .rintro(z|z)
        .exact .inl z
        .exact .inr #[z,this]
      rw[hm];constructor
      .rintro(z|z)
       .exact absurd z G
       .exact .inr #[z.1,z.2.2]
      .rintro(z|z)
       .exact absurd z k0
       .exact .inr #[z.1,G,z.2]
   .have A:¬ zo es u e:=λz=>v (eb z);have i:(e:Int)≠u:=λz=>v (.inr (by rw[n,z];exact iB));have j:c e=ch.getD e 0:=by
     show Qp8=_;rw[bW (λz=>z.elim i (λy=>A (EA d y.1))),bW A]
    rw[j];have V:N k↔(k:Int)∈eu isAll es ch Q3:=#[λz=>z.elim (·.1) (λy=>absurd (zq h p d y) v),λz=>.inl #[z,v]];have L2:N e↔(e:Int)∈eu isAll es ch Q3:=#[λz=>z.elim (·.1) (λy=>absurd (zq h p d y) A),λz=>.inl #[z,A]];rw[V,L2];exact S
 have Z:∀x,x∈eu isAll es ((List.range es.length).map c) Q3↔N x:=by
  have key:∀(f k:Nat),k<f->k<es.length->((k:Int)∈eu isAll es ((List.range es.length).map c) Q3↔N k):=by
   intro f
   induction f with
   | zero=>intro k h;lia
   | succ f ih=>
    intro k aa l;rw[lN o Q3 We We,hN k l];have De:=o k l;by_cases e:es.getD k 0=-1
    .rw[e];constructor
     .rintro(z|z)
      .exact .inl z
      .have:=gf _ z.1;lia
     .rintro(z|z)
      .exact .inl z
      .have:=I _ z.1;lia
    .obtain⟨q,n⟩:∃q:Nat,es.getD k 0=q:=#[(es.getD k 0).toNat,We];rw[n,ih q We We,ke,Dt q We]
  intro x;constructor
  .intro z;have:=gf _ z;obtain⟨q,rfl⟩:∃q:Nat,x=q:=#[x.toNat,We];exact(key (q+1) q We We).1 z
  .intro z;have:=I _ z;obtain⟨q,rfl⟩:∃q:Nat,x=q:=#[x.toNat,We];exact(key (q+1) q We We).2 z
 have Y:∀x:Int,((!(decide QfF || decide Qn3))=true↔¬ zo es u x):=λx=>by
  unfold zo;simp
 refine#[(List.range es.length).map c,Wp,λk l F=>?_,?_,(Z _).2 (.inr (J _ Qaj))]
 .rw[Dt k l];show(if (k:Int)=u\/(jf es u t k/\(k:Int)≠t) then st k else if zo es u k then kD ss mem (fl k) k else ch.getD k 0)∈_;by_cases z:(k:Int)=u\/(jf es u t k/\(k:Int)≠t)
  .rw[cq z];have P:(k:Int)∈bP es t:=by
    obtain y|y:=z
    .rw[y];exact d.resolve_left We
    .exact(y.1.resolve_left y.2).1
   obtain⟨_,s2,s3,s4⟩:=E k P;exact rL s2 s3 s4
  .rw[bW z];by_cases y:zo es u k
   .rw[cq y];obtain w|w|w:=W k l
    .rw[w.2.1]at F;cases F
    .exact Wa h l w.1 w.2.2
    .rw[w.2.1]at F;cases F
   .rw[bW y];exact hc k l F
 .refine(List.perm_ext_iff_of_nodup (qH (fz _)) ?_).2 λx=>?_
  .rw[ma];refine#[HI _ (qH (fz _)),Bg h p d,λa ha b X R=>?_];subst R;exact(Y a).1 (l0.1 ha).2 (zq h p d ((DE h p d a).1 X))
  .rw[Z,i8,l0,DE h p d,Y]
abbrev AU:=AT×AT×AT
inductive J where
 | out (m:Int)|RP (m:Int)|keep (m p q:Int)|put (x p q:Int)|RW (w:Str) (ds:At)
noncomputable def J.w:J->Str
 | .out _=>"out"
 | .RP _=>"in"
 | .keep _ _ _=>"keep"
 | .put _ _ _=>"put"
 | .RW w _=>w
noncomputable def J.ds:J->At
 | .out m=>[.int m]
 | .RP m=>[.int m]
 | .keep m p q=>[.int m,.int p,.int q]
 | .put x p q=>[.int x,.int p,.int q]
 | .RW _ ds=>ds
def J.d(r:J):D:=.tup (.str r.w::r.ds)
def Oo:BA:=["sign","way","call","say","rest"]
def RE(d:D):Prop:=(∃i,d=.int i)\/∃x,d=.str x
def J.ok(s:AU):J->Prop
 | .keep m _ _=>0<=m/\m<s.2.1.length
 | .put x _ _=>0<=x/\x<s.2.2.length
 | .RW w ds=>w∈Oo/\ds.length<=3/\∀d∈ds,RE d
 | _=>True
def aqR(back:Bool)(r:J)(ops:AT):AT:=match r with
 | .out m=>if back then sortI QpK else ops.filter QdG
 | .RP m=>if back then ops.filter QdG else sortI QpK
 | _=>ops
noncomputable def auv(back:Bool)(r:J)(mem:AT):AT:=match r with
 | .keep m p q=>mem.set m.toNat Qrt
 | _=>mem
noncomputable def Kb(back:Bool)(r:J)(bs:AT):AT:=match r with
 | .put x p q=>bs.set x.toNat Qrt
 | _=>bs
def zu(back:Bool)(s:AU)(r:J):AU:=(aqR back r s.1,auv back r s.2.1,Kb back r s.2.2)
def Fits(back:Bool):List J->AU->Prop
 | [],s=>s.1.length<60
 | r::rs,s=>s.1.length<60/\r.ok s/\Fits back rs (zu back s r)
variable{s:AU}
theorem Fits.len{back:Bool}{rs:List J}(h:Fits back rs s):s.1.length<60:=by
 cases rs with
 | nil=>exact h
 | cons r rs=>exact h.1
structure P2(n:Nat)(s:AU):Prop where
 up:s.1.Pairwise (· < ·)
 lo:∀x∈s.1,0<=x/\x<n
 mem:s.2.1.length=n
def Right(n:Nat)(s:AU):J->Prop
 | .out m=>m∈s.1
 | .RP m=>m∉s.1/\0<=m/\m<n
 | .keep m p _=>0<=m/\m<s.2.1.length/\s.2.1.getD m.toNat 0=p
 | .put x p _=>0<=x/\x<s.2.2.length/\s.2.2.getD x.toNat 0=p
 | .RW w ds=>w∈Oo/\ds.length<=3/\∀d∈ds,RE d
theorem Right.ok{r:J}(h:Right n s r):r.ok s:=by
 cases r with
 | out m=>trivial
 | RP m=>trivial
 | keep m p q=>exact#[h.1,h.2.1]
 | put m p q=>exact#[h.1,h.2.1]
 | RW w ds=>exact h
theorem Sx{n:Nat}:∀{l:AT} {lo:Int},l.Pairwise (· < ·)->(∀x∈l,lo<=x/\x<n)->0<=lo->l.length<=((n:Int)-lo).toNat
 | [],_,_,_,_=>kx _
 | y::l,lo,b,hl,h0=>by
  have c:=hl y Wp;obtain⟨h1,h2⟩:=mN.1 b;have:=Sx (lo:=y+1) h2 (λx a=>#[by have:=h1 x a;lia,(hl x Qee).2]) We;simp;lia
theorem P2.len(h:P2 n s):s.1.length<=n:=by
 have:=Sx h.up h.lo Wp;lia
theorem EB(h:l.Pairwise (· <= ·))(nd:Qf0):l.Pairwise (· < ·):=by
 induction l with
 | nil=>exact .nil
 | cons y l c=>
  obtain⟨h1,h2⟩:=mN.1 h;obtain⟨n1,b⟩:=ml.1 nd;refine mN.2 #[λx a=>?_,c h2 b];have:=h1 x a;have:y≠x:=λe=>n1 (e▸a);lia
theorem acC(h:l.Pairwise (· < ·)):l.Nodup:=h.imp We
theorem PY(h:l.Pairwise (· < ·)):l.Pairwise (· <= ·):=h.imp λh=>by lia
noncomputable def J.m:J->Int
 | .out m=>m
 | .RP m=>m
 | _=>0
def acD(back:Bool)(r:J)(l:AT):(Kb back r l).length=l.length:=by
 cases r<;>first|rfl|exact p4
noncomputable def fP(bs nm:At)(tr:D)(is os ws:At):D:=.ins "Chart" [("boxes",.lst bs),("names",.lst nm),("tree",tr),("ins",.lst is),("outs",.lst os),("ways",.lst ws)]
variable{bs nm is os ws:At}{tr:D}
def O1:List.lookup ("boxes":Str) [(("boxes":Str),D.lst bs),("names",.lst nm),("tree",tr),("ins",.lst is),("outs",.lst os),("ways",.lst ws)]=some (.lst bs):=Ke
def O2:List.lookup ("names":Str) [(("boxes":Str),D.lst bs),("names",.lst nm),("tree",tr),("ins",.lst is),("outs",.lst os),("ways",.lst ws)]=some (.lst nm):=rfl
def fQ:List.lookup ("tree":Str) [(("boxes":Str),D.lst bs),("names",.lst nm),("tree",tr),("ins",.lst is),("outs",.lst os),("ways",.lst ws)]=some tr:=rfl
def YR:List.lookup ("ins":Str) [(("boxes":Str),D.lst bs),("names",.lst nm),("tree",tr),("ins",.lst is),("outs",.lst os),("ways",.lst ws)]=some (.lst is):=rfl
def Sy:List.lookup ("outs":Str) [(("boxes":Str),D.lst bs),("names",.lst nm),("tree",tr),("ins",.lst is),("outs",.lst os),("ways",.lst ws)]=some (.lst os):=rfl
def gj:List.lookup ("ways":Str) [(("boxes":Str),D.lst bs),("names",.lst nm),("tree",tr),("ins",.lst is),("outs",.lst os),("ways",.lst ws)]=some (.lst ws):=rfl
noncomputable def EC(bs nm:At):BS:=[("boxes",.lst (bs.map T.sh)),("names",.lst (nm.map T.sh))]
noncomputable def ED(is os ws:At):BS:=[("ins",.lst (is.map T.sh)),("outs",.lst (os.map T.sh)),("ways",.lst (ws.map T.sh))]
def t9(bs nm:At)(t:T)(is os ws:At):BS:=EC bs nm++(("tree":Str),t)::ED is os ws
def Sz(bs nm:At)(t:T)(is os ws:At):T.fC (.ins "Chart" QuH)=fP bs nm t.fC is os ws:=by
 unfold t9 EC ED;rw[nc,nc,ui,T.fC,T.tL,T.tL,T.tL,T.tL,T.tL,T.tL,bT,bT,bT,bT,bT];rfl
def cA{ds:At}(h:Qdy):(T.lst Qb3).clean=true:=by
 rw[A6]
 induction ds with
 | nil=>rfl
 | cons d ds a=>
  rw[D.bC,l9]at h;rw[lx,T.gi,a h.2,T.clean,h.1];rfl
def KS(h1:D.bC bs=true)(h2:D.bC nm=true):T.c6 (EC bs nm)=true:=by
 unfold EC;rw[T.c6,T.c6,cA h1,cA h2];rfl
def KW(h1:D.bC is=true)(h2:D.bC os=true)(a:D.bC ws=true):T.c6 (ED is os ws)=true:=by
 unfold ED;rw[T.c6,T.c6,T.c6,cA h1,cA h2,cA a];rfl
noncomputable def k9(p:QoP):D:=.tup [.str p.1,.int p.2]
noncomputable def FX(p:D×Str×At):D:=.tup (p.1::.str p.2.1::p.2.2)
structure bN where
 src:Int
 sign:Str
 asks:At
 jc:At
 kf:Int
 mode:Str
def f7(w:bN):D:=.tup [.int w.src,.str w.sign,.tup w.asks,.tup w.jc,.int w.kf,.str w.mode]
noncomputable def w0:bN:=#[0,Str.empty,[],[],0,Str.empty]
def gB(ws:Q6)(i:Int):bN:=ws.getD i.toNat w0
theorem oR{ws:Q6}{i:Int}(h0:0<=i)(h1:i<ws.length):gB ws i∈ws:=by
 unfold gB;simp_all
def ig(ks:BA)(es:AT)(w:bN):Int:=KL QaG es w.src w.kf
def GV(es:AT)(u x:Int):Bool:=decide QfF || decide Qn3
def EF:GV es u x=true↔zo es u x:=by
 unfold GV zo;simp
def wO(es ops:AT)(u:Int):AT:=(ops.filter (λm=>decide QfF || decide (u∈bP es m))).reverse
def Ap(es:AT)(u v:Int):Prop:=u ≠ -1/\v ≠ -1/\u≠v/\u∉bP es v/\v∉bP es u
theorem Ap.symm{v:Int}(h:Ap es u v):Ap es v u:=#[h.2.1,h.1,λe=>h.2.2.1 e.symm,h.2.2.2.2,h.2.2.2.1]
def IW(b:dh es){v:Int}(x0:0<=x)(a:QcH)(ap:Ap es u v)(h:zo es u x):¬ zo es v x:=λk=>by
 have h:=h.resolve_left ap.1;have k:=k.resolve_left ap.2.1;obtain e|e|e:=rK b x0 a h k
 .exact ap.2.2.1 e
 .exact ap.2.2.2.1 e
 .exact ap.2.2.2.2 e
theorem nG(nd:Qf0)(b:∀x∈l,0<=x/\x<n):l.length<=n:=by
 have:=Sx (EB (ki l) ((sortI_perm l).nodup_iff.2 nd)) (λx a=>b x (jQ.1 a)) Wp;rw[kY]at this;lia
theorem xP{α:Type}{es:AT}(i:dh es){top:QkF}{f:α->AT}:∀{gs:Qaf},gs.Pairwise (λa c=>Ap es (top a) (top c))->(∀a∈gs,(f a).Nodup/\∀x∈f a,QiY/\zo es (top a) x) →
  (gs.flatMap f).Nodup/\∀x∈gs.flatMap f,QiY/\∃a∈gs,zo es (top a) x
 | [],_,_=>#[Wp,λx b=>by simp at b]
 | a::gs,k,hf=>by
  obtain⟨h1,h2⟩:=mN.1 k;obtain⟨i1,h⟩:=xP i h2 (λc d=>hf c Qkl);obtain⟨f1,f2⟩:=hf a Wp;refine#[ma.2 #[f1,i1,λx b y j e=>?_],λx b=>?_]
  .subst e;obtain⟨b1,c,d,g⟩:=h x j;exact IW i b1.1 b1.2 (h1 c d) (f2 x b).2 g
  .obtain b|b:=i8.1 b
   .exact#[(f2 x b).1,a,iB,(f2 x b).2]
   .obtain⟨b1,c,d,g⟩:=h x b;exact#[b1,c,i3 _ d,g]
theorem SD{isAll:Bn}{es ch:AT}(c:dh es):∀(f:Nat) {x y:Int},x<f->x∈eu isAll es ch Q3->y∈bP es x->y∈eu isAll es ch Q3
 | 0,x,y,hf,b,a=>by
  have:=(gf _ b).1;lia
 | f+1,x,y,hf,b,a=>by
  have h:=gf _ b;by_cases hn:es.length=0
  .have e:=HH hn;subst e;have x0:x=0:=by simpa [eu] using b
   simp[bP,Dw]at a;lia
  .obtain⟨k,rfl⟩:∃k:Nat,x=k:=#[x.toNat,We];have g:k<es.length:=by lia
   have e:=fN c (m:=(k:Int)) We We;rw[ke]at e;have i:=c k g;by_cases hz:es.getD k 0=-1
   .rw[e,cq hz]at a;cases a
   .rw[e,bW hz]at a;have d:es.getD k 0∈eu isAll es ch Q3:=by
     rcases(lN c _ (k:=k) We We).1 b with z|z
     .lia
     .exact z.1
    obtain rfl|a:=fL.1 a
    .exact d
    .exact SD c f We d a
def Nk(ks:BA)(es ss mem:AT)(w:bN):AT:=q4 QaT Q4 es ss mem (e7 w.mode) (iE w.mode) Qa9 w.kf.toNat
def Goes(ks:BA)(es ops:AT)(w:bN):Prop:=(0<=w.kf/\w.kf<es.length)/\(ig ks es w=-1\/(ig ks es w∈bP es w.kf.toNat/\bK ks Qa9=true/\ig ks es w∈ops))
variable{ops:AT}
theorem Goes.up{w:bN}(h:Goes ks es ops w):ig ks es w=-1\/ig ks es w∈bP es w.kf.toNat:=h.2.imp id (·.1)
theorem Tn(b:Qiz){w:bN}(h:Goes ks es ops w):(Nk ks es ss mem w).Nodup/\∀x∈Nk ks es ss mem w,QiY/\zo es Qa9 x:=by
 have a:w.kf.toNat<es.length:=by have:=h.1;lia
 refine#[Bg b a h.up,λx c=>?_];have hi:=(DE b a h.up x).1 c;exact#[LI b a hi,zq b a h.up hi]
theorem PU{ks:BA}{es ss mem:AT}(g:QtR)(b:Qiz)(hn:QfZ):∀{gs:Q6} {ch:AT},ch.length=es.length->zm QaG es ch->gs.Pairwise QkJ →
  (∀w∈gs,Goes ks es QaN w) →
  ∃f:AT,f.length=es.length/\zm QaG es f/\(eu Q4 es f Q3).Perm ((eu Q4 es ch Q3).filter QhY++gs.flatMap QdJ)
 | [],ch,hl,d,_,_=>#[ch,hl,d,by simp[gM]]
 | w::gs,ch,hl,d,o,h=>by
  obtain⟨h1,h2⟩:=mN.1 o;have e:=h w iB;have n:w.kf.toNat<es.length:=by have:=e.1;lia
  obtain⟨r,l,k1,p1,_⟩:=C3 (far:=e7 w.mode) (near:=iE w.mode) g d b n e.2;have g1:∀v∈gs,Goes ks es (eu Q4 es r Q3) v:=λv hv=>by
   have i:=h v QpY;refine#[i.1,i.2.imp id λz=>#[z.1,z.2.1,p1.mem_iff.2 (kq _ (l0.2 #[z.2.2,?_]))]];have ap:=h1 v hv;have e1:¬ (ig ks es w=-1\/ig ks es w∈bP es (ig ks es v)):=λq=>q.elim ap.1 ap.2.2.2.1;simp_all
  obtain⟨p,k,k2,p2⟩:=PU g b hn l k1 h2 g1;refine#[p,k,k2,p2.trans ?_];have j:=(p1.filter QhY).append_right Qu7;refine j.trans ?_;rw[ph,List.filter_filter,y6,<- ka];have e1:(q4 QaT Q4 es ss mem (e7 w.mode) (iE w.mode) Qa9 w.kf.toNat).filter QhY=Nk ks es ss mem w:=by
   refine List.filter_eq_self.2 λx m=>?_;obtain⟨b1,b2⟩:=(Tn b e).2 x m;rw[u3,List.any_eq_false];intro v hv q;exact IW b.pre.1 b1.1 b1.2 (h1 v hv) b2 (EF.1 q)
  have e2:(eu Q4 es ch Q3).filter (λa=>(!(gs.any λw=>GV es Qa9 a)) && !(decide (ig ks es w=-1) || decide (ig ks es w∈bP es a)))=(eu Q4 es ch Q3).filter (λx=>!((w::gs).any λw=>GV es Qa9 x)):=by
   refine List.filter_congr λx _=>?_;show((!(gs.any λw=>GV es Qa9 x)) && !(GV es Qa9 x))=_;rw[pd,Bool.not_or,Bool.and_comm]
  rw[e1,e2]
def jJ(ks:BA)(es ops:AT)(gs:Q6):AT:=(sortI (gs.flatMap λw=>wO es ops Qa9)).reverse
noncomputable def IX(h:Qf0):l.reverse.Nodup:=List.pairwise_reverse.2 (h.imp λh e=>h e.symm)
def ua:x∈wO es ops u↔x∈ops/\zo es u x:=by
 unfold wO zo;simp
variable{gs:Q6}
def zx:x∈jJ ks es ops gs↔x∈ops/\∃w∈gs,zo es Qa9 x:=by
 unfold jJ;rw[w1,jQ,mI];constructor
 .rintro⟨w,hw,a⟩;exact#[(ua.1 a).1,w,hw,(ua.1 a).2]
 .rintro⟨a,w,hw,b⟩;exact#[w,hw,ua.2 #[a,b]]
def O4(d:dh es)(e:ops.Pairwise (· < ·))(f:∀x∈ops,0<=x/\x<es.length)(g:Qi9) :
  (gs.flatMap λw=>wO es ops Qa9).Nodup/\(gs.flatMap λw=>wO es ops Qa9).length<=es.length:=by
 have h:=xP d g (λw _=>#[by
  exact IX ((acC e).filter _),λx b=>#[f x (ua.1 b).1,(ua.1 b).2]])
 exact#[h.1,nG h.1 λx b=>(h.2 x b).1]
def Bj(b:dh es)(d:ops.Pairwise (· < ·))(e:∀x∈ops,0<=x/\x<es.length)(f:Qi9):(jJ ks es ops gs).Nodup/\(jJ ks es ops gs).length<=es.length:=by
 obtain⟨h1,h2⟩:=O4 b d e f;unfold jJ;exact#[IX ((sortI_perm _).nodup_iff.2 h1),by rw[sx,kY];exact h2]
def Bk{a c:AT}(h:a.Perm c):sortI a=sortI c:=yU ((sortI_perm a).trans h) (ki a)
def wu(ks:BA)(es ss mem:AT)(gs:Q6):AT:=sortI Qu7
def EG(b:Qiz)(f:Qi9)(e:∀w∈gs,Goes ks es ops w) :
  (gs.flatMap QdJ).Nodup/\(gs.flatMap QdJ).length<=es.length/\∀x∈gs.flatMap QdJ,QiY/\∃w∈gs,zo es Qa9 x:=by
 have h:=xP b.pre.1 f (λw hw=>Tn b (e w hw));exact#[h.1,nG h.1 λx d=>(h.2 x d).1,h.2]
def YS(ks:BA)(es ss mem ops:AT)(gs:Q6):AT:=sortI (ops.filter (λx=>!decide (x∈jJ ks es ops gs))++wu ks es ss mem gs)
theorem EH(i:QtR)(l:Qiz)(hn:QfZ)(hl:Qi1)(k:Qjo)
  (m:Qi9) (j:∀w∈gs,Goes ks es QaN w) :
  ∃d:AT,d.length=es.length/\zm QaG es d/\YS ks es ss mem QaN gs=eu Q4 es d Q3/\((eu Q4 es ch Q3).filter Qq5++wu ks es ss mem gs).length<=es.length:=by
 obtain⟨f,g,k2,p2⟩:=PU i l hn hl k m j;have e1:(eu Q4 es ch Q3).filter Qq5=(eu Q4 es ch Q3).filter QhY:=by
  refine List.filter_congr λx h=>?_;congr 1;rw[wH,decide_eq_true_iff,zx,List.any_eq_true];constructor
  .rintro⟨_,w,hw,b⟩;exact#[w,hw,EF.2 b]
  .rintro⟨w,hw,b⟩;exact#[h,w,hw,EF.1 b]
 have e:((eu _ es ch _).filter _++wu ks es ss _ gs).Perm _:=e1▸(pE _ (sortI_perm _)).trans p2.symm;refine#[f,g,k2,?_,?_]
 .unfold YS;exact Bk e▸Om (PY (fz _))
 .rw[e.length_eq];have:=zj (isAll:=au ks) (es:=es) (ch:=f) Q3;lia
def nU(ws:Q6)(i:Int):Bool:=!decide ((gB ws i).kf=-1)
def jZ(ws:Q6)(some:AT):List bN:=(some.filter Qdo).map Qca
theorem pJ{β:Type}{f:α->List β}(l:Qaf)(j:Nat):((l.take j).flatMap f).length<=(l.flatMap f).length:=by
 have h2:=wj j l
 conv=>rhs;rw[<- h2]
 rw[zi,lj];lia
theorem Bl{α:Type}{f:α->AT}:∀l:List α,(l.flatMap λa=>sortI (f a)).Perm (l.flatMap f)
 | []=>.refl _
 | a::l=>(sortI_perm _).append (Bl l)
def z0(n:Nat)(w:bN):Prop:=(0<=w.src/\w.src<n)/\(w.kf=-1\/(0<=w.kf/\w.kf<n))/\t7 w.mode/\w.jc.length<=12/\D.bC w.jc=true/\D.bC w.asks=true
def IY(es:AT)(m:Int)(w:bN):Bool:=(!decide (w.mode="new")&&decide (w.kf=m)) || (decide (w.mode="far")&&(decide (w.kf=-1) || decide (w.kf∈bP es m)))
def jd(ks:BA)(es:AT)(ws:Q6)(m:Int):Bool:=bK ks m&&ws.any (IY es m)
abbrev _root_.EO:=List At
def inR(is:EO)(a:AT):At:=a.flatMap λm=>D.tup [.str "in",.int m]::is.getD m.toNat []
def pK(is:EO):Prop:=∀l∈is,l.length<=12/\D.bC l=true
def GX(iF:Bn)(os:EO)(mem bh gone:AT):At:=gone.flatMap λm=>D.tup [.str "out",.int m]::Qtk
def GY(ws:Q6)(some:AT):At:=some.flatMap λi=>D.tup [.str "way",.int i]::(gB ws i).jc
theorem pK.get{is:EO}(h:pK is)(k:Nat):(is.getD k []).length<=12/\D.bC (is.getD k [])=true:=by
 by_cases a:k<is.length
 .rw[km,kA a];exact h _ Wp
 .rw[km,HU We];exact#[Wp,rfl]
theorem jS{α β:Type}{f:α->List β}{c:Nat}:∀l:List α,(∀a∈l,(f a).length<=c)->(l.flatMap f).length<=c*l.length
 | [],_=>by simp
 | a::l,h=>by
  have h1:=h a iB;have h2:=jS l (λb d=>h b Qkl);rw[y6,lj,mM];lia
def Bm{f:α->At}{l:Qaf}(h:∀a∈l,D.bC (f a)=true):D.bC (l.flatMap f)=true:=jr λd hd=>by
 obtain⟨a,b,hd⟩:=mI.1 hd;exact qC (h a b) d hd
def O5{a c:At}(h1:D.bC a=true)(h2:D.bC c=true):D.bC (a++c)=true:=jr λd hd=>(i8.1 hd).elim (qC h1 d) (qC h2 d)
theorem KY{iF:Bn}{os:EO}{bh:AT}(h:pK os)(gone:AT):(GX iF os mem bh gone).length<=14*gone.length/\D.bC Qud=true:=by
 refine#[jS _ λm _=>?_,Bm λm _=>?_]
 .have:=(h.get m.toNat).1;have h1:(if iF m=true then [D.tup [.str "keep",.int m,.int Qib,.int Qgd]] else []).length<=1:=by split<;>simp
  rw[mM,lj];lia
 .refine O5 ?_ (h.get _).2;split<;>rfl
theorem EI{is:EO}(h:pK is)(a:AT):(inR is a).length<=13*a.length/\D.bC (inR is a)=true:=by
 refine#[jS _ λm _=>?_,Bm λm _=>?_]
 .have:=(h.get m.toNat).1;simp_all
 .exact(h.get _).2
theorem KZ{ws:Q6}{some:AT}(h:∀i∈some,z0 n QcA):(GY ws some).length<=13*some.length/\D.bC (GY ws some)=true:=by
 refine#[jS _ λm hm=>?_,Bm λm hm=>?_]
 .have:=(h m hm).2.2.2.1;simp;lia
 .exact(h m hm).2.2.2.2.1
def YT(iF:Bn)(os:EO)(mem bh gone:AT)(m:Int):GX iF os mem bh (gone++[m])=GX iF os mem bh gone++(D.tup [.str "out",.int m]::Qtk):=by
 unfold GX;simp
def YV(ws:Q6)(some:AT)(i:Int):GY ws (some++[i])=GY ws some++(D.tup [.str "way",.int i]::(gB ws i).jc):=by
 unfold GY;simp
def acF(is:EO)(a:AT)(m:Int):inR is (a++[m])=inR is a++(D.tup [.str "in",.int m]::is.getD m.toNat []):=by
 unfold inR;simp
def Nm(ks:BA)(es:AT)(ws:Q6)(mem ops:AT)(gs:Q6):AT:=Ss QaG es ((jJ ks es ops gs).filter Qcv) mem ops
def YW(ks:BA)(es ss:AT)(is os:EO)(ws:Q6)(mem ops some:AT):At:=
 GX Qcv os mem QlL Qu8++GY ws some++inR is (wu ks es ss QlL Qbh)
def CD(ks:BA)(es mem:AT):Prop:=mem.length=es.length/\∀k:Nat,k<es.length->mem.getD k 0=-1\/bK ks k=true/\mem.getD k 0∈iO es k
structure kG(ks:BA)(es ss:AT)(is os:EO)(ws:Q6):Prop where
 n0:0<es.length
 n1:es.length<=13
 kl:ks.length=es.length
 sl:ss.length=es.length
 il:is.length=es.length
 ol:os.length=es.length
 kd:t8 QaT QaG Q4 es
 pre:mS es
 st:zm QaG es ss
 ir:pK is
 or:pK os
 wo:∀w∈ws,z0 es.length w
 wl:ws.length<=12
structure pL(ks:BA)(es:AT)(ws:Q6)(ops some:AT):Prop where
 i:∀i∈some,QeR/\(gB ws i).src∈ops
 l:some.length<=12
 ap:(jZ ws some).Pairwise QkJ
section
variable{is os:EO}{ws:Q6}{some:AT}
theorem kG.tree(h:Qer)(hm:Qpd):d7 QaT Q4 es ss mem:=#[h.pre,(λk a e=>by
  obtain⟨_,_,_,z⟩|⟨z,_⟩|⟨z,_⟩:=h.kd k a
  .exact z
  .rw[z]at e;cases e
  simp_all),λk a e1 e2=>by
  obtain⟨z,_⟩|⟨_,z,_⟩|⟨_,_,z⟩:=h.kd k a
  .rw[z]at e1;cases e1
  .exact#[h.st k a z,(hm.2 k a).imp_right (·.2)]
  simp_all]
theorem kG.kinds(h:Qer):∀k:Nat,k<es.length->aX ks k=true\/au ks k=true\/ks.getD k Str.empty="one":=λk a=>by
 obtain⟨z,_⟩|⟨_,z,_⟩|⟨_,_,z⟩:=h.kd k a
 .exact .inl z
 .refine .inr (.inr ?_);have:=l3 z;assumption
 .exact .inr Qd6
theorem O6(hn:QfZ)(a:x∈eu Q4 es ch Q3):0<=x/\x<es.length:=by
 have:=gf _ a;lia
def amr{w:bN}(hw:w∈jZ ws some):∃i∈some,w=gB ws i/\w.kf ≠ -1:=by
 obtain⟨i,hi,rfl⟩:=i9.1 hw;obtain⟨h1,h2⟩:=l0.1 hi;refine#[i,h1,rfl,?_];unfold nU at h2;simpa using h2
theorem pL.qZ(h:Qer)(hs:Qu9):∀w∈jZ ws some,Goes ks es QaN w:=λw hw=>by
 obtain⟨i,hi,rfl,d⟩:=amr hw;obtain⟨⟨c,i1⟩,b⟩:=hs.i i hi;have vk:=h.wo _ (oR c i1);have a:=vk.2.1.resolve_left d;refine#[a,?_];have e:((gB ws i).kf.toNat)=(gB ws i).kf:=by lia
 obtain z|z:=agR h.pre.1 vk.1.1 vk.1.2
 .exact .inl z.1
 .refine .inr #[ e▸z.2.1,z.2.2.1,?_];exact SD h.pre.1 ((gB ws i).src.toNat+1) We b z.1
theorem pL.vk(h:Qer)(hs:pL ks es ws ops some):∀i∈some,z0 es.length QcA:=λi hi=>h.wo _ Qlp
def Su(h:Qer)(c:Qjo)(d:Qi1)(hm:mem.length=es.length)(gs:Q6):Nm ks es ws mem QaN gs=YJ QaG ch mem ((jJ ks es QaN gs).filter Qcv):=by
 refine YN h.pre.1 rfl h.n0 hm d (λk b e=>c k b ?_) (λx a=>(zx.1 (l0.1 a).1).1);exact l5 e
def Wj(h:Qer)(b:Qjo)(c:Qi1)(hm:Qpd)(gs:Q6):CD ks es (Nm ks es ws mem QaN gs):=by
 rw[Su h b c hm.1];refine#[by rw[Ew];exact hm.1,λk a=>?_];rw[DB _ _ (λe he=>?_) k (hm.1▸a)]
 .split
  .rename_i z;exact .inr #[z.2,b k a z.2]
  .exact hm.2 k a
 .exact hm.1▸O6 h.n0 (zx.1 (l0.1 he).1).1
end
def O7{p:QpJ}{l:Qaf}{j:Nat}{x:α}(h:l[j]? = some x)(a:p x=true):l.any p=true:=List.any_eq_true.2 #[x,l4 h,a]
theorem any_none{p:QpJ}{l:Qaf}(h:∀(j:Nat) (x:α),l[j]? = some x->p x=false):l.any p=false:=by
 rw[List.any_eq_false];intro x a;obtain⟨j,b,e⟩:=zp a;rw[h j x WA];decide
noncomputable def Bo(bx mo:Int)(bs:AT):Int:=if bx=-1 then mo else bs.getD bx.toNat 0+mo
inductive m7 where
 | put (x b m:Int)
 | call (s:Str)
 | say (s:Str) (b m:Int)
noncomputable def m7.w:m7->Str
 | .put _ _ _=>"put"
 | .call _=>"call"
 | .say _ _ _=>"say"
def m7.ds:m7->At
 | .put x b m=>[.int x,.tup [.int b,.int m]]
 | .call s=>[.str s]
 | .say s b m=>[.str s,.tup [.int b,.int m]]
def m7.d(q:m7):D:=.tup (.str q.w::q.ds)
def vo(bs:AT)(b:Int):Prop:=b=-1\/(0<=b/\b<bs.length)
def m7.ok(bs:AT):m7->Prop
 | .put x b _=>(0<=x/\x<bs.length)/\vo bs b
 | .call _=>True
 | .say _ b _=>vo bs b
def m7.row(bs:AT):m7->J
 | .put x b m=>.put x (bs.getD x.toNat 0) (Bo b m bs)
 | .call s=>.RW "call" [.str s]
 | .say s b m=>.RW "say" [.str s,.int (Bo b m bs)]
theorem YX{q:m7}(h:q.ok s.2.2):Right n s (q.row s.2.2):=by
 cases q with
 | put x b m=>exact#[h.1.1,h.1.2,rfl]
 | call s=>exact#[Wi,Wp,λd hd=>by simp at hd;exact .inr #[_,hd]]
 | say s b m=>exact#[Wi,by show 2<=3;decide,λd hd=>by
   simp at hd;obtain e|e:=hd
   .exact .inr #[_,e]
   .exact .inl #[_,e]]
def G1(bs:AT)(q:m7):AT:=Kb false (q.row bs) bs
def Wk(bs:AT)(q:m7):(G1 bs q).length=bs.length:=acD ..
theorem O8(qs:List m7):∀bs:AT,(qs.foldl G1 bs).length=bs.length:=by
 induction qs with
 | nil=>intro bs;rfl
 | cons q qs a=>intro bs;rw[zv,a,Wk]
theorem agZ{bs b2:AT}(h:b2.length=bs.length)(q:m7)(a:q.ok bs):q.ok b2:=by
 cases q with
 | put x b m=>
  have a:=a;show(0<=x/\x<b2.length)/\vo b2 b;unfold vo at a ⊢;rw[h];exact a
 | call s=>trivial
 | say s b m=>
  have a:=a;show vo b2 b;unfold vo at a ⊢;rw[h];exact a
inductive It where
 | out (m:Int)|keep (m p q:Int)|way (i:Int)|RP (m:Int)|wA (q:m7)
def It.sj:It->J
 | .out m=>.out m
 | .keep m p q=>.keep m p q
 | .way i=>.RW "way" [.int i]
 | .RP m=>.RP m
 | .wA q=>.RW q.w q.ds
def It.d(x:It):D:=x.sj.d
def It.j(bs:AT):It->J
 | .wA q=>q.row bs
 | x=>x.sj
def It.ok(bs:AT):It->Prop
 | .wA q=>q.ok bs
 | _=>True
noncomputable def It.told:It->Bool
 | .wA _=>true
 | _=>false
noncomputable def It.num:It->Co
 | .way i=>some i
 | _=>none
inductive Go(n:Nat):List It->AU->AU->Prop
 | nil {s:AU}:Go n [] s s
 | cons {x:It} {xs:List It} {s s':AU}:Right n s (x.j s.2.2)->Go n xs (zu false s (x.j s.2.2)) s'->Go n (x::xs) s s'
theorem Go.app{xs ys:List It}{t u:AU}(h:Go n xs s t)(k:Go n ys t u):Go n (xs++ys) s u:=by
 induction h with
 | nil=>exact k
 | cons r _ a=>exact .cons r (a k)
theorem O9{n:Nat}:∀(qs:List m7) (s:AU),(∀q∈qs,q.ok s.2.2)->Go n (qs.map It.wA) s (s.1,s.2.1,qs.foldl G1 s.2.2)
 | [],_,_=>.nil
 | q::qs,s,h=>by
  refine .cons (YX (h q iB)) ?_;have e:zu false s ((It.wA q).j s.2.2)=(s.1,s.2.1,G1 s.2.2 q):=by cases q<;>rfl
  exact e▸O9 qs _ λp a=>agZ (Wk ..) p (h p Qee)
def gR(nb:Nat)(l:At):Prop:=∃qs:List m7,l=qs.map m7.d/\∀bs:AT,bs.length=nb->∀q∈qs,q.ok bs
variable{nb:Nat}
theorem gR.nil:gR nb []:=#[[],rfl,Wp ]
theorem gR.get{is:EO}(h:∀l∈is,gR nb l)(k:Nat):gR nb (is.getD k []):=by
 by_cases a:k<is.length
 .rw[km,kA a];exact h _ Wp
 .rw[km,HU We];exact .nil
def YY(qs:List m7):qs.map m7.d=(qs.map It.wA).map It.d:=by rw[kc];rfl
def iI(n:Nat)(l:At)(ns:AT)(s t:AU):Prop:=∃xs:List It,l=xs.map It.d/\xs.filterMap It.num=ns/\(∀bs:AT,bs.length=s.2.2.length->∀x∈xs,x.ok bs)/\Go n xs s t/\t.2.2.length=s.2.2.length
theorem iI.nil:iI n [] [] s s:=#[[],rfl,rfl,Wp,.nil,rfl]
theorem iI.app{l m:At}{ns ms:AT}{t u:AU}(h:iI n l ns s t)(k:iI n m ms t u):iI n (l++m) (ns++ms) s u:=by
 obtain⟨xs,rfl,rfl,d,f,ex⟩:=h;obtain⟨ys,rfl,rfl,c,e,g⟩:=k;refine#[ _,Wp,Wp,λbs b x a=>?_,f.app e,g.trans ex];obtain a|a:=i8.1 a
 .exact d bs b x a
 .exact c bs (b.trans ex.symm) x a
theorem IZ:∀qs:List m7,(qs.map It.wA).filterMap It.num=[]
 | []=>rfl
 | _::qs=>IZ qs
theorem iI.jc{l:At}(h:gR nb l)(b:s.2.2.length=nb):∃a,a.length=nb/\iI n l [] s (s.1,s.2.1,a):=by
 obtain⟨qs,rfl,c⟩:=h;refine#[ _,(O8 ..).trans b,_,YY qs,IZ qs,λbs hl x d=>?_,O9 qs s (c _ b),O8 ..];obtain⟨q,h1,rfl⟩:=i9.1 d;exact c bs (hl.trans b) q h1
theorem iI.one(x:It)(a:x.told=false)(r:Right n s x.sj):iI n [x.d] x.num.toList s (zu false s x.sj):=by
 have e:x.j s.2.2=x.sj:=by cases x<;>first|rfl|cases a
 refine#[[x],rfl,rfl,λbs _ y b=>?_,.cons (e▸r) (e ▸ .nil),?_]
 .cases lh.1 b;cases x<;>first|trivial|cases a
 .cases x<;>first|rfl|cases a
def mU(iF:Bn)(bh mem:AT)(m:Int):AT:=if iF m=true then mem.set m.toNat Qgd else mem
def Bp(iF:Bn)(bh mem:AT)(m:Int):(mU iF bh mem m).length=mem.length:=by
 unfold mU;split
 .exact p4
 .rfl
variable{m:Int}
def Pa(iF:Bn)(bh mem:AT)(h:m.toNat≠k.toNat):(mU iF bh mem m).getD k.toNat 0=mem.getD k.toNat 0:=by
 unfold mU;split
 .rw[km,wi h,<- km]
 .rfl
theorem Bq(iF:Bn)(bh:AT):∀(gone mem:AT),(gone.foldl Qpw mem).length=mem.length
 | [],_=>rfl
 | m::gone,mem=>by simp[Bq,Bp]
theorem Pb(iF:Bn)(bh:AT):∀(gone mem:AT) (k:Nat),(∀m∈gone,0<=m)->k<mem.length->(gone.foldl Qpw mem).getD k 0=if (k:Int)∈gone/\iF k=true then bh.getD k 0 else mem.getD k 0
 | [],mem,k,_,_=>rfl
 | m::gone,mem,k,h0,d=>by
  rw[zv,Pb _ bh _ _ k (λx c=>h0 x (i3 _ c)) (by simp_all [Bp])];have hm:=h0 m Wp;by_cases e:k=m
  .subst e;by_cases a:iF k=true
   .rw[cq (#[ Wp,a]:(k:Int)∈(k:Int)::gone/\iF k=true)];split
    .rfl
    .unfold mU;simp_all
   .rw[bW Qv6,bW Qv6];unfold mU;rw[bW a]
  .have b:m.toNat≠((k:Int)).toNat:=by lia
   have:=Pa iF bh mem b;simp_all
theorem I0{n nb:Nat}{iF:Bn}{os:EO}{mem bh:AT}(i:∀l∈os,gR nb l):∀(gone:AT) (s:AU),s.2.2.length=nb->gone.Nodup->(∀m∈gone,m∈s.1/\0<=m/\m<s.2.1.length/\s.2.1.getD m.toNat 0=mem.getD m.toNat 0) →
  ∃a:AT,a.length=nb/\iI n Qud [] s (s.1.filter QrO,gone.foldl Qpw s.2.1,a)
 | [],s,g,_,_=>#[s.2.2,g,by
   have e:s.1.filter (λx=>!decide (x∈([]:AT)))=s.1:=List.filter_eq_self.2 λx _=>by simp
   rw[e];exact .nil]
 | m::gone,s,g,nd,hm=>by
  obtain⟨n1,o⟩:=ml.1 nd;obtain⟨m1,m2,q,p⟩:=hm m iB;have v:iI n [(It.out m).d] [] s _:=iI.one (.out m) rfl m1;have u:iI n (if iF m=true then [(It.keep m Qib Qgd).d] else []) [] (s.1.filter QdG,s.2.1,s.2.2) (s.1.filter QdG,mU iF bh s.2.1 m,s.2.2):=by
   unfold mU;by_cases b:iF m=true
   .rw[cq b,cq b];exact iI.one (.keep m _ _) rfl #[m2,q,p]
   .rw[bW b,bW b];exact .nil
  obtain⟨b1,f,t⟩:=iI.jc (n:=n) (s:=(s.1.filter QdG,mU iF bh s.2.1 m,s.2.2)) (gR.get i m.toNat) g;obtain⟨b2,c,r⟩:=I0 (n:=n) (iF:=iF) (mem:=mem) (bh:=bh) i gone (s.1.filter QdG,mU iF bh s.2.1 m,b1) f o (λk h=>by
   obtain⟨k1,k2,k3,w⟩:=hm k (i3 _ h);have j:k≠m:=λe=>n1 (e▸h);refine#[l0.2 #[k1,by simp[j]],k2,by rw[Bp];exact k3,?_];rw[<- w];exact Pa _ _ _ We)
  refine#[b2,c,?_];have y:(s.1.filter QdG).filter QrO=s.1.filter (λx=>!decide (x∈m::gone)):=by
   rw[List.filter_filter];refine List.filter_congr λx _=>?_;rw[wH];simp;exact#[λz=>#[z.2,z.1],λz=>#[z.2,z.1]]
  have:=(v.app (u.app t)).app r;rw[y]at this;exact this
theorem Ja{n nb:Nat}{ws:Q6}:∀(a:AT) (s:AU),s.2.2.length=nb->(∀i∈a,gR nb (gB ws i).jc)->∃b:AT,b.length=nb/\iI n (GY ws a) a s (s.1,s.2.1,b)
 | [],s,f,_=>#[ _,f,.nil]
 | i::a,s,f,hw=>by
  have j:iI n _ _ s s:=iI.one (.way i) rfl #[Wi,Wp,λd hd=>by simp at hd;exact .inl #[_,hd]];obtain⟨b1,e,h⟩:=iI.jc (hw i iB) f;obtain⟨b2,c,g⟩:=Ja a (s.1,s.2.1,b1) e λk l=>hw k (i3 _ l);exact#[b2,c,(j.app h).app g]
theorem Pg{n nb:Nat}{is:EO}(g:∀l∈is,gR nb l):∀(a:AT) (s:AU),s.2.2.length=nb->s.1.Pairwise (· <= ·)->(s.1++a).Nodup->(∀m∈a,0<=m/\m<n) →
  ∃b:AT,b.length=nb/\iI n (inR is a) [] s (sortI (s.1++a),s.2.1,b)
 | [],s,f,hs,_,_=>#[ _,f,by
   rw[ko,Om hs];exact .nil]
 | m::a,s,f,hs,nd,hm=>by
  have c:=λh=>(ma.1 nd).2.2 m h m Wp rfl;have o:=iI.one (.RP m) rfl #[c,hm m Wp ];obtain⟨b1,e,j⟩:=iI.jc (s:=(sortI _,s.2.1,s.2.2)) (gR.get g _) f;have pm:(sortI (s.1++[m])++a).Perm (s.1++m::a):=by
   apply((sortI_perm _).append_right _).trans;simp
  obtain⟨b2,d,i⟩:=Pg g _ (sortI _,s.2.1,b1) e (ki _) Qmq λk p=>hm k (i3 _ p);refine#[b2,d,?_];have:=(o.app j).app i;rw[Bk pm]at this;exact this
section
variable{is os:EO}{ws:Q6}{some:AT}
theorem SG{bx:AT}(b:Qer)(o:Qjo)(u:Qi1)(hm:Qpd)(hs:Qu9)(C:bx.length=nb)
  (F:∀l∈is,gR nb l) (E:∀l∈os,gR nb l) (D:∀w∈ws,gR nb w.jc) :
  ∃h:AT,h.length=nb/\iI es.length (YW ks es ss is os ws mem QaN some) some (eu Q4 es ch Q3,mem,bx) (YS ks es ss (Nm ks es ws mem QaN Qbh) QaN Qbh,Nm ks es ws mem QaN Qbh,h):=by
 have j:∀x∈eu Q4 es ch Q3,0<=x/\x<es.length:=λx k=>O6 b.n0 k;have d:=fz (isAll:=au ks) (es:=es) (ch:=ch) Q3;obtain⟨g1,g2⟩:=Bj (ks:=ks) (gs:=jZ ws some) b.pre.1 d j hs.ap;have f:=Wj b o u hm Qbh;have g:=b.tree f;have p:=Su b o u hm.1 Qbh;obtain⟨J,I,G⟩:=EG g hs.ap (hs.qZ b);obtain⟨H,_,_,e1,_⟩:=EH b.kd g b.n0 u o hs.ap (hs.qZ b);have c:=(qH (fz (isAll:=au ks) (es:=es) (ch:=H) Q3));rw[<- e1]at c;have a:∀x∈jJ ks es QaN Qbh,x∈eu Q4 es ch Q3:=λx k=>(zx.1 k).1;generalize eu Q4 es ch Q3=ops at *;have B:=f.1;have K:=hm.1;have t:(jJ ks es ops Qbh).foldl (mU Qcv QlL) mem=Nm ks es ws mem ops Qbh:=by
  apply Ex
  .rw[Bq];lia
  .intro i hi;rw[Bq]at hi;rw[Pb _ _ _ _ _ (λm hm=>(j m (a m hm)).1) hi];split
   .rfl
   .rename_i hn;rw[p,DB _ _ (λe he=>by have:=j e (a e (l0.1 he).1);lia) i hi];rw[bW λz=>hn #[(l0.1 z.1).1,(l0.1 z.1).2]]
 unfold YW;unfold YS at c ⊢;generalize Nm ks es ws mem ops Qbh=bh at *;obtain⟨b1,s,A⟩:=I0 (n:=es.length) (iF:=jd ks es ws) (mem:=mem) (bh:=bh) E Qu8 (ops,mem,bx) C g1 (λm hm=>#[a m hm,(j m (a m hm)).1,by have:=(j m (a m hm)).2;show m<((mem.length:Nat):Int);lia,rfl]);obtain⟨b2,r,y⟩:=Ja (n:=es.length) (ws:=ws) some (ops.filter QqX,(jJ ks es ops Qbh).foldl (mU Qcv bh) mem,b1) s λi hi=>D _ Qlp;obtain⟨b3,q,v⟩:=Pg (n:=es.length) F (wu ks es ss bh Qbh) (ops.filter QqX,(jJ ks es ops Qbh).foldl (mU Qcv bh) mem,b2) r (PY (d.sublist List.filter_sublist)) ((sortI_perm _).nodup_iff.1 c) λm hm=>(G m (jQ.1 hm)).1;refine#[b3,q,?_];have:=(A.app y).app v;rw[t,ko]at this;exact this
end
noncomputable def w6:BA:=["out","put","say","shut","then","to"]
def Of(mk:Str)(i j:Int):Bool:=if mk="<" then decide (i<j) else if mk="<=" then decide (i<=j) else if mk="=" then decide (i=j) else !decide (i=j)
inductive xQ where
 | GZ (op:Bool) (m:Int)
 | num (mk:Str) (b1 m1 b2 m2:Int)
def Br:xQ->D
 | .GZ op m=>.tup [.str (if op then "open" else "shut"),.int m]
 | .num mk b1 m1 b2 m2=>.tup [.str mk,.tup [.int b1,.int m1],.tup [.int b2,.int m2]]
noncomputable def xI:BA:=["<","<=","=","!="]
def xQ.Ok(n:Nat)(bs:AT):xQ->Prop
 | .GZ _ m=>0<=m/\m<n
 | .num mk b1 _ b2 _=>mk∈xI/\(b1=-1\/(0<=b1/\b1<bs.length))/\(b2=-1\/(0<=b2/\b2<bs.length))
def acI(a:xQ):(Br a).mZ=true:=by cases a<;>rfl
def K0(es:AT)(t u:Int):Bool:=decide (t=u) || (decide (t=-1) || decide QfF) || (decide (u∈bP es t) || decide (t∈bP es u))
theorem acJ{a c:Int}:KL bw es a c=-1\/KL bw es a c∈bP es a:=by
 unfold KL;cases e:(bP es a).find? _ with
 | none=>exact .inl rfl
 | some x=>exact .inr (M1 e)
def JO(ks:BA)(es:AT)(w v:bN):Bool:=(!decide (w.kf=-1) && !decide (v.kf=-1))&&K0 es Qa9 (ig ks es v)
def aqV(w v:bN):JO ks es w v=JO ks es v w:=by
 unfold JO K0;simp[Bool.and_comm (!decide (w.kf=-1))];have e1:decide (ig ks es w=ig ks es v)=decide (ig ks es v=ig ks es w):=by simp[eq_comm]
 rw[e1,Bool.or_comm (decide (ig ks es w=-1)),Bool.or_comm (decide (ig ks es v∈bP es _))]
noncomputable def aym:D->Int
 | .tup (_::_::_::_::.int t::_)=>t
 | _=>0
noncomputable def YZ(ln:AT)(y:Int):Nat:=ln.findIdx (λz=>decide (z=y))
variable{ln:AT}
noncomputable def amt(h:y∈ln):YZ ln y<ln.length:=List.findIdx_lt_length_of_exists #[y,h,Wp]
def ag1(h:y∈ln):ln[YZ ln y]? = some y:=by
 have hl:=amt h;have:=List.findIdx_getElem (w:=hl);exact kA hl▸congrArg _ (l3 this)
def amu(h:i<YZ ln y):ln[i]? ≠ some y:=λe=>by
 have:=List.not_of_lt_findIdx h;rw[(md.1 e).2]at this;simp at this
def Y0(ops:AT):D->Bool
 | .tup [.str k,.int m]=>if k="open" then decide QjL else if k="shut" then !decide QjL else true
 | _=>true
def Ph(ops:AT)(l:At):Bool:=l.all (Y0 ops)
def xQ.J7:xQ->Prop
 | .GZ _ _=>True
 | .num mk _ _ _ _=>mk∈xI
theorem xQ.Ok.mk{bs:AT}{a:xQ}(h:a.Ok n bs):a.J7:=by
 cases a with
 | GZ op m=>trivial
 | num mk b1 m1 b2 m2=>exact h.1
def ag2{mk:Str}(h:mk∈xI):mk≠"open" /\ mk≠"shut":=by
 have:∀x∈xI,x≠"open" /\ x≠"shut":=by decide +kernel
 exact this mk h
def acK(ops:AT)(op:Bool)(m:Int):Y0 ops (Br (.GZ op m))=if op then decide QjL else !decide QjL:=by
 cases op
 .rfl
 rfl
def tw(ops:AT)(sg:Str)(ln:AT)(w:bN):Bool:=decide (w.sign=sg)&&(decide (w.src∈ln)&&Ph ops w.asks)
def tW(ws:Q6)(ops:AT)(sg:Str)(ln:AT)(n:Nat):Ch:=(List.range n).filter λk=>tw ops sg ln (ws.getD k w0)
def r3(ws:Q6)(ops:AT)(sg:Str)(ln:AT):AT:=jb (λk:Int=>(YZ ln (ws.getD k.toNat w0).src:Int)) ((tW ws ops sg ln ws.length).map λ(k:Nat)=>(k:Int))
def K1(ws:Q6)(ops:AT)(sg:Str)(ln:AT)(n:Nat):(tW ws ops sg ln n).length<=n:=by
 have:=pz (λk=>tw ops sg ln (ws.getD k w0)) QxV;rw[m3]at this;exact this
def acL(ws:Q6)(ops:AT)(sg:Str)(ln:AT)(n:Nat):tW ws ops sg ln QaC=tW ws ops sg ln n++(if tw ops sg ln (ws.getD n w0)=true then [n] else []):=by
 unfold tW;rw[rb,ph,List.filter_cons,uj]
def ag3(ws:Q6)(ops:AT)(sg:Str)(ln:AT):(r3 ws ops sg ln).length<=ws.length:=by
 unfold r3;rw[Bd,cM];exact K1 _ _ _ _ _
def EJ(ws:Q6):Prop:=∀w∈ws,∃l:List xQ,w.asks=l.map Br/\∀a∈l,a.J7
abbrev Ask:=Str×Int×Int×Int×Int
noncomputable def wB(q:Ask):D:=.tup [.str q.1,.tup [.int q.2.1,.int q.2.2.1],.tup [.int q.2.2.2.1,.int q.2.2.2.2]]
def hQ(bs:AT)(q:Ask):Bool:=Of q.1 (Bo q.2.1 q.2.2.1 bs) (Bo q.2.2.2.1 q.2.2.2.2 bs)
def Pj(l:At):At:=l.filter λd=>!decide Qro
abbrev _root_.Da:=List Ask
def N0:xQ->Da
 | .GZ _ _=>[]
 | .num mk b1 m1 b2 m2=>[(mk,b1,m1,b2,m2)]
theorem ag4{bs:AT}{l:List xQ}(h:∀a∈l,a.Ok n bs):Pj Qpl=(l.flatMap N0).map wB:=by
 unfold Pj
 induction l with
 | nil=>rfl
 | cons a l b=>
  have b:=b λq c=>h q (i3 _ c);have d:=h a iB;rw[lx,y6,ky,<- b];cases a with
  | GZ op m=>
   rw[y2]
   .rfl
   .show ¬ (!decide ((if op=true then("open":Str) else "shut")∈(["open","shut"]:BA)))=true;grind
  | num mk b1 m1 b2 m2=>
   rw[y1]
   .rfl
   .have:∀x∈xI,(!decide (x∈(["open","shut"]:BA)))=true:=by decide +kernel
    exact this mk d.1
def hD(vs:AT):D->Bool
 | .tup [.str mk,.tup [.int b1,.int m1],.tup [.int b2,.int m2]]=>Of mk (Bo b1 m1 vs) (Bo b2 m2 vs)
 | _=>true
def vJ(n:Nat)(bs:AT)(ws:Q6):Prop:=∀w∈ws,∃l:List xQ,w.asks=l.map Br/\l.length<=12/\∀a∈l,a.Ok n bs
theorem vJ.ok{bs:AT}{ws:Q6}(h:vJ n bs ws):EJ ws:=λw hw=>by
 obtain⟨l,e,_,hl⟩:=h w hw;exact#[l,e,λa b=>(hl a b).mk]
noncomputable def rN(l:AT)(s:Int):AT:=if s∈l then l else l++[s]
noncomputable def NY(ks:BA)(x:Int):Bool:=decide QrW
def Wm(ks:BA)(ops:AT):AT:=ops.filter (NY ks)
variable{sg:Str}
theorem Wn{ws:Q6}(h:k∈r3 ws ops sg ln):0<=k/\k<ws.length:=by
 obtain⟨i,hi,rfl⟩:=i9.1 (Bc.1 h);have:=nk.1 (l0.1 hi).1;lia
noncomputable def Y3(h:Bn)(tp:Qhb)(tm:Qha)(s:QhH)(k:Int):AT×AT:=
 if h k=true then(if s.2.any (tm (tp k))=true then s else(s.1++[k],s.2++[tp k])) else(s.1++[k],s.2)
def acM(es:AT)(t u:Int):K0 es t u=K0 es u t:=by
 unfold K0;have e1:decide (t=u)=decide (u=t):=by simp[eq_comm]
 rw[e1,Bool.or_comm (decide (t=-1)),Bool.or_comm (decide (u∈bP es t))]
def Y4(es:AT)(ws:Q6)(k:Int):Int:=-((bP es (gB ws k).src).length:Nat)
def og(ks:BA)(es:AT)(ws:Q6)(l:AT):AT×AT:=l.foldl QhP ([],[])
def acO(ks:BA)(es:AT)(ws:Q6)(l:AT)(k:Int):og ks es ws (l++[k])=Y3 Qdo Qp7 (K0 es) (og ks es ws l) k:=by
 unfold og;simp
theorem ag5{h:Bn}{tp:Qhb}{tm:Qha}(s:QhH)(k:Int):(Y3 h tp tm s k).1.length<=s.1.length+1/\(Y3 h tp tm s k).2.length<=s.2.length+1:=by
 unfold Y3;split
 .split
  .lia
  .simp
 .simp
theorem Wo(ks:BA)(es:AT)(ws:Q6):∀l:AT,(og ks es ws l).1.length<=l.length/\(og ks es ws l).2.length<=l.length:=by
 have gen:∀(l:Qem) (s:List _×List _),(l.foldl QhP s).1.length<=s.1.length+l.length/\(l.foldl QhP s).2.length<=s.2.length+l.length:=by
  intro l
  induction l with
  | nil=>simp
  | cons k l a=>
   intro s;have h1:=ag5 (h:=nU ws) (tp:=λk=>ig ks es Qi8) (tm:=K0 es) s k;have h2:=a (Y3 Qdo Qp7 (K0 es) s k);simp;lia
 intro l;have:=gen l ([],[]);simpa [og] using this
def Sr(ks:BA)(es:AT)(ws:Q6)(row:AT):AT:=sortI (og ks es ws QxW).1
theorem So{es ops:AT}(c:dh es)(up:∀x∈ops,x=0\/es.getD x.toNat 0∈ops)(d:∀x∈ops,0<=x/\x<es.length):∀(n:Nat) {x y:Int},x<n->x∈ops->y∈bP es x->y∈ops
 | 0,x,y,hn,b,_=>absurd (d x b).1 We
 | n+1,x,y,hn,b,a=>by
  obtain⟨x0,e⟩:=d x b;rw[fN c x0 e]at a;split at a
  .cases a
  .have f:=c.at x0 e;have he:=(up x b).resolve_left λz=>by subst z;lia
   obtain rfl|a:=fL.1 a
   .exact he
   .exact So c up d n We he a
abbrev Pl:=AT×AT
def pO(m:Nat)(a:Int):Prop:=a=-1\/(0<=a/\a<(m:Int))
def ItG(m:Nat):It->Prop
 | .wA (.put i a _)=>(0<=i/\i<(m:Int))/\pO m a
 | .wA (.say _ a _)=>pO m a
 | _=>True
def o2(m:Nat)(d:D):Prop:=∃q:m7,d=q.d/\ItG m (.wA q)
def A0(m:Nat)(d:D):Prop:=∃x:It,d=x.d/\ItG m x
theorem o2.it{m:Nat}{d:D}(h:o2 m d):A0 m d:=by
 obtain⟨q,rfl,a⟩:=h;exact#[ _,rfl,a]
theorem Wr{P:D->Prop}{l:EO}(h:∀a∈l,∀d∈a,P d)(k:Nat):∀d∈l.getD k [],P d:=λd hd=>by
 simp at hd;cases e:l[k]? with
 | none=>rw[e]at hd;cases hd
 | some a=>rw[e]at hd;exact h a (l4 e) d hd
structure CH where
 bs:List QoP
 nm:At
 ks:BA
 es:AT
 ss:AT
 is:EO
 os:EO
 ws:List bN
def CH.d(c:CH):D:=fP QdU c.nm (dP c.ks c.es c.ss) Qxe Qxf Qok
structure CH.Ok(c:CH):Prop where
 k:kG c.ks c.es c.ss c.is c.os c.ws
 q:∀bs:AT,bs.length=c.bs.length->vJ c.es.length bs c.ws
 i:∀l∈c.is,∀d∈l,o2 c.bs.length d
 o:∀l∈c.os,∀d∈l,o2 c.bs.length d
 w:∀w∈c.ws,∀d∈w.jc,o2 c.bs.length d
 nl:c.nm.length=c.es.length
 bl:c.bs.length<=1000
def Gd(c:CH)(p:Pl):Prop:=∃ch:AT,(ch.length=c.es.length/\zm (bK c.ks) c.es ch)/\p.1=eu QpM c.es ch QeD/\CD c.ks c.es p.2
def SJ(c:CH)(p:Pl)(a:AT):At:=YW c.ks c.es c.ss c.is c.os c.ws p.2 p.1 a
def toN(c:CH)(p:Pl)(a:AT):Pl:=(YS c.ks c.es c.ss (Nm c.ks c.es c.ws p.2 p.1 Qpe) p.1 Qpe,Nm c.ks c.es c.ws p.2 p.1 Qpe)
theorem amy(h:mS es)(x0:0<=x)(a:QcH)(e:x≠0):es.getD x.toNat 0 ≠ -1:=by
 obtain⟨k,b⟩:∃k:Nat,x.toNat=k+1:=#[x.toNat-1,We];obtain z|z:=h.2 k We
 .lia
 .have:=(bI h.1 We We z).1;lia
def aqZ{t:Int}(h:K0 es t u=false):Ap es t u:=by
 unfold K0 at h;simp at h;exact#[h.1.2.1,h.1.2.2,h.1.1,h.2.2,h.2.1]
variable{c:CH}
def Th(h:c.Ok){p:Pl}{a:AT}(hs:pL c.ks c.es c.ws p.1 a):∀d∈SJ c p a,A0 c.bs.length d:=λd hd=>by
 obtain z|z:=i8.1 hd
 .obtain z|z:=i8.1 z
  .obtain⟨m,_,z⟩:=mI.1 z;obtain rfl|z:=fL.1 z
   .exact#[.out m,rfl,trivial]
   .obtain z|z:=i8.1 z
    .split at z
     .exact lh.1 z▸#[.keep m _ _,rfl,trivial]
     .cases z
    .exact(Wr h.o _ d z).it
  .obtain⟨i,hi,z⟩:=mI.1 z;obtain rfl|z:=fL.1 z
   .exact#[.way i,rfl,trivial]
   .exact(h.w _ Qlp d z).it
 .obtain⟨m,_,z⟩:=mI.1 z;obtain rfl|z:=fL.1 z
  .exact#[.RP m,rfl,trivial]
  .exact(Wr h.i _ d z).it
theorem Ws(h:c.Ok){p:Pl}(g:Qes){b:AT}(hs:pL c.ks c.es c.ws p.1 b):(SJ c p b).length<=600/\Gd c (toN c p b):=by
 obtain⟨ch,⟨n,m⟩,e,hm⟩:=g;obtain⟨ops,mem⟩:=p;dsimp only at e hm hs;subst e;have a:=h.k;have t:∀x∈eu QpM c.es ch QeD,0<=x/\x<c.es.length:=λx o=>O6 a.n0 o;have j:=fz (isAll:=au c.ks) (es:=c.es) (ch:=ch) QeD;have d:=hs.qZ a;have f:=Wj a m n hm Qfb;have i:=a.tree f;obtain⟨_,g2⟩:=Bj (ks:=c.ks) a.pre.1 j t hs.ap;obtain⟨_,r,_⟩:=EG i hs.ap d;obtain⟨s,d1,d2,q,_⟩:=EH a.kd i a.n0 n m hs.ap d;have n1:=a.n1;have sl:=hs.l;refine#[?_,s,#[d1,d2],q,f];unfold SJ YW;rw[lj,lj];have y:=(KY (iF:=jd c.ks c.es c.ws) (mem:=mem) (bh:=Nm c.ks c.es c.ws mem Qk6 Qfb) a.or (jJ c.ks c.es Qk6 Qfb)).1;have w:=(KZ (hs.vk a)).1;have v:=(EI a.ir (wu c.ks c.es c.ss Qru Qfb)).1;have u:(wu c.ks c.es c.ss Qru Qfb).length<=c.es.length:=by unfold wu;rw[kY];exact r
 dsimp only;lia
def Wt(c:CH):Pl:=(GR c.ks c.es c.ss QrP "new" 0,List.replicate c.es.length (-1))
theorem Wu(a:d7 QaT Q4 es ss QeA)(h0:QfZ):GR ks es ss QeA "new" 0=eu Q4 es ss Q3:=by
 have b:=YL a (far:=false) (near:=false) (d:=es.length) h0 We;rw[Wf]at b;assumption
noncomputable def Wv(ks:BA)(es:AT):CD ks es QeA:=#[sk ..,λk a=>.inl (by rw[km,Mn,cq a];rfl)]
def EK(h:c.Ok):d7 (aX c.ks) QpM c.es c.ss QrP:=h.k.tree (Wv ..)
def amA(h:c.Ok):Gd c (Wt c):=#[ _,#[h.k.sl,h.k.st],Wu (EK h) h.k.n0,Wv ..]
variable{j:Nat}
def Bs{l:Qaf}{p:α}(h:l[j]? = some p):l.take QU=l.take j++[p]:=by
 rw[sm,h];rfl
noncomputable def toQ:D->Da
 | .tup [.str mk,.tup [.int b1,.int m1],.tup [.int b2,.int m2]]=>[(mk,b1,m1,b2,m2)]
 | _=>[]
def Dg(w:bN):Da:=w.asks.flatMap toQ
def wQ(ws:Q6)(k:Int):Da:=Dg (ws.getD k.toNat w0)
theorem ag6(l:List xQ):(l.map Br).flatMap toQ=l.flatMap N0:=by
 induction l with
 | nil=>rfl
 | cons a l b=>
  simp;congr 1;cases a<;>rfl
abbrev _root_.CI:=List (Int×Bool)
noncomputable def Y5(hl:CI):List Qpa:=hl.map λp=>((Sum.inl p.1:Key),D.bl p.2)
def gO(hl:CI)(w:Int):Option Bool:=(hl.find? λp=>decide (p.1=w)).map (·.2)
def ag7(hl:CI)(w:Int):yW (Y5 hl) Qd1=(gO hl w).map D.bl:=by
 unfold yW Y5 gO
 induction hl with
 | nil=>rfl
 | cons p hl a=>
  rw[lx,p5,p5];by_cases e:p.1=w
  .subst e;simp
  .have e2:¬ (Sum.inl p.1:Key)=Sum.inl w:=λz=>e (Sum.inl.inj z);rw[la e2,la e];exact a
def ag8{hl:CI}{w:Int}(c:Bool)(h:gO hl w=none):Ct (Y5 hl) Qd1 (.bl c)=Y5 (hl++[(w,c)]):=by
 unfold Ct;rw[bW]
 .unfold Y5;rw[ky];rfl
 .intro z;obtain⟨kv,b,e⟩:=List.any_eq_true.1 z;obtain⟨p,a,rfl⟩:=i9.1 b;have e:=Sum.inl.inj (l3 e);unfold gO at h;rw[Option.map_eq_none_iff,za]at h;exact h p a (l5 e)
abbrev _root_.EU:=List AT
noncomputable def AV(r:EU):Nat:=(r.map λl=>l.length+1).sum
def fF(l:AT)(r:EU):AV QfE=l.length+1+AV r:=rfl
abbrev _root_.Cn:=List (Da×AT)
def JP(ws:Q6)(go:Da->AT->CI->Cn):AT->Da->AT->CI->Cn
 | [],q,p,h=>go q p h
 | w::l,q,p,h=>
  if wQ ws w=[]\/gO h w=some true then go q Qef h
  else if gO h w=some false then JP ws go l q p h
  else go Qpm Qef Qob++JP ws go l q p QnV
def tQ(ws:Q6):EU->Da->AT->CI->Cn
 | [],q,p,_=>[(q,p)]
 | l::r,q,p,h=>JP ws (tQ ws r) l q p h
variable{ws:Q6}{q:Da}{p:AT}{h:CI}{w:Int}{r:EU}
def K2:tQ ws [] q p h=[(q,p)]:=rfl
def ER:tQ ws ([]::r) q p h=tQ ws r q p h:=rfl
def EV(a:Qip):tQ ws QfG q p h=tQ ws r q Qef h:=cq a
def EW(a:¬ Qip)(hf:gO h w=some false):tQ ws QfG q p h=tQ ws QfE q p h:=(bW a).trans (cq hf)
theorem EX(a:¬ wQ ws w=[])(hn:gO h w=none):tQ ws QfG q p h=tQ ws r Qpm Qef Qob++tQ ws QfE q p QnV:=(bW λz=>z.elim a λz=>by simp_all).trans (bW λz=>by simp_all)
theorem CF(h:CI)(w:Int):gO h w=some true\/gO h w=some false\/gO h w=none:=by
 cases gO h w with
 | none=>exact .inr QaB
 | some b=>cases b<;>simp
theorem Ww{P:EU->Da->AT->CI->Prop}
  (h0:∀q p h,P [] q p h) (h1:∀r q p h,P r q p h->P ([]::r) q p h)
  (h2:∀w l r q p h,Qip->P r q Qef h->P QfG q p h)
  (g:∀w l r q p h,¬ Qip->gO h w=some false->P QfE q p h->P QfG q p h)
  (f:∀w l r q p h,¬ wQ ws w=[]->gO h w=none->P r Qpm Qef Qob->P QfE q p QnV->P QfG q p h) :
  ∀(n:Nat) (r:EU),AV r<=n->∀q p h,P r q p h:=by
 intro n
 induction n with
 | zero=>
  intro r a q p h;cases r with
  | nil=>exact h0 q p h
  | cons l r=>rw[fF]at a;lia
 | succ n c=>
  intro r a q p h
  match r,a with
  | [],_=>exact h0 q p h
  | []::r,a=>
   rw[fF]at a;exact h1 r q p h (c r We q p h)
  | (w::l)::r,a=>
   rw[fF,mM]at a;have i1:=c r We;have d:=c QfE (by rw[fF];lia);by_cases b:wQ ws w=[]\/gO h w=some true
   .exact h2 w l r q p h b (i1 _ _ _)
   .obtain z|z|z:=CF h w
    .exact absurd (.inr z) b
    .exact g w l r q p h b z (d _ _ _)
    .exact f w l r q p h (λe=>b Qkh) z (i1 _ _ _) (d _ _ _)
structure G0 where
 i:Nat
 j:Nat
 qs:Da
 pk:AT
 hl:CI
def K3(s:G0):D:=.tup [.int s.i,.int s.j,.tup (s.qs.map wB),.tup (s.pk.map .int),.kT QpN]
def v3(x:QdB):D:=.tup [.tup (x.1.map wB),.tup (x.2.map .int)]
noncomputable def Wx(s:G0):G0:=#[s.i+1,0,s.qs,s.pk,s.hl]
def nC(s:G0):G0:=#[s.i,s.j+1,s.qs,s.pk,s.hl]
def n7(s:G0)(w:Int):G0:=#[s.i,s.j,s.qs,rN s.pk w,s.hl]
def zy(R:EU)(s:G0):EU:=if s.i<R.length then(R.getD s.i []).drop s.j::R.drop (s.i+1) else []
def q0(ws:Q6)(R:EU)(s:G0):Cn:=tQ ws Qg3 s.qs s.pk s.hl
def ot(ws:Q6)(R:EU)(s:G0):List G0:=
 if s.j=(R.getD s.i []).length then [Wx s]
 else if wQ ws ((R.getD s.i []).getD s.j 0)=[]\/gO s.hl ((R.getD s.i []).getD s.j 0)=some true then [Wx (n7 s ((R.getD s.i []).getD s.j 0))]
 else if gO s.hl ((R.getD s.i []).getD s.j 0)=some false then [nC s]
 else [nC #[s.i,s.j,s.qs,s.pk,s.hl++[((R.getD s.i []).getD s.j 0,false)]],Wx (n7 #[s.i,s.j,s.qs++wQ ws ((R.getD s.i []).getD s.j 0),s.pk,s.hl++[((R.getD s.i []).getD s.j 0,true)]] ((R.getD s.i []).getD s.j 0))]
variable{R:EU}
theorem oS(i j:Nat)(q:Da)(p:AT)(h:CI):zy R (Wx #[i,j,q,p,h])=R.drop Qbd:=by
 unfold zy Wx;simp_all
def aha(l:AT)(s:Int):(rN l s).length<=l.length+1:=by
 unfold rN;split<;>simp
structure xy(M N:Nat)(ws:Q6)(R:EU)(s:G0):Prop where
 i1:s.i<=R.length
 j1:s.j<=(R.getD s.i []).length
 q1:s.qs.length+100*AV Qg3<=100*M
 p1:s.pk.length+AV Qg3<=M
 h1:s.hl.length+AV Qg3<=M
def n4(R:EU)(s:G0):Nat:=3 ^ AV Qg3
theorem amB{M N:Nat}{s:G0}(h:xy M N ws R s)(hi:s.i<R.length)(C:∀w,(wQ ws w).length<=100) :
  (∀t∈ot ws R s,xy M N ws R t)/\q0 ws R s=((ot ws R s).reverse.map Qkc).flatten/\((ot ws R s).map (n4 R)).sum<n4 R s/\(ot ws R s).length<=2:=by
 obtain⟨i,j,q,p,hl⟩:=s;obtain⟨m,v,d,x,f⟩:=h;dsimp only at m v d x f hi;have B:zy R #[i,j,q,p,hl]=(R.getD i []).drop j::R.drop Qbd:=by unfold zy;rw[cq hi]
 have g:∀(a:Da) (b:AT) (h':CI) (r:Nat),r=AV Qe7->a.length+100*r<=100*M->b.length+r<=M->h'.length+r<=M->xy M N ws R (Wx #[i,j,a,b,h']):=λa b h' r e a1 a2 a3=>by
  have e2:=oS (R:=R) i j a b h';exact#[by show i+1<=R.length;lia,kx _,by rw[e2,<- e];exact a1,by rw[e2,<- e];exact a2,by rw[e2,<- e];exact a3]
 unfold ot;dsimp only;rw[B]at d x f;rw[fF,w8]at d x f;unfold q0 n4;rw[B];by_cases A:j=(R.getD i []).length
 .rw[cq A];refine#[λt c=>?_,?_,?_,i5 rfl]
  .rw[lh.1 c];exact g _ _ _ _ rfl We We We
  .show tQ ws _ _ _ _=tQ ws Qjy _ _ _++[];rw[ko,oS,List.drop_eq_nil_of_le We,ER];rfl
  .show 3 ^ AV Qjy+0<_;rw[oS,fF];exact Nat.pow_lt_pow_right Wl We
 .rw[bW A];have y:j<(R.getD i []).length:=by lia
  have D:(R.getD i []).drop j=(R.getD i []).getD j 0::(R.getD i []).drop QU:=by
   rw[u7 y,km (l:=R.getD i []),kA y];rfl
  have hw:=C ((R.getD i []).getD j 0);rw[D];generalize (R.getD i []).getD j 0=w at hw ⊢;have F:=aha p w;have o:∀(a:Da) (b:AT) (h':CI),zy R Qtl=(R.getD i []).drop QU::R.drop Qbd:=λa b h'=>by unfold zy nC;dsimp only;rw[if_pos hi]
  have n:∀(a:Da) (b:AT) (h':CI),a.length<=q.length->b.length<=p.length->h'.length<=hl.length+1->xy M N ws R Qtl:=λa b h' a1 a2 a3=>by
   have e2:=o a b h';refine#[m,by show j+1<=(R.getD i []).length;lia,?_,?_,?_]
   .rw[e2,fF,w8];show a.length+_<=_;lia
   .rw[e2,fF,w8];show b.length+_<=_;lia
   .rw[e2,fF,w8];show h'.length+_<=_;lia
  by_cases k:wQ ws w=[]\/gO hl w=some true
  .rw[cq k];refine#[λt c=>?_,?_,?_,i5 rfl]
   .rw[lh.1 c];exact g q Qef hl _ rfl We We We
   .show tQ ws _ _ _ _=tQ ws QvA _ _ _++[];rw[ko,show n7 #[i,j,q,p,hl] w=#[i,j,q,rN p w,hl] from rfl,oS,EV k];rfl
   .show 3 ^ AV QvA+0<_;rw[show n7 #[i,j,q,p,hl] w=#[i,j,q,rN p w,hl] from rfl,oS,fF];exact Nat.pow_lt_pow_right Wl We
  .rw[bW k];by_cases hf:gO hl w=some false
   .rw[cq hf];refine#[λt c=>?_,?_,?_,i5 rfl]
    .rw[lh.1 c];exact n _ _ _ (js _) (js _) We
    .show tQ ws _ _ _ _=tQ ws Qjz _ _ _++[];rw[ko,o,EW k hf];rfl
    .show 3 ^ AV Qjz+0<_;rw[o,fF,fF,mM];exact Nat.pow_lt_pow_right Wl We
   .rw[bW hf];have hn:gO hl w=none:=by
     obtain z|z|z:=CF hl w
     .exact absurd (.inr z) k
     .exact absurd z hf
     .exact z
    have u:¬ wQ ws w=[]:=λz=>k Qd6;have E:n7 #[i,j,q++wQ ws w,p,hl++[(w,true)]] w=#[i,j,q++wQ ws w,rN p w,hl++[(w,true)]]:=rfl;rw[E];refine#[λt c=>?_,?_,?_,i5 rfl]
    .simp only[fL,lL,or_false]at c;obtain rfl|rfl:=c
     .exact n _ _ _ (js _) (js _) (by rw[lj];simp)
     .refine g _ _ _ _ rfl ?_ We (by rw[lj,oP];lia);rw[lj];lia
    .show tQ ws _ _ _ _=tQ ws Qjy _ _ _++(tQ ws Qjz _ _ _++[]);rw[ko,oS,o,EX u hn];rfl
    .show 3 ^ AV Qjz+(3 ^ AV Qjy+0)<_;rw[oS,o,fF,fF,mM,w8];have a1:3 ^ AV Qe7<=3 ^ ((R.getD i []).length-QU+1+AV Qe7):=Nat.pow_le_pow_right Wl We;have a2:3 ^ ((R.getD i []).length-QU+1+1+AV Qe7)=3 ^ ((R.getD i []).length-QU+1+AV Qe7)*3:=by rw[<- Nat.pow_succ];congr 1;lia
     have a3:0<3 ^ ((R.getD i []).length-QU+1+AV Qe7):=Nat.pow_pos Wl;lia
def SK(ws:Q6):Prop:=∀w∈ws,w.asks.length<=100/\D.bC w.asks=true/\(∀d∈w.asks,∃x r,d=.tup (.str x::r))/\Pj w.asks=(Dg w).map wB
theorem SK.len(h:SK ws)(k:Int):(wQ ws k).length<=100:=by
 unfold wQ;by_cases a:k.toNat<ws.length
 .rw[km,kA a];have g:=h ws[k.toNat] Wp;have e:=congrArg List.length g.2.2.2;simp at e;have:=pz (λd=>!decide Qro) ws[k.toNat].asks;unfold Pj at e;show(Dg ws[k.toNat]).length<=100;lia
 .rw[km,HU We];exact kx _
noncomputable def LO(R:EU):D:=.lst Qsl
def Bt(ws:Q6)(ops:AT)(sg:Str)(es l:AT):EU:=l.map λm=>r3 ws ops sg (m::bP es m)
noncomputable def Sk(R:EU):T:=.lst QqQ
theorem EY:∀R:EU,T.dB QqQ=R.map λl=>D.lst Qb5
 | []=>rfl
 | l::R=>by
  show T.dB (T.lst _::R.map _)=_;rw[T.dB,bT,EY R];rfl
def Y6(R:EU):(Sk R).fC=LO R:=by unfold Sk LO;rw[T.fC,EY]
theorem Sa(R:EU):zy R #[0,0,[],[],[]]=R:=by
 cases R with
 | nil=>rfl
 | cons l R=>rfl
def acW:∀r∈Bt ws ops sg es l,(∀w∈r,0<=w/\w<(ws.length:Int))/\r.length<=ws.length:=λr a=>by
 obtain⟨m,_,rfl⟩:=i9.1 a;exact#[λw hw=>Wn hw,ag3 _ _ _ _]
theorem amC{k:Nat}(h:∀r∈R,r.length<=k):AV R<=R.length*QaZ:=by
 induction R with
 | nil=>exact kx _
 | cons l R a=>
  have:=a λr b=>h r (i3 _ b);have:=h l iB;rw[fF,mM];lia
abbrev fB:=CU
variable{hs bg pr:At}{R:D}{TR:T}
noncomputable def xw(bs hs bg pr:At)(R:D):List (Str×D):=[("boxes",.lst bs),("signs",.lst hs),("begin",.tup bg),("flats",.lst pr),("rows",R)]
noncomputable def tN(bs hs bg pr:At)(t:T):BS:=[("boxes",.lst (bs.map T.sh)),("signs",.lst (hs.map T.sh)),("begin",.sh (.tup bg)),("flats",.lst QtD),("rows",t)]
def dX:List.lookup ("flats":Str) Qv7=some (.lst pr):=rfl
def xR:List.lookup ("rows":Str) Qv7=some R:=rfl
def Jb:List.lookup ("rows":Str) (tN bs hs bg pr TR)=some TR:=by
 rfl
def Y7{y:Addr}{l:Qoc}{t2:T}:T.je [.fld "rows"] t2 (.pin y (.ins "Table" (tN bs hs bg pr (.dct l))))=.pin y (.ins "Table" (tN bs hs bg pr t2)):=rfl
noncomputable def fS(kvs:Qc1):List (fB×T):=kvs.map λq=>(q.1,T.lst Qol)
noncomputable def qI(kvs:Qc1):List (fB×D):=kvs.map λq=>(q.1,D.lst q.2)
def K4(bs hs bg pr:At)(kvs:Qc1):BS:=tN bs hs bg pr (.dct (fS kvs))
def Y8(bs hs bg pr:At)(kvs:Qc1):D:=.ins "Table" (xw bs hs bg pr Qyz)
theorem Jc(kvs:Qc1):T.XU (fS kvs)=qI kvs:=by
 induction kvs with
 | nil=>rfl
 | cons q r a=>
  show T.XU ((q.1,T.lst _)::fS r)=(q.1,D.lst q.2)::qI r;rw[T.XU,bT,a]
def acY(bs hs bg pr:At)(kvs:Qc1):T.fC QrE=Y8 bs hs bg pr kvs:=by
 unfold K4 tN Y8 xw;rw[T.fC,T.tL,T.tL,T.tL,T.tL,T.tL,T.tL,bT,bT,bT,T.fC,T.fC,Jc]
theorem Wy{l:List Qpg}(nd:(l.map (·.1)).Nodup){k:fB}{x:α}(h:l[j]? = some (k,x)):iN l k=some x:=by
 induction l generalizing j with
 | nil=>simp at h
 | cons p l a=>
  rw[lx,ml]at nd;cases j with
  | zero=>
   simp at h;subst h;exact lZ rfl
  | succ j=>
   rw[kB λe=>nd.1 (e▸i9.2 #[ _,l4 h,rfl])];exact a nd.2 h
def SM(kvs:Qc1):(qI kvs).map (·.1)=kvs.map (·.1):=by
 unfold qI;rw[kc];rfl
def SN(kvs:Qc1):(fS kvs).map (·.1)=kvs.map (·.1):=by
 unfold fS;rw[kc];rfl
abbrev gk:=Da×At×Nat
def CG(r:gk):D:=.tup [.tup (r.1.map wB),.tup r.2.1,.int (r.2.2:Nat)]
noncomputable def jT(p:Pl):D:=.tup [.tup (p.1.map .int),.tup (p.2.map .int)]
abbrev _root_.Do:=List Pl
structure GS where
 fl:Do
 rs:List QkN
 sp:Nat
noncomputable def qJ(n:Nat)(x:Str):fB:=[.inl (n:Int),.inr x]
def jg(l:QbO):List (fB×At):=l.map λq=>(q.1,q.2.map CG)
noncomputable def EZ(n:Nat):At:=(List.range n).map λ(i:Nat)=>D.int (i:Int)
variable{cd:D}{mo:Nat}{fl pl rs s:T}
noncomputable def GC(cd:D)(mo:Nat)(fl pl rs s:T):BS:=[("chart",.sh cd),("most",.sh (.int mo)),("flats",fl),("places",pl),("rows",rs),("spare_rows",s)]
def mq:List.lookup ("chart":Str) Qcl=some (.sh cd):=by unfold GC;rw[Ke]
def Wz:List.lookup ("most":Str) Qcl=some QgB:=rfl
def fH:List.lookup ("flats":Str) Qcl=some fl:=rfl
def iu:List.lookup ("places":Str) Qcl=some pl:=rfl
def zA:List.lookup ("rows":Str) Qcl=some rs:=rfl
def uc:List.lookup ("spare_rows":Str) Qcl=some s:=rfl
def ahb(t:T):nR "flats" t Qcl=GC cd mo t pl rs s:=rfl
def ahc(t:T):nR "places" t Qcl=GC cd mo fl t rs s:=rfl
def ahd(t:T):nR "rows" t Qcl=GC cd mo fl pl t s:=rfl
def ahe(t:T):nR "spare_rows" t Qcl=GC cd mo fl pl rs t:=rfl
variable{f:Str}{fs:BS}
def iQ{y:Addr}{t:T}(h:Qf1)(q:T.jX [] t=some t:=by rfl):T.jX [.fld f] Qe4=some t:=by
 show(List.lookup f fs).bind _=_;rw[h];exact q
def K5{y:Addr}{t:T}(h:Qf1):T.x5 [.fld f] Qe4=some t:=by
 show(List.lookup f fs).bind _=_;rw[h];rfl
def amD{y:Addr}{gs:BS}{t u:T}(h:Qf1)(e:QpO)(q:T.je [] u t=u:=by rfl):T.je [.fld f] u Qe4=.pin y QvB:=by
 have a:(T.core Qe4).OG (.fld f)=some t:=h;rw[T.je,a,<- e];show T.pin y (.ins _ _)=_;rw[q]
def acZ{y:Addr}{gs:BS}{t u:T}(h:Qf1)(e:QpO):T.Yy [.fld f] u Qe4=.pin y QvB:=by
 have a:(T.core Qe4).OG (.fld f)=some t:=h;rw[T.Yy,a,<- e];rfl
def Nn(cd:D)(mo:Nat)(w:World)(s:GS):BS:=GC cd mo Qsb (.lH w QdI (EZ s.fl.length)) Qp4 Qnj
theorem E1:∀{a c:AT},a.map D.int=c.map D.int->a=c
 | [],[],_=>rfl
 | [],_::_,h=>by cases h
 | _::_,[],h=>by cases h
 | x::a,y::c,h=>by
  injection h with h1 h2;injection h1 with h1;rw[h1,E1 h2]
def DF{p q:Pl}(h:jT p=jT q):p=q:=by
 injection h with h;injection h with h1 h2;injection h1 with h1;injection h2 with h2 _;injection h2 with h2;exact Prod.ext (E1 h1) (E1 h2)
def DG{l:Do}{p:Pl}:jT p∈l.map jT↔p∈l:=by
 constructor
 .intro h;obtain⟨q,a,e⟩:=i9.1 h;exact DF e▸a
 .exact List.mem_map_of_mem
theorem WB{p:Pl}:∀l:Do,(l.map jT).idxOf (jT p)=l.idxOf p
 | []=>rfl
 | q::l=>by
  rw[lx,List.idxOf_cons,List.idxOf_cons,WB l];by_cases e:q=p
  .subst e;simp
  .have e2:=λz=>e (DF z);rw[beq_false_of_ne e,beq_false_of_ne e2]
def Y9{l:Do}(h:Qf0):(l.map jT).Nodup:=by
 rw[List.nodup_iff_pairwise_ne,List.pairwise_map];exact(List.nodup_iff_pairwise_ne.1 h).imp λz e=>z (DF e)
def zB(p:Pl):Ek 8 (jT p):=.tup λd hd=>by
 obtain rfl|hd:=fL.1 hd
 .exact .tup λx a=>by obtain⟨i,_,rfl⟩:=i9.1 a;exact .int _ _
 .cases lh.1 hd;exact .tup λx a=>by obtain⟨i,_,rfl⟩:=i9.1 a;exact .int _ _
def ahf(p:Pl)(w b:World):(jT p).xC w=(jT p).xC b:=by
 refine KD λd hd=>?_;obtain rfl|hd:=fL.1 hd
 .exact KD λx a=>by obtain⟨i,_,rfl⟩:=i9.1 a;rfl
 .cases lh.1 hd;exact KD λx a=>by obtain⟨i,_,rfl⟩:=i9.1 a;rfl
def K6(l:Do)(w a:World):∀d∈l.map jT,d.xC w=d.xC a:=λd hd=>by
 obtain⟨p,_,rfl⟩:=i9.1 hd;exact ahf p w a
theorem Tz{l:Do}(h:Qf0)(hl:l.length<=1000):GG (l.map jT):=#[λd hd=>by obtain⟨p,_,rfl⟩:=i9.1 hd;exact zB p,Y9 h,WF]
def ahg(h:i<n):(EZ n)[i]? = some (.int (i:Int)):=by
 unfold EZ;rw[k4,pj h];rfl
def Za(n:Nat):EZ n++[.int (n:Int)]=EZ QaC:=by
 unfold EZ;rw[rb,ky];rfl
noncomputable def AW(fl:Do)(p:Pl):Do:=if p∈fl then fl else fl++[p]
noncomputable def oe(fl:Do)(p:Pl):Nat:=if p∈fl then fl.idxOf p else fl.length
theorem LP{fl:Do}(h:fl.Nodup)(p:Pl):(AW fl p).Nodup/\oe fl p<(AW fl p).length/\fl.length<=(AW fl p).length/\(AW fl p).length<=fl.length+1/\(AW fl p)[oe fl p]? = some p:=by
 unfold AW oe;by_cases b:p∈fl
 .rw[cq b,cq b];have:=List.idxOf_lt_length_of_mem b;refine#[h,this,Wp,Wp,?_];simp_all
 .rw[bW b,bW b];refine#[?_,Wp,Wp,Wp,?_]
  .rw[ma];exact#[h,Wp,λa f c d e=>by simp_all ]
  .rw[y5 Wp,Nat.sub_self];rfl
def K7{t:T}(h:Qf1)(q:T.jX [] t=some t:=by rfl):T.jX [.fld f] QhU=some t:=by
 show(List.lookup f fs).bind _=_;rw[h];exact q
def ahh(p:Pl):AW [] p=[p]:=by unfold AW;rw[bW lL];rfl
def ahi{gs:BS}{t u:T}(h:Qf1)(e:QpO)(q:T.je [] u t=u:=by rfl):T.je [.fld f] u QhU=.ins "Growth" gs:=by
 have a:(T.core QhU).OG (.fld f)=some t:=h;rw[T.je,a,<- e];show T.ins _ _=_;rw[q]
def E2(n:Nat):(List.replicate n [D.int (-1)]).flatten=(List.replicate n (-1:Int)).map D.int:=by simp
theorem vJ.g{vs:AT}(h:vJ n vs ws):SK ws:=λw hw=>by
 obtain⟨l,e,hl,b⟩:=h w hw;refine#[by rw[e,cM];lia,e▸eO (acI) _,λd hd=>?_,?_]
 .rw[e]at hd;obtain⟨a,_,rfl⟩:=i9.1 hd;cases a with
  | GZ op m=>exact#[_,_,rfl]
  | num mk b1 m1 b2 m2=>exact#[_,_,rfl]
 .rw[e,ag4 b];unfold Dg;rw[e,ag6]
def Zb{G:Int->Prop}(r:EU)(q:Da)(p:AT)(h:CI):p.Nodup->(∀k∈p,G k)->(∀l∈r,∀w∈l,G w)->∀x∈tQ ws r q p h,x.2.Nodup/\∀k∈x.2,G k:=by
 have add:∀{p:AT} {w:Int},p.Nodup->(∀k∈p,G k)->G w->(rN p w).Nodup/\∀k∈rN p w,G k:=λ{p w} nd b hw=>by
  unfold rN;split
  .exact#[nd,b]
  .rename_i hn;refine#[?_,λk o=>?_]
   .rw[ma];exact#[nd,ml.2 #[lL,oy],λa s c g e=>by cases lh.1 g;exact hn (e▸s)]
   .obtain z|z:=i8.1 o
    .exact b k z
    .cases lh.1 z;exact hw
 refine Ww (ws:=ws) (P:=λr q p h=>p.Nodup->(∀k∈p,G k)->(∀l∈r,∀w∈l,G w)->∀x∈tQ ws r q p h,x.2.Nodup/\∀k∈x.2,G k) ?_ ?_ ?_ ?_ ?_ (AV r) r (js _) q p h
 .intro q p h nd b _ x f;rw[K2]at f;rw[lh.1 f];exact#[nd,b]
 .intro r q p h i nd b d;rw[ER];exact i nd b λl hl=>d l QpZ
 .intro w l r q p h g i nd b d;rw[EV g];obtain⟨a1,a2⟩:=add nd b (d _ iB w iB);exact i a1 a2 λl hl=>d l QpZ
 .intro w l r q p h g hf i nd b d;rw[EW g hf];refine i nd b λm hm=>?_;obtain rfl|hm:=fL.1 hm
  .exactλv hv=>d _ iB v QpY
  .exact d m (i3 _ hm)
 .intro w l r q p h n hn i1 j nd b d x f;rw[EX n hn]at f;obtain z|z:=i8.1 f
  .obtain⟨a1,a2⟩:=add nd b (d _ iB w iB);exact i1 a1 a2 (λl hl=>d l QpZ) x z
  .refine j nd b (λm hm=>?_) x z;obtain rfl|hm:=fL.1 hm
   .exactλv hv=>d _ iB v QpY
   .exact d m (i3 _ hm)
theorem amE{leaf:Int}(c:dh es)(up:∀x∈ops,x=0\/es.getD x.toNat 0∈ops)(b:∀x∈ops,0<=x/\x<es.length)(hl:leaf∈ops)(d:k∈r3 ws ops sg QxX):(gB ws k).src∈ops:=by
 obtain⟨i,hi,rfl⟩:=i9.1 (Bc.1 d);have a:=(l0.1 hi).2;unfold tw at a;rw[l9,l9]at a;obtain⟨g1,g2,g3⟩:=a;obtain z|z:=fL.1 (l3 g2)
 .exact z▸hl
 .obtain⟨f,e⟩:=b leaf hl;exact So c up b es.length We hl z
def qu(c:CH)(l:AT):AT:=Sr c.ks c.es c.ws l
def SQ(c:CH)(p:Pl)(sg:Str):Cn:=tQ c.ws (Bt c.ws p.1 sg c.es (Wm c.ks p.1)) [] [] []
theorem WC(h:c.Ok){p:Pl}(g:Qes):(∀x∈p.1,0<=x/\x<c.es.length)/\(∀x∈p.1,x=0\/c.es.getD x.toNat 0∈p.1)/\p.1.length<=c.es.length/\p.2.length=c.es.length:=by
 obtain⟨ch,⟨l,j⟩,d,i⟩:=g;have n0:=h.k.n0;have f:∀x∈p.1,0<=x/\x<c.es.length:=d▸λx a=>O6 n0 a;refine#[f,λx a=>?_,?_,i.1]
 .obtain⟨x0,b⟩:=f x a;by_cases e:x=0
  .exact .inl e
  .right;rw[d]at a ⊢;exact SD h.k.pre.1 _ b a (IV h.k.pre.1 x0 b (amy h.k.pre x0 b e))
 .rw[d];have:=zj (isAll:=au c.ks) (es:=c.es) (ch:=ch) QeD;lia
def E3(h:c.Ok){p:Pl}(g:Qes)(sg:Str):∀x∈SQ c p sg,x.2.Nodup/\∀k∈x.2,QwB/\(gB c.ws k).src∈p.1:=by
 obtain⟨a,up,_,_⟩:=WC h g;refine Zb _ _ _ _ Wp Wp λl hl w hw=>?_;obtain⟨m,hm,rfl⟩:=i9.1 hl;exact#[Wn hw,amE h.k.pre.1 up a (l0.1 hm).1 hw]
structure Nh(h:Bn)(tp:Qhb)(tm:Qha)(P:AT)(s:QhH):Prop where
 sub:s.1.Sublist P
 Df:s.2=(s.1.filter h).map tp
 apart:∀a∈s.1,∀b∈s.1,a≠b->h a=true->h b=true->tm (tp a) (tp b)=false
theorem Tx{h:Bn}{tp:Qhb}{tm:Qha}(k:∀a b,tm a b=tm b a):∀(l P:AT) (s:QhH),Nh h tp tm P s->Nh h tp tm (P++l) (l.foldl (Y3 h tp tm) s)
 | [],P,s,I=>by rw[ko];exact I
 | x::l,P,s,I=>by
  rw[show P++x::l=(P++[x])++l by simp,zv];refine Tx k l (P++[x]) _ ?_;have keep:(∀z∈s.1,h x=true->h z=true->tm (tp x) (tp z)=false)->∀t,t=((s.1++[x]).filter h).map tp->Nh h tp tm (P++[x]) (s.1++[x],t):=λhz t m=>by
   refine#[I.sub.append (n3 _),m,λa d b c ne i g=>?_];obtain d|d:=i8.1 d
   .obtain c|c:=i8.1 c
    .exact I.apart a d b c ne i g
    .rw[lh.1 c]at g ⊢;rw[k];exact hz a d g i
   .rw[lh.1 d]at i ne ⊢;obtain c|c:=i8.1 c
    .exact hz b c i g
    .exact absurd (lh.1 c).symm ne
  unfold Y3;by_cases f:h x=true
  .rw[cq f];by_cases d:s.2.any (tm (tp x))=true
   .rw[cq d];exact#[I.sub.trans Qsh,I.Df,I.apart]
   .rw[bW d];refine keep (λz hz _ j=>?_) _ ?_
    .cases e:tm (tp x) (tp z) with
     | false=>rfl
     | true=>exact absurd (List.any_eq_true.2 #[tp z,by rw[I.Df];exact i9.2 #[z,l0.2 #[hz,j],rfl],e]) d
    .rw[ph,y1 f];simp[I.Df]
  .rw[bW f];refine keep (λz hz j _=>absurd j f) _ ?_;rw[ph,y2 f];simp[I.Df]
theorem K8(h:c.Ok){p:Pl}(nd:Qf0)(pk:∀k∈l,QwB/\(gB c.ws k).src∈p.1):pL c.ks c.es c.ws p.1 (qu c l):=by
 have a:=Tx (h:=nU c.ws) (tp:=λk=>ig c.ks c.es (gB c.ws k)) (acM c.es) (jb (Y4 c.es c.ws) l) [] ([],[]) #[.slnil,rfl,Wp ];simp at a;have sub:∀k∈qu c l,k∈l:=λk n=>(rH _).mem_iff.1 (a.sub.subset (jQ.1 n));have snd:(qu c l).Nodup:=(sortI_perm _).nodup_iff.2 (List.Nodup.sublist a.sub ((rH _).nodup_iff.2 nd));refine#[λi hi=>pk i (sub i hi),?_,?_]
 .have:=nG snd λx j=>(pk x (sub x j)).1;have:=h.k.wl;lia
 .unfold jZ;rw[List.pairwise_map];have:=snd;refine((this.sublist Wp).imp_of_mem λ{x y} j m e=>?_);obtain⟨g,f⟩:=l0.1 j;obtain⟨d,b⟩:=l0.1 m;exact aqZ (a.apart x (jQ.1 g) y (jQ.1 d) e f b)
def r4(c:CH)(p:Pl)(x:QcI)(a:QdB):Do×List gk:=(AW x.1 QbQ,x.2++[(a.1,SJ c p QaP,oe x.1 QbQ)])
def tI(c:CH)(mo:Nat)(p:Pl)(x:QcI)(a:QdB):Prop:=toN c p QaP∉x.1/\x.1.length=mo
instance(c:CH)(mo:Nat)(p:Pl)(x:QcI)(a:QdB):Decidable (tI c mo p x a):=by unfold tI;exact inferInstance
def K9(c:CH)(mo:Nat)(p:Pl):Cn->Do×List gk->Option Qqa
 | [],x=>some x
 | a::l,x=>if tI c mo p x a then none else K9 c mo p l QoQ
theorem La(c:CH)(mo:Nat)(p:Pl):∀(a l:Cn) (x:QcI),K9 c mo p (a++l) x=(K9 c mo p a x).bind (K9 c mo p l)
 | [],l,x=>rfl
 | b::a,l,x=>by
  rw[nc,K9,K9];split
  .rfl
  .exact La c mo p a l _
def Np(c:CH)(mo:Nat)(s:GS)(n:Nat)(sg:Str):Option GS:=
 if s.sp<(SQ c QeN sg).length then none
 else(K9 c mo QeN (SQ c QeN sg) (s.fl,[])).map λx=>#[x.1,s.rs++[(qJ n sg,x.2)],s.sp-x.2.length]
structure FK(c:CH)(r:gk):Prop where
 i:∀d∈r.2.1,A0 c.bs.length d
structure FF(c:CH)(mo:Nat)(n:Nat)(x:QcI):Prop where
 nd:x.1.Nodup
 ln:x.1.length<=mo
 gd:∀p∈x.1,Gd c p
 rl:x.2.length=n
 rw:∀r∈x.2,FK c r
theorem WD{m:Nat}{d:D}(h:A0 m d):d.mZ=true:=by
 obtain⟨x,rfl,_⟩:=h;cases x with
 | wA q=>cases q<;>rfl
 | _=>rfl
def WG{r:gk}(h:FK c r):(CG r).mZ=true:=by
 have e1:D.bC (r.1.map wB)=true:=eO QcP _;have e2:=jr λd hd=>WD (h.i d hd);show(D.tup _).mZ=true;rw[D.mZ,D.bC,D.bC,D.mZ,D.mZ,e1,e2];rfl
def SR(c:CH)(fl:Do)(p:Pl)(r:gk):Prop:=∃a,pL c.ks c.es c.ws p.1 a/\r.2.1=SJ c p a/\fl[r.2.2]? = some (toN c p a)
def zC:List gk->Nat->Option Nat
 | [],m=>some m
 | r::l,m=>if r.2.2<m then zC l m else if r.2.2=m then zC l (m+1) else none
noncomputable def Fh(q:QkN):Nat:=match q.1 with
 | .inl n::_=>n.toNat
 | _=>0
def xS:List QkN->Nat->Option Nat
 | [],m=>some m
 | q::l,m=>if Fh q<m then(zC q.2 m).bind (xS l) else none
def FC(l:List Da):Prop:=∃i,l=i++[[]]/\∀a∈i,a≠[]
theorem zE:∀(a l:QbO) (m:Nat),xS (a++l) m=(xS a m).bind (xS l)
 | [],l,m=>rfl
 | q::a,l,m=>by
  rw[nc,xS,xS];split
  .cases zC q.2 m with
   | none=>rfl
   | some b=>exact zE a l b
  .rfl
theorem ac4(r:EU)(q:Da)(p:AT)(h:CI):(∀x∈tQ ws r q p h,q.length<=x.1.length)/\∃i a,tQ ws r q p h=i++[(q,a)]/\∀x∈i,q.length<x.1.length:=by
 refine Ww (ws:=ws) (P:=λr q p h=>(∀x∈tQ ws r q p h,q.length<=x.1.length)/\∃i a,tQ ws r q p h=i++[(q,a)]/\∀x∈i,q.length<x.1.length) ?_ ?_ ?_ ?_ ?_ (AV r) r (js _) q p h
 .intro q p h;rw[K2];exact#[ Wp,[],p,rfl,Wp ]
 .intro r q p h i;rw[ER];exact i
 .intro w l r q p h c i;rw[EV c];exact i
 .intro w l r q p h c hf i;rw[EW c hf];exact i
 .intro w l r q p h d hn i1 j;rw[EX d hn];have lt:q.length<(q++wQ ws w).length:=by
   have:=ze.2 d;rw[lj];lia
  obtain⟨g,i,a,e,f⟩:=j;refine#[λx b=>?_,_,a,by rw[e,<- ka],λx b=>?_]
  .obtain z|z:=i8.1 b
   .exact mi (my lt (i1.1 x z))
   .exact g x z
  .obtain z|z:=i8.1 b
   .exact my lt (i1.1 x z)
   .exact f x z
def ahm(c:CH)(p:Pl)(sg:Str):FC ((SQ c p sg).map (·.1)):=by
 obtain⟨_,i,f,e,h⟩:=ac4 _ [] [] [];unfold SQ;rw[e,ky];exact#[ _,rfl,λa d=>by
  obtain⟨x,b,rfl⟩:=i9.1 d;exact ze.1 (h x b)]
def E4{fl a:Do}(h:fl <+: a){p:Pl}(e:fl[i]? = some p):a[i]? = some p:=by
 obtain⟨t,rfl⟩:=h;exact y4 (md.1 e).1▸e
theorem SR.mono{fl d:Do}{p:Pl}{r:gk}(h:fl <+: d)(k:SR c fl p r):SR c d p r:=by
 obtain⟨f,a,b,e⟩:=k;exact#[f,a,b,E4 h e]
def ahn(fl:Do)(p:Pl):fl <+: AW fl p:=by
 unfold AW;split
 .exact List.prefix_rfl
 simp
theorem WH{c:CH}(h:c.Ok){p:Pl}(g:Qes){mo:Nat}{sg:Str}:∀(l:Cn) {fl:Do} {rs:List gk} {y:QcI},fl.Nodup->(∀b∈l,b∈SQ c p sg)->K9 c mo p l (fl,rs)=some y →
  fl <+: y.1/\∃new,y.2=rs++new/\zC new fl.length=some y.1.length/\new.map (·.1)=l.map (·.1)/\∀r∈new,SR c y.1 p r
 | [],fl,rs,y,_,_,e=>by
  cases e;exact#[List.prefix_rfl,[],Wp,rfl,rfl,λr d=>by cases d]
 | a::l,fl,rs,y,nd,hl,e=>by
  rw[K9]at e;split at e
  .cases e
  obtain⟨pn,pk⟩:=E3 h g sg a (hl a iB);have i:=K8 h pn pk;obtain⟨b1,b2,b3,o,n⟩:=LP nd QbQ;obtain⟨h1,new,h2,f,m,k⟩:=WH h g l (fl:=AW fl QbQ) b1 (λb j=>hl b (i3 _ j)) e;refine#[(ahn fl _).trans h1,(a.1,SJ c p QaP,oe fl QbQ)::new,by rw[h2,ka];rfl,?_,by rw[lx,lx,m],λr d=>?_]
  .rw[zC];by_cases hm:toN c p QaP∈fl
   .have e1:AW fl QbQ=fl:=by unfold AW;rw[cq hm]
    rw[e1]at f b2;rw[cq b2];exact f
   .have e1:oe fl QbQ=fl.length:=by unfold oe;rw[bW hm]
    have e2:(AW fl QbQ).length=fl.length+1:=by unfold AW;rw[bW hm,lj];rfl
    rw[e2]at f;rw[e1,bW (r8 _),cq rfl];exact f
  .obtain rfl|d:=fL.1 d
   .exact#[_,i,rfl,E4 h1 n]
   .exact k r d
structure TJ(c:CH)(mo:Nat)(s:GS):Prop where
 met:xS s.rs 1=some s.fl.length
 rw:∀q∈s.rs,∃p,s.fl[Fh q]? = some p/\FC (q.2.map (·.1))/\∀r∈q.2,SR c s.fl p r
 p0:s.fl[0]? = some (Wt c)
 sp:(s.rs.map λq=>q.2.length).sum+s.sp=8*mo
theorem amG(h:c.Ok){s s':GS}(nd:s.fl.Nodup)(gd:∀p∈s.fl,Gd c p)(k:TJ c mo s)(hn:QoR)(e:QxY):TJ c mo s':=by
 unfold Np at e;have f:s.fl[n]? = some QeN:=by rw[km,kA hn];rfl
 have g:Gd c QeN:=gd _ (l4 f);generalize s.fl.getD n ([],[])=p at e g f;split at e
 .cases e
 rename_i w;obtain⟨y,e1,rfl⟩:=nq.1 e;obtain⟨h1,new,h2,u,i,t⟩:=WH h g (SQ c p sg) nd Qv8 e1;have e2:y.2=new:=h2;have en:Fh (qJ n sg,y.2)=n:=by unfold Fh qJ;exact ke n
 have v:new.length=(SQ c p sg).length:=by
  have:=congrArg List.length i
  rwa [cM,cM]at this
 have ks:=k.sp;refine#[?_,λq m=>?_,E4 h1 k.p0,?_]
 rotate_left 2
 .grind
 .rw[zE,k.met];show xS [(qJ n sg,y.2)] s.fl.length=_;rw[xS,en,cq hn,e2,u];rfl
 .obtain z|z:=i8.1 (m)
  .obtain⟨j,a,b,d⟩:=k.rw q z;exact#[j,E4 h1 a,b,λr l=>(d r l).mono h1]
  .cases lh.1 z;refine#[p,by rw[en];exact E4 h1 f,?_,by rw[e2];exact t];rw[e2,i];exact ahm c p sg
theorem WK{nb:Nat}:∀{l:At},(∀d∈l,o2 nb d)->gR nb l
 | [],_=>.nil
 | d::l,h=>by
  obtain⟨q,rfl,b⟩:=h d iB;obtain⟨qs,rfl,e⟩:=WK λx a=>h x Qee;refine#[q::qs,rfl,λbs c x a=>?_];obtain rfl|a:=fL.1 a
  .subst c;cases x<;>first|trivial|exact b|exact b.2
  .exact e bs c x a
def amH(h:c.Ok){fl:Do}{p:Pl}(g:Qes){r:gk}(k:SR c fl p r):∃(xs:List It) (bx:AT) (q:Pl),r.2.1=xs.map It.d/\Go c.es.length xs (p.1,p.2,List.replicate c.bs.length 0) (q.1,q.2,bx)/\fl[r.2.2]? = some q:=by
 obtain⟨b,hs,e1,e2⟩:=k;obtain⟨ch,⟨m,j⟩,a,f⟩:=g;rw[a]at hs;obtain⟨bx,_,xs,e,_,_,go,_⟩:=SG (bx:=List.replicate c.bs.length 0) h.k j m f hs sk (λl hl=>WK (h.i l hl)) (λl hl=>WK (h.o l hl)) λw hw=>WK (h.w w hw);refine#[xs,bx,toN c p b,?_,?_,e2]
 .rw[e1];unfold SJ;rw[a];exact e
 .unfold toN;rw[a];exact go
theorem amI(h:c.Ok){p:Pl}(g:Qes){x:QcI}{a:QdB}(k:FF c mo n x)(j:a∈SQ c p sg)(hw:¬ tI c mo p x a):FF c mo QaC QoQ/\x.1.length<=(r4 c p x a).1.length:=by
 obtain⟨nd,pk⟩:=E3 h g sg a j;have e:=K8 h nd pk;obtain⟨sl,d⟩:=Ws h g e;have f:=Th h e;obtain⟨b1,b2,b3,l,_⟩:=LP k.nd QbQ;have hl:(r4 c p x a).1.length=(AW x.1 QbQ).length:=rfl;refine#[#[b1,?_,λq b=>?_,?_,λr i=>?_],b3]
 .rw[hl];by_cases hm:toN c p QaP∈x.1
  .unfold AW;rw[cq hm];exact k.ln
  .have:=k.ln;have:x.1.length≠mo:=λz=>hw #[hm,z];lia
 .have b:q∈AW x.1 QbQ:=b;unfold AW at b;split at b
  .exact k.gd q b
  .obtain z|z:=i8.1 b
   .exact k.gd q z
   .cases lh.1 z;exact d
 .show(x.2++[_]).length=_;rw[lj,oP,k.rl]
 .obtain z|z:=i8.1 (show r∈x.2++[_] from i)
  .exact k.rw r z
  .cases lh.1 z;exact#[f]
theorem Lb{c:CH}(h:c.Ok){p:Pl}(g:Qes){mo:Nat}{sg:Str}:∀(l:Cn) {n:Nat} {x y:QcI},(∀b∈l,b∈SQ c p sg)->FF c mo n x->K9 c mo p l x=some y->FF c mo (n+l.length) y/\x.1.length<=y.1.length
 | [],n,x,y,_,k,e=>by
  cases e;simp_all
 | a::l,n,x,y,hl,k,e=>by
  rw[K9]at e;split at e
  .cases e
  rename_i hw;obtain⟨k1,k2⟩:=amI h g k (hl a Wp) hw;obtain⟨k3,d⟩:=Lb h g l (λb f=>hl b (i3 _ f)) k1 e;rw[show n+(a::l).length=n+1+l.length by simp;lia];exact#[k3,l6 k2 d]
def pM(hs:BA)(n j:Nat):List fB:=(List.range n).flatMap (λm=>hs.map (qJ m))++(hs.take j).map (qJ n)
def E5(hs:BA)(n:Nat){x:Str}(h:hs[j]? = some x):pM hs n j++[qJ n x]=pM hs n QU:=by
 unfold pM;rw[ka,Bs h,ky];rfl
def zF(hs:BA)(n:Nat):pM hs n hs.length=pM hs QaC 0:=by
 unfold pM;rw[mv,rb,zi,y6,List.flatMap_nil,ko,List.take_zero,List.map_nil,ko]
theorem aho{hs:BA}{m:Nat}{x:Str}(h:qJ m x∈pM hs n j):m<n/\x∈hs\/m=n/\x∈hs.take j:=by
 have inj:∀{a:Nat} {z:Str},qJ a z=qJ m x->a=m/\z=x:=λ{a z} e=>by
  injection e with e1 e2;injection e1 with e1;injection e2 with e2 _;injection e2 with e2;exact#[We,e2]
 obtain z|z:=i8.1 h
 .obtain⟨a,b,z⟩:=mI.1 z;obtain⟨w,hw,e⟩:=i9.1 z;obtain⟨rfl,rfl⟩:=inj e;exact .inl #[nk.1 b,hw]
 .obtain⟨w,hw,e⟩:=i9.1 z;obtain⟨rfl,rfl⟩:=inj e;exact .inr #[rfl,hw]
theorem Jd{hs:BA}(nd:hs.Nodup)(n:Nat){x:Str}(h:hs[j]? = some x):qJ n x∉pM hs n j:=λhm=>by
 obtain⟨z,_⟩|⟨_,z⟩:=aho hm
 .lia
 .obtain⟨i,hi,e⟩:=zp z;simp at hi;simp at e;have:=(Hk We nd).1 ((kA We).trans ((congrArg _ e).trans h.symm));lia
structure zG(c:CH)(mo:Nat)(hs:BA)(n j:Nat)(s:GS):Prop where
 nd:s.fl.Nodup
 ln:s.fl.length<=mo
 p0:0<s.fl.length
 gd:∀p∈s.fl,Gd c p
 ks:s.rs.map (·.1)=pM hs n j
 kd:(s.rs.map (·.1)).Nodup
 rw:∀q∈s.rs,q.2.length<=8*mo/\∀r∈q.2,FK c r
 sp:s.sp<=8*mo
 tj:TJ c mo s
theorem Tu(h:c.Ok){hs:BA}(i:hs.Nodup){s s':GS}(k:zG c mo hs n j s)(d:hs[j]? = some sg)(hn:QoR)(e:QxY):zG c mo hs n QU s'/\s.fl.length<=s'.fl.length:=by
 have tj:=amG h k.nd k.gd k.tj hn e;unfold Np at e;have f:Gd c QeN:=by
  rw[km,kA hn];exact k.gd _ (ri hn)
 generalize s.fl.getD n ([],[])=p at e f;split at e
 .cases e
 rename_i t;obtain⟨y,e1,rfl⟩:=nq.1 e;obtain⟨b,b2⟩:=Lb h f (SQ c p sg) Qv8 (n:=0) #[k.nd,k.ln,k.gd,rfl,Wp ] e1;have r:(s.rs++[(qJ n sg,y.2)]).map (·.1)=pM hs n QU:=by
  rw[ky,k.ks,<- E5 hs n d];rfl
 have sp:=k.sp;have bl:=b.rl;have p0:=k.p0;refine#[#[b.nd,b.ln,my p0 b2,b.gd,r,?_,λq l=>?_,?_,tj],b2]
 .rw[ky,ma];refine#[k.kd,Wp,λa g c m z=>?_];cases lh.1 m;rw[k.ks,z]at g;exact Jd i n d g
 .obtain z|z:=i8.1 (l)
  .exact k.rw q z
  .cases lh.1 z;exact#[by dsimp only;lia,b.rw]
 .show s.sp-y.2.length<=_;lia
def Ra(c:CH)(mo n:Nat):BA->GS->Option GS
 | [],s=>some s
 | sg::l,s=>(Np c mo s n sg).bind (Ra c mo n l)
theorem Lc(c:CH)(mo n:Nat):∀(a l:BA) (s:GS),Ra c mo n (a++l) s=(Ra c mo n a s).bind (Ra c mo n l)
 | [],l,s=>rfl
 | x::a,l,s=>by
  rw[nc,Ra,Ra];cases Np c mo s n x with
  | none=>rfl
  | some s'=>exact Lc c mo n a l s'
def tJ(c:CH)(mo:Nat)(hs:BA):Nat->Nat->GS->Option GS
 | 0,_,s=>some s
 | f+1,n,s=>if n<s.fl.length then(Ra c mo n hs s).bind (tJ c mo hs f QaC) else some s
def r2(c:CH)(mo:Nat):GS:=#[[Wt c],[],8*mo]
def Ld(c:CH)(mo:Nat)(hs:BA):Option GS:=tJ c mo hs mo 0 Qfk
structure WL(c:CH)(mo:Nat)(s:GS)(n:Nat)(sg:Str):Prop where
 ok:c.Ok
 nd:s.fl.Nodup
 ln:s.fl.length<=mo
 mo:mo<=100
 gd:∀p∈s.fl,Gd c p
 hn:n<s.fl.length
 key:qJ n sg∉s.rs.map (·.1)
 rl:s.rs.length<=10000
 sp:s.sp<=1000
def ahp(x:QdB):(v3 x).mZ=true:=by
 have e1:D.bC (x.1.map wB)=true:=eO QcP _;have e2:D.bC (x.2.map _)=true:=bu _;show(D.tup _).mZ=true;rw[D.mZ,D.bC,D.bC,D.mZ,D.mZ,e1,e2];rfl
def ac6{p:Pl}{l:Cn}{b:QdB}{x y:QcI}(a:l[j]? = some b)(d:Que)(hw:tI c mo p x b):K9 c mo p l y=none:=by
 have hl:=(md.1 a).1;have e:=by
  have h2:=wj j l;rw[u7 hl,(md.1 a).2]at h2;exact h2.symm
 rw[e,La,d];show K9 c mo p _ x=none;rw[K9,cq hw]
theorem ac7{p:Pl}{l:Cn}{a:QdB}{x y:QcI}(d:l[j]? = some a)(b:Que)(hw:¬ tI c mo p x a):K9 c mo p (l.take QU) y=some QoQ:=by simp_all [Bs,La,K9]
seal L3.c7 L3.Z9 L3.bU L3.cN L3.qW L3.GA L3.XW
noncomputable def aG(s:AT)(k:Int):Int:=if s.length=0 then k else s.getD (k % (s.length:Nat)).toNat 0 % 10 ^ (36:Int).toNat / QuG+k / (s.length:Nat)*k
theorem qK(s:AT)(h:0<=k):0<=aG s k:=by
 unfold aG;by_cases e:s.length=0
 .exact cq e▸h
 .rw[bW e];have t0:0<=k / s.length:=Int.ediv_nonneg h We;have m0:=mj (s.getD (k % s.length).toNat 0) (b:=10 ^ (36:Int).toNat) Wl;have:=Int.ediv_nonneg m0 (b:=1+k / s.length) We;have:=Int.mul_nonneg t0 h;lia
abbrev SV:=top 65
abbrev SW:=AT×Int
noncomputable abbrev SX:BA:=["script","k","turn"]
noncomputable def jl:SW->At:=λ(s,k)=>[.lst Qco,.int k]
def cU:SW->Prop:=λ(s,k)=>0<=k/\k<=100000/\s.length<=1000
def gX:SW->T:=λ(s,k)=>(.sh (.int (aG s k)):T)
structure fU(K:Frag)(mg:Bi)(CL:BM):Prop where
 cJ:mg "len" = none
 e9:mg "range" = none
 Je:mg "int" = none
 wR:mg "str" = none
 dz:mg "tuple" = none
 kH:mg "sorted" = none
 aq1:mg "max" = none
 cI:mg "list" = none
 jh:yG K QjM
 gS:bF K QjM "kinds"
 jm:bF K QjM "elders"
 wU:bF K QjM "starts"
 bY:yG K QdY
 cY:yG K Qfc
 wV:bF K QdY "boxes"
 G3:bF K Qfc "boxes"
 wW:bF K QdY "names"
 cZ:bF K QdY "tree"
 CJ:bF K QdY "ins"
 zH:bF K QdY "outs"
 dQ:bF K QdY "ways"
 CK:mg "enumerate" = none
 Ts:∃u,mg "SIGN" = some (.int 1 u)
 zI:∃u,mg "ROWS_FOR_A_FLAT" = some (.int 8 u)
 bf:yG K QdW
 iR:bF K QdW "chart"
 wX:bF K QdW "most"
 eU:bF K QdW "flats"
 cu:bF K Qfc "flats"
 jw:bF K QdW "places"
 pN:bF K QdW "rows"
 iX:bF K Qfc "rows"
 gC:bF K QdW "spare_rows"
 rO:mg "TooWide" = some QgI
 E6:Ks K QeG
 ud:∃u,mg "LEAF" = some (.int 0 u)
 vK:∃u,mg "ASKED" = some (.int 2 u)
 qL:∃u,mg "PICKED" = some (.int 3 u)
 Le:∃u,mg "HELD" = some (.int 4 u)
 To:∃u,mg "ASKS" = some (.int 2 u)
 Jf:∃u,mg "WAY" = some (.int 1 u)
 amK:mg "dict" = none
 zJ:∃u,mg "SOURCE" = some (.int 0 u)
 xT:mg "reversed" = none
 uf:∃u,mg "TARGET" = some (.int 4 u)
 SY:∃u,mg "MODE" = some (.int 5 u)
 ahq:∃u,mg "DEEDS" = some (.int 3 u)
 aq2:mg "any" = none
 G4:bF K Qfc "signs"
 G5:bF K Qfc "begin"
 aS:mg "isinstance" = none
 amL:mg "bool" = none
 aq3:mg "sum" = none
structure GD(N G:BA)(X:Cx)(CL:BM):Prop extends EL X N G,fU X.K X.mg CL
variable{X:Cx}{CL:BM}{b:Bx}
theorem amM(E:GD SX ["len"] X CL) :
  kC X CL b SV SX jl cU gX:=by
 rintro⟨s,k⟩ h;dsimp [gX]at h ⊢;obtain⟨k0,k1,hl⟩:=h;refine cg (dN (ak (bS (cM ..) E.cJ QP Qd)) ai).1 (λa=>?_) (λa=>aj ?_)
 .have e:s.length=0:=by
   lia
  apply aY Qbx;show T.sh _=T.sh _;unfold aG;rw[cq e]
 .have e:¬ s.length=0:=by
   lia
  have t0:0<=k / s.length:=Int.ediv_nonneg k0 We;have t1:k / s.length<=k:=Int.ediv_le_self _ k0;have b1:=mj k (b:=s.length) We;have b2:=mm k (b:=s.length) We;apply aE E.g Qam (dM QR (ak (bS (cM ..) E.cJ QP Qd)) (#[We,We]));refine aY (fh (ak (dM (ak (cD (bz QP (ak (cD QR (ak (bS (cM ..) E.cJ QP Qd)) We)) (fZ b1 b2)) (ak (RC ai ai #[Wl,Wl,Wl])) Wl)) (ak (fh ai Q2)) (#[We,We]))) (ak (A3 Q2 QR (.inr #[We,We])))) ?_;unfold aG;rw[bW e]
noncomputable def WM:FG SX ["script","k"] ["len"] (ao SV):=fG
def qN(s:AT):Int:=aG s 0 / 9 % 3
def amN(s:AT):0<=qN s/\qN s<3:=#[mj _ Wl,mm _ Wl]
noncomputable def Zc:AT:=[-1,0,1,1,0,4,4,0,7]
noncomputable def Zd:AT:=[-1,0,1,2,2,1,5,5,0]
def o7(s es:AT)(j:Nat):Int:=aG s Qde % (((bP es j).length:Int)+1)
theorem SA(s es:AT)(j:Nat):0<=o7 s es j/\o7 s es j<=((bP es j).length:Int):=by
 have a:=mj (aG s (1+j)) (b:=((bP es j).length)+1) We;have b:=mm (aG s (1+j)) (b:=((bP es j).length)+1) We;unfold o7;lia
def Rb(s:AT):Nat->AT
 | 0=>[-1]
 | j+1=>Rb s j++[Sq Qeg j (o7 s Qeg j).toNat]
def adb:mS [-1]:=#[λk a=>by
  have:=by simpa using a
  subst this;exact#[Int.le_refl _,Wl],λk a=>by simp at a]
theorem S6(s:AT):∀j,(Rb s j).length=j+1/\mS Qeg
 | 0=>#[rfl,adb]
 | j+1=>by
  obtain⟨h1,h2⟩:=S6 s j;refine#[by show(Rb s j++_).length=_;simp_all,?_];have a:=SA s Qeg j;exact h2.snoc h1.symm (KP We)
def Ow(es:AT):Bool:=(List.range es.length).all (λk=>decide (-1<=es.getD k 0)&&decide (es.getD k 0<(k:Int)))&&(List.range Q3).all (λk=>decide (es.getD QaZ 0=(k:Int)) || decide (es.getD QaZ 0∈bP es k))
theorem ahr(h:Ow es=true):mS es:=by
 unfold Ow at h;rw[l9,nr,nr]at h;refine#[λk a=>?_,λk a=>?_]
 .have:=h.1 k (nk.2 a);simpa using this
 .have:=h.2 k (nk.2 We);simpa using this
def lg(s:AT)(n:Nat):AT:=if 0<qN s then(if qN s=1 then Zc else Zd).take n else Rb s Qd5
theorem WN(s:AT)(h1:1<=n)(c:n<=9):(lg s n).length=n/\mS (lg s n):=by
 unfold lg;split
 .have:n=1\/n=2\/n=3\/n=4\/n=5\/n=6\/n=7\/n=8\/n=9:=by lia
  split<;>obtain rfl|rfl|rfl|rfl|rfl|rfl|rfl|rfl|rfl:=this<;>exact#[ rfl,ahr (rfl)]
 .obtain⟨a,b⟩:=S6 s Qd5;lia
theorem Jg{l:Qaf}{k:Nat}(h:k<=l.length):cutD l none (some (k:Int))=l.take k:=by
 unfold cutD;have e1:HT.GK l.length 0 none=0:=rfl;have e2:HT.GK l.length l.length (some k)=k:=by
  unfold HT.GK;simp;lia
 simp_all
abbrev E7:=top 67
abbrev E8:=AT×Nat
noncomputable abbrev E9:BA:=["script","many","style","elders","depths","k","at","step"]
noncomputable def rP:E8->At:=λ(s,n)=>[.lst Qco,.int n]
def nV:E8->Prop:=λ(s,n)=>1<=n/\n<=9/\s.length<=1000
def rQ:E8->T:=λ(s,n)=>(.lst (((lg s n).map .int).map T.sh):T)
structure ade(X:Cx)(CL:BM):Prop extends EL X E9 ["_law_cell","range"],fU X.K X.mg CL where
 d8:Fc X CL "_law_cell" 1 2 jl cU gX
theorem adf(E:ade X CL) :
  kC X CL b E7 E9 rP nV rQ:=by
 rintro⟨s,n⟩ h;dsimp only [nV,rP,rQ]at h ⊢;obtain⟨n1,v,hs⟩:=h;refine aE E.g Qam (aK (cD (ak (dM (ak (c_ ((s,0)) E.d8 Qd QcM (by exact(#[We,We,hs])) rfl)) ai #[Wl,Wl])) ai Wl) (t2:=.sh (.int (qN s))) rfl) ?_;obtain⟨J,I⟩:=amN s;refine cg (wK Q2 ai).1 (λa=>?_) (λa=>aj ?_)
 .have a:=l3 a;have G:wg [D.lst (Zc.map .int),.lst (Zd.map .int)] (qN s-1)=some (.lst ((if qN s=1 then Zc else Zd).map .int)):=by
   have:qN s=1\/qN s=2:=by lia
   obtain e|e:=this
   .rw[cq e,e];rfl
   .rw[bW We,e];rfl
  have p:T.fC (.lst [.lst ((Zc.map D.int).map T.sh),.lst ((Zd.map D.int).map T.sh)])=.lst [D.lst (Zc.map .int),.lst (Zd.map .int)]:=by
   rw[T.fC,T.dB,T.dB,T.dB,bT,bT]
  have H:n<=((if qN s=1 then Zc else Zd).map D.int).length:=by
   split<;>exact v
  refine aY (yQ (bz (sY (Vu (dF (aH (dF (VD) aN) (aH (dF (VD) aN) bM)) aN)) p) QwC G) (bu _) Dp (Dq QR)) ?_;rw[Jg H];unfold lg;rw[cq a];simp[xa]
 have a:=nt a;show c7 X CL b _ _ {nx:=_,rt:=λF _=>F=T.lst _,bk:=_,ct:=_};rw[show lg s n=Rb s Qd5 by unfold lg;rw[bW a]];refine aE E.g Qas Qk5 ?_;refine aE E.g Qal QyA ?_;refine eS E.g Qau (λj U=>∃k f c,U=[some _,some _,some _,some (.lst (((Rb s j).map .int).map T.sh)),some (.lst (((YH Qeg QU).map .int).map T.sh)),k,f,c])
  (Iz E.e9 ai QR We Q1) #[_,_,_,rfl] (by rintro j U ⟨_,_,_,rfl⟩;exact i5 rfl) ?turn ?fin
 case turn=>
  rintro j d U y ⟨k,f,c,rfl⟩;obtain⟨rfl,L⟩:=gF y;obtain⟨hl,a⟩:=S6 s j;have w:=SA s Qeg j;have r:Rb s QU=Rb s j++[Sq Qeg j _]:=rfl;show c7 X CL b _ _ {nx:=λU=>∃k f c,U=[_,_,_,some _,some _,k,f,c],rt:=_,bk:=_,ct:=_};rw[r];generalize B:Rb s j=es at hl a w ⊢;have l:=a.1;have C:(YH es QU).length=j+1:=by simp[YH]
  have M:((bP es (j:Int)).length:Nat)<=es.length+1:=zg _ _ _;have t:(YH es QU).getD (j:Int).toNat 0=((bP es (j:Int)).length:Int):=by
   exact S1 es We
  refine aE E.g QaR (aK (pG Qac ai) (congrArg QlW (show Qde-1=j by lia))) ?_;have o:aG s Qde % ((YH es QU).getD (j:Int).toNat 0+1)=o7 s es j:=by rw[t];rfl
  refine eS E.g QbS (λi U=>∃c,U=[some _,some _,some _,some _,some _,some _,some (.sh (.int (Sq es j i))),c])
   (eo E.e9 (sY (ak (cD (ak (c_ ((s,1+(j:Int))) E.d8 Qd Qyw (by exact(#[We,We,hs])) rfl)) (ak QrX) ((by rw[t];lia)))) (congrArg D.int o)) We Q1) #[_,rfl] (by rintro j U ⟨_,rfl⟩;exact i5 rfl) ?zK ?fin2
  case zK=>
   rintro i d U hi ⟨c,rfl⟩;obtain⟨rfl,A⟩:=gF hi;obtain⟨⟨x0,K⟩,u⟩:=OV l QU (m:=(j:Int)) (n:=i) We We We We;refine aE E.g QaR (aK (eG (bz Qbz QaS Qd4) rfl) (congrArg QlW u)) QlX
  case fin2=>
   rintro U ⟨c,rfl⟩;have e0:(b9 0 (o7 s es j).toNat).length=(o7 s es j).toNat:=by simp[b9]
   rw[e0];have q:0<=Sq es j (o7 s es j).toNat/\Sq es j (o7 s es j).toNat<es.length:=by
    rcases KP (es:=es) (m:=(j:Int)) (n:=(o7 s es j).toNat) We with z|z
    .rw[z];lia
    .have:=bI l We We z;lia
   generalize Sq es j _=x at q ⊢;refine ja (E.ll 3).1 rfl Qgt rfl WF ?_;have dx:(YH es QU).getD x.toNat 0=((bP es x).length:Int):=by
    have:=S1 es (n:=j+1) (i:=x.toNat) We;rw[this,show((x.toNat:Nat):Int)=x by lia]
   refine ja (E.ll 4).1 rfl (aK QrX (congrArg (λz=>T.sh (.int (z+1))) dx)) rfl WF (aj ?_);have e1:((es.map D.int).map T.sh)++[T.sh Qec]=((es++[x]).map D.int).map T.sh:=by simp
   have e2:(((YH es QU).map D.int).map T.sh)++[T.sh (.int (((bP es x).length:Int)+1))]=((YH Qea (j+1+1)).map D.int).map T.sh:=by
    rw[<- hl,acq l q.1 q.2];simp
   rw[e1,e2];exact#[_,_,_,rfl]
 case fin=>
  rintro U ⟨k,f,c,rfl⟩;refine aY QgC ?_;have e:(b9 1 ((n:Int)-1).toNat).length=n-1:=by simp[b9]
  rw[e]
noncomputable def Jh:FG E9 ["script","many"] ["_law_cell","range"] (ao E7):=fG
def rF(s:AT)(k:Nat):Str:=if 0<qN s then(["one","all"]:BA).getD (if (k:Int)=qN s-1 then 1 else 0) Str.empty else(["all","one","one"]:BA).getD (Qjr % 3).toNat Str.empty
def kE(s es:AT)(k:Nat):Str:=if (k:Int)∈es then rF s k else "leaf"
def Bu(s es:AT)(n:Nat):BA:=(List.range n).map (kE s es)
def Lf(s es:AT)(n:Nat):(Bu s es n).length=n:=by simp[Bu]
def Sv(s es:AT){k:Nat}(h:k<n):(Bu s es n).getD k Str.empty=kE s es k:=by
 unfold Bu;rw[km,k4,pj h];rfl
theorem amO(s:AT)(k:Nat):rF s k="all" \/ rF s k="one":=by
 unfold rF;split
 .split
  .exact .inl rfl
  .exact .inr rfl
 .have:(Qjr % 3).toNat=0\/(Qjr % 3).toNat=1\/(Qjr % 3).toNat=2:=by lia
  obtain e|e|e:=this
  .rw[e];exact .inl rfl
  .rw[e];exact .inr rfl
  .rw[e];exact .inr rfl
def Pd(s es:AT)(k:Nat):((k:Int)∈es/\(kE s es k="all" \/ kE s es k="one"))\/((k:Int)∉es/\kE s es k="leaf"):=by
 unfold kE;split
 .rename_i h;exact .inl #[h,amO s k]
 .rename_i h;exact .inr #[h,rfl]
def WO(s es:AT):LL Qcn es:=λk a e=>by
 rw[Sv s es a]at e;obtain⟨h,_⟩|⟨_,e2⟩:=Pd s es k
 .exact aml h
 .rw[e2]at e;exact absurd e Wi
theorem adh(s es:AT):∀k:Nat,k<es.length->(aX Qcn k=true/\bK Qcn k=false/\au Qcn k=false/\iO es k=[])\/(aX Qcn k=false/\bK Qcn k=true/\au Qcn k=false)\/(aX Qcn k=false/\bK Qcn k=false/\au Qcn k=true):=λk c=>by
 unfold aX bK au;rw[ke,Sv s es c];obtain⟨_,e|e⟩|⟨a,e⟩:=Pd s es k
 .rw[e];exact .inr (.inr #[ rfl,rfl,(rfl) ])
 .rw[e];exact .inr (.inl #[ rfl,(rfl),rfl ])
 .rw[e];refine .inl #[ (rfl),rfl,rfl,?_];refine MO.2 λx b=>a ?_;have d:=lM b;rw[<- d.2.2,km,kA We];simp
abbrev Lg:=top 68
abbrev Lh:=AT×AT
noncomputable abbrev Li:BA:=["script","elders","style","kinds","k","kind"]
noncomputable def Bv:Lh->At:=λ(s,es)=>[.lst Qco,.lst Qbn]
def vN:Lh->Prop:=λ(s,es)=>es.length<=900/\s.length<=1000
def Bw:Lh->T:=λ(s,es)=>(.lst (((Bu s es es.length).map .str).map T.sh):T)
structure ahs(X:Cx)(CL:BM):Prop extends EL X Li ["_law_cell","range","len","int"],fU X.K X.mg CL where
 d8:Fc X CL "_law_cell" 1 2 jl cU gX
theorem aht(E:ahs X CL) :
  kC X CL b Lg Li Bv vN Bw:=by
 rintro⟨s,es⟩ h;obtain⟨hl,hs⟩:=h;refine aE E.g Qam (aK (cD (ak (dM (ak (c_ ((s,0)) E.d8 Qd QcM ((#[We,We,hs])) rfl)) ai #[Wl,Wl])) ai Wl) rfl) ?_;apply aE E.g Qas Qa8;refine eS E.g Qal (λj U=>∃i c,U=[some _,some _,some QmT,some Qlb,i,c])
  (eo E.e9 (ak (bS (cM ..) E.cJ QR Qaa)) We Q1) #[_,_,rfl] (by rintro j U ⟨_,_,rfl⟩;exact i5 rfl) ?turn ?fin
 case turn=>
  rintro j d U k ⟨i,c,rfl⟩;obtain⟨rfl,o⟩:=gF k;rw[mT];have n:=Lf s es j;have m:∀x,x=kE s es j->((Bu s es j).map D.str).map T.sh++[T.sh Qbl]=((Bu s es QU).map D.str).map T.sh:=λx e=>by
   subst e;simp[Bu,rb]
  refine aE E.g Qau (eG (bz Qs2 (ak (cD (ak (fh (ak (dM (ak (c_ ((s,(j:Int))) E.d8 Qd Qgi ((#[We,We,We])) rfl)) ai #[Wl,Wl])) Qai)) ai Wl)) (fq (f:=D.str) (l:=["all","one","one"]) Str.empty Qkp Qkq)) rfl) ?_;refine tU (λU=>U=[some QeS,some Qgs,some QmT,some Qlb,some QxZ,some (.sh (.str (rF s j)))]) (wK Q2 ai).1 (λa=>?_) (λa=>?_) ?_
  .have a:=l3 a;refine aE E.g Qau (aK (eG (bz (ds:=(["one","all"]:BA).map _) QvC (ak (afP E.Je (ak ((dN Qai QwC).2)) Qak)) (fq Str.empty (by split<;>lia) (by show(if _ then 1 else 0)<(2:Int);split<;>lia))) rfl) ?_) Qfx;unfold rF;rw[cq a];by_cases e:j=qN s-1
   .rw[cq e,cq (l5 e)];rfl
   .rw[if_neg e,if_neg (by simpa using e)];rfl
  .have a:=nt a;apply aj;unfold rF;rw[bW a];rfl
  rintro U rfl;refine tU (λU=>U=[some QeS,some Qgs,some QmT,some Qlb,some QxZ,some (.sh (.str (kE s es j)))]) (vC Qai QR rfl rfl).1 (λa=>?_) (λa=>?_) ?_
  .have e:=by
    rw[u3]at a;exact nt a
   exact show kE s es j="leaf" by unfold kE;rw[bW e]▸aE E.g Qau dJ Qfx
  .have e:=by
    rw[HA]at a;exact l3 a
   exact show kE s es j=rF s j by unfold kE;rw[cq e]▸aj rfl
  rintro U rfl;refine ja (E.ll 3).1 rfl QbP rfl WF (aj ?_);rw[m _ rfl];exact#[_,_,rfl]
 case fin=>
  rintro U ⟨i,c,rfl⟩;have e:(b9 0 (es.length:Int).toNat).length=es.length:=by simp[b9]
  rw[e];exact aY QgC rfl
noncomputable def Pk:FG Li ["script","elders"] ["_law_cell","range","len","int"] (ao Lg):=fG
abbrev rR:=top 69
abbrev xU:=AT×Int
noncomputable abbrev xV:BA:=["elders","mood"]
def kI:xU->At:=λ(es,m)=>[.lst Qbn,.int m]
def eB:xU->Prop:=λ(es,m)=>es.length<=1000
def kJ:xU->T:=λ(es,m)=>(.lst (((iO es m).map .int).map T.sh):T)
structure S7(X:Cx)(CL:BM):Prop extends EL X xV ["range","len"],fU X.K X.mg CL where
 adi:GQ X "elders"
 S8:GQ X "mood"
theorem S9(E:S7 X CL) :
  kC X CL b rR xV kI eB kJ:=by
 rintro⟨es,m⟩ h;dsimp [eB]at h ⊢;refine aY (oN (p:=λd=>decide QuI) (g:=T.sh) (cj (.cons (E.ll 0).1 (.inl E.adi) QrH) Wi) E.g.calm
  (eo E.e9 (ak (bS (cM ..) E.cJ QP Q1)) We Qd) QaB (λC s0 e f0 a d hd=>?xM) (mi (bZ (by simp[b9];lia)))) ?eq
 case xM=>
  obtain⟨i,hi,rfl⟩:=i9.1 hd;have c:=by simpa using hi
  exact#[(dN (bz (iH 1) (jR 0) (fZ (show 0<=0+(i:Int) by lia) (show 0+(i:Int)<es.length by lia))) (iH 2)).1,λ_=>v_ (C9 0)]
 case eq=>
  apply congrArg _;unfold b9 iO;rw[p3,kc,kc,kc];have e1:((λd=>decide QuI)∘λi:Nat=>D.int (0+i))=λi=>decide (es.getD i 0=m):=by
   funext i;show decide (es.getD (0+(i:Int)).toNat 0=m)=_;rw[mT,ke]
  rw[e1];congr 1;funext i;show T.sh Qbs=T.sh _;rw[mT]
def ug:Q7 (ao rR) ([("elders",.cell),("mood",.cell),("range",bB),("len",bB)])=true:=by decide +kernel
noncomputable def Pn:cW xV ["elders","mood"] (ao rR):=iW
def Ze(s es:AT)(ks:BA)(base:Int)(k:Nat):Int:=if ks.getD k Str.empty="one" then(iO es k).getD (aG s (base+k) % ((iO es k).length:Nat)).toNat 0 else -1
def WQ(s es:AT)(ks:BA)(base:Int)(n:Nat):AT:=(List.range n).map (Ze s es ks base)
def WR(s es:AT)(ks:BA)(base:Int)(n:Nat):(WQ s es ks base n).length=n:=by simp[WQ]
def amP(s es:AT)(ks:BA)(base:Int){k:Nat}(h:k<n):(WQ s es ks base n).getD k 0=Ze s es ks base k:=by
 unfold WQ;rw[km,k4,pj h];rfl
theorem ahu{s:AT}{base:Int}{k:Nat}(c:LL ks es)(a:Qcf)(e:ks.getD k Str.empty="one"):(WQ s es ks base es.length).getD k 0∈iO es k:=by
 rw[amP s es ks base a];unfold Ze;rw[cq e];have d:=ze.2 (c k a e);have f:=mm (aG s (base+k)) (b:=((iO es k).length)) We;simp_all
abbrev Fb:=top 70
abbrev Fd:=AT×AT×BA×Int
noncomputable abbrev Fe:BA:=["script","elders","kinds","base","chosen","k","near"]
noncomputable def xW:Fd->At:=λ(s,es,ks,base)=>[.lst Qco,.lst Qbn,.lst Qcu,.int base]
def rS:Fd->Prop:=λ(s,es,ks,base)=>es.length<=900/\s.length<=1000/\ks.length=es.length/\LL ks es/\0<=base/\base<=5000
def xX:Fd->T:=λ(s,es,ks,base)=>(.lst (((WQ s es ks base es.length).map .int).map T.sh):T)
structure adj(X:Cx)(CL:BM):Prop extends EL X Fe ["range","len","_law_inner","_law_cell"],fU X.K X.mg CL where
 lq:Fc X CL "_law_inner" 1 2 kI eB kJ
 d8:Fc X CL "_law_cell" 1 2 jl cU gX
theorem adk(E:adj X CL) :
  kC X CL b Fb Fe xW rS xX:=by
 rintro⟨s,es,ks,base⟩ h;obtain⟨hl,hs,q,f,r,b1⟩:=h;apply aE E.g Qal Qa8;refine eS E.g Qau (λj U=>∃o o',U=[some _,some _,some _,some _,some (.lst (((WQ s es ks base j).map .int).map T.sh)),o,o'])
  (eo E.e9 (ak (bS (cM ..) E.cJ QR Q1)) We Qd) #[_,_,rfl] (by rintro j U ⟨_,_,rfl⟩;exact i5 rfl) ?turn ?fin
 case turn=>
  rintro j d U i ⟨o,o',rfl⟩;obtain⟨rfl,p⟩:=gF i;rw[mT];have t:=WR s es ks base j;have n:((iO es j).map D.int).length=(iO es j).length:=by simp
  have c:∀x,x=Ze s es ks base j->((WQ s es ks base j).map D.int).map T.sh++[T.sh Qec]=((WQ s es ks base QU).map D.int).map T.sh:=λx e=>by
   subst e;simp[WQ,rb]
  apply aE E.g QaR (c_ ((es,(j:Int))) E.lq Qaa (ah QR Qne) ((by dsimp [eB];lia)) (aP _));refine cg (cH (bz Q2 Qac QlY) bH).1 (λa=>?_) (λa=>?_)
  .have e:ks.getD j _="one":=l3 a;have m:=ze.2 (f j We e);have l:=mj (aG s (base+j)) (b:=((iO es j).length)) We;have k:=mm (aG s (base+j)) (b:=((iO es j).length)) We;refine ja (E.ll 4).1 rfl (eG (bz QdR (ak (cD (ak (c_ ((s,base+j)) E.d8 Qak (ah QP (ah (ak (fh Qad Qac)) aA)) ((#[We,We,We])) rfl)) (ak (bS (n) E.cJ QdR Q1)) We)) (fZ l k)) rfl) rfl WF (aj (aj ?_));rw[c _ (by unfold Ze;rw[cq e])];exact#[_,_,rfl]
  .have e:¬ ks.getD j _="one":=nt a;refine ja (E.ll 4).1 rfl (iD ai) rfl WF (aj (aj ?_));rw[c _ (by unfold Ze;rw[bW e])];exact#[_,_,rfl]
 case fin=>
  rintro U ⟨o,o',rfl⟩;have e:(b9 0 (es.length:Int).toNat).length=es.length:=by simp[b9]
  rw[e];exact aY QgD rfl
noncomputable def Ji:FG Fe ["script","elders","kinds","base"] ["range","len","_law_inner","_law_cell"] (ao Fb):=fG
noncomputable def Lm:Ch:=(List.range 26).map (· + 97)
def Pp:("abcdefghijklmnopqrstuvwxyz":Str).cps.toList=Lm:=by decide +kernel
def wY(k:Int):Str:=#[(List.toArray [Lm.getD k.toNat 0])]
noncomputable def sI(k:Int):Str:=toString k
def vw(s:AT)(k:Int):Str:=([wY Qnq++sI k,wY Qnq++sI k++wY QwD,wY Qnq++wY QwD++sI k]:BA).getD (aG s 60 % 3).toNat Str.empty
abbrev Tc:=top 72
abbrev Td:=AT×Int
noncomputable abbrev Te:BA:=["script","k","cell","letters","one","two"]
noncomputable def zL:Td->At:=λ(s,k)=>[.lst Qco,.int k]
def uh:Td->Prop:=λ(s,k)=>s.length<=1000/\0<=k/\k<=8
def um:Td->T:=λ(s,k)=>(.sh (.str (vw s k)):T)
structure amQ(X:Cx)(CL:BM):Prop extends EL X Te ["_law_cell","str"],fU X.K X.mg CL where
 d8:Fc X CL "_law_cell" 1 2 jl cU gX
theorem amR(E:amQ X CL) :
  kC X CL b Tc Te zL uh um:=by
 rintro⟨s,k⟩ h;dsimp [um]at h ⊢;obtain⟨hs,f,n⟩:=h;refine aE E.g Qam (c_ ((s,60)) E.d8 Qd QcM ((#[We,We,hs])) rfl) ?_;rw[show gX _=T.sh _ from rfl];have c0:=qK s (k:=60) We;unfold vw;generalize aG s 60=c at c0 ⊢;apply aE E.g Qas dJ;have hl:Lm.length=26:=by decide +kernel
 have d:=λm=>mj m (show 26≠0 by decide);have e:∀m,(wY m).length=1:=λ_=>rfl;have a:(sI k).length=1/\k.natAbs.log2<1920:=by
  have:k=0\/k=1\/k=2\/k=3\/k=4\/k=5\/k=6\/k=7\/k=8:=by lia
  obtain rfl|rfl|rfl|rfl|rfl|rfl|rfl|rfl|rfl:=this<;>exact#[Wi,Wi]
 apply aE E.g Qal (aK (X1 Qad (ak (cD (ak (dM Q2 ai #[Wl,Wl])) ai Wl)) Wi (by rw[Pp];exact YG 0 (d _) (by rw[hl];lia))) (t2:=.sh (.str (wY _))) rfl);refine aE E.g Qau (aK (X1 Qad (ak (cD (ak (dM Q2 ai #[Wl,Wl])) ai Wl)) Wi (by rw[Pp];exact YG 0 (d _) (by rw[hl];lia))) (t2:=.sh (.str (wY _))) rfl) ?_;have h1:=e (c / 3 % 26);have h2:=e (c / 78 % 26);generalize wY _=one at h1 ⊢;generalize wY _=two at h2 ⊢;have j:(one++sI k).length=2:=by rw[str_len,h1,a.1]
 have i:(one++two).length=2:=by rw[str_len,h1,h2]
 refine aY (eG (bz (bR (fY (aq (xF Qai Qls ((by rw[l7];show one.length+(sI k).length<=_;lia))) (aq (xF (ak (xF Qai Qls ((by rw[l7];show one.length+(sI k).length<=_;lia)))) Qac ((by rw[l7];show(one++sI k).length+two.length<=_;lia))) (aq (xF (ak (xF Qai Qac ((by rw[l7];lia)))) Qls ((by rw[l7];show(one++two).length+(sI k).length<=_;lia))) aV))) aN)) (ak (cD Q2 ai Wl)) (fq (l:=[one++sI k,one++sI k++two,one++two++sI k]) _ Qkp Qkq)) rfl) rfl
noncomputable def WT:FG Te ["script","k"] ["_law_cell","str"] (ao Tc):=fG
noncomputable def Pq(c:Int):Int:=if c % 4=1 then c / 4 % (2*10 ^ (30:Int).toNat-1)-(10 ^ (30:Int).toNat-1) else c / 4 % 7-3
abbrev Ff:=top 73
abbrev Fg:=Int
noncomputable abbrev Fi:BA:=["cell"]
noncomputable def rT:Fg->At:=λa=>[.int a]
def rV:Fg->Prop:=λa=>True
def rW:Fg->T:=λa=>(.sh (.int (Pq a)):T)
def adn(E:GD Fi [] X CL) :
  kC X CL b Ff Fi rT rV rW:=by
 intro a h;refine cg (dN (ak (cD QP ai Wl)) ai).1 (λc=>?_) (λc=>aj ?_)
 .apply aY (pG (ak (cD (ak (dM QP ai #[Wl,Wl])) (ak (pG (ak (A3 ai (ak (RC ai ai #[Wl,Wl,Wl])) (.inl #[Wl,Wl]))) ai)) Wl)) (ak (pG (ak (RC ai ai #[Wl,Wl,Wl])) ai)));show T.sh _=T.sh _;unfold Pq;rw[cq (l3 c)]
 .apply aY (pG (ak (cD (ak (dM QP ai #[Wl,Wl])) ai Wl)) ai);show T.sh _=T.sh _;unfold Pq;rw[bW (nt c)]
noncomputable def Jj:FG Fi ["cell"] [] (ao Ff):=fG
def CM(c:Int)(n:Nat):D:=.tup [.int QuJ,.int (Pq Qdn)]
abbrev Tf:=top 74
abbrev Tg:=Int×Nat
noncomputable abbrev Ti:BA:=["cell","boxes"]
noncomputable def uo:Tg->At:=λ(c,n)=>[.int c,.int n]
def uq:Tg->Prop:=λ(c,n)=>n<=1000
def ur:Tg->T:=λ(c,n)=>(.sh (.tup [.int QuJ,.int (Pq Qdn)]):T)
structure amS(X:Cx)(CL:BM):Prop extends EL X Ti ["_law_number"],fU X.K X.mg CL where
 Fj:Fc X CL "_law_number" 1 1 rT rV rW
theorem amT(E:amS X CL) :
  kC X CL b Tf Ti uo uq ur:=by
 rintro⟨c,n⟩ h;dsimp only [uq,uo,ur]at h ⊢;exact aY (cK (aq (pG (ak (cD QP Qnr We)) ai) (aq (c_ Qdn E.Fj Qd (ah (ak (dM QP ai #[Wl,Wl])) aA) (trivial) rfl) aV)) aN) rfl
noncomputable def WU:FG Ti ["cell","boxes"] ["_law_number"] (ao Tf):=fG
def Pr(n m:Nat)(c:Int):D:=
 if c % 3=1 then .tup [.str ((["open","shut"]:BA).getD (c / 3 % 2).toNat Str.empty),.int Qv9]
 else .tup [.str ((["<","<=","=","!="]:BA).getD (c / 3 % 4).toNat Str.empty),CM Qp0 n,CM Qp1 n]
def Zf(s:AT)(q:Int)(m n k:Nat):D:=Pr n m Qxg
def Jk(s:AT)(q:Int)(m n:Nat):At:=(List.range (aG s q % 3).toNat).map QjI
def Pu(n m:Nat)(c:Int):(Pr n m c).mZ=true:=by
 unfold Pr;split<;>rfl
def xY(s:AT)(q:Int)(m n:Nat):D.bC (Jk s q m n)=true:=eO QuK _
abbrev Tj:=top 76
abbrev Tp:=AT×Int×Nat×Nat
noncomputable abbrev Tq:BA:=["script","at","many","boxes","asks","k","cell","mark"]
def Fl:Tp->At:=λ(s,q,m,n)=>[.lst Qco,.int q,.int m,.int n]
def zM:Tp->Prop:=λ(s,q,m,n)=>s.length<=1000/\0<=q/\q<=90000/\n<=1000/\1<=m
def Fo:Tp->T:=λ(s,q,m,n)=>(.sh (.tup (Jk s q m n)):T)
structure amU(X:Cx)(CL:BM):Prop extends EL X Tq ["range","_law_cell","_law_term","tuple"],fU X.K X.mg CL where
 d8:Fc X CL "_law_cell" 1 2 jl cU gX
 Fp:Fc X CL "_law_term" 2 2 uo uq ur
theorem amV(E:amU X CL) :
  kC X CL b Tj Tq Fl zM Fo:=by
 rintro⟨s,q,m,n⟩ h;obtain⟨hs,t,q1,hn,hm⟩:=h;apply aE E.g Qal Qa8;refine eS E.g Qau (λj U=>∃p o i,U=[some _,some _,some _,some _,some (.lst (((List.range j).map QjI).map T.sh)),p,o,i])
  (eo E.e9 (ak (cD (ak (c_ ((s,q)) E.d8 Q1 QeK ((#[t,We,hs])) rfl)) ai Wl)) ((show -(2 ^ 62)<=aG s q % 3/\aG s q % 3<2 ^ 62 by lia)) Qd) #[_,_,_,rfl] (by rintro j U ⟨_,_,_,rfl⟩;exact i5 rfl) ?turn ?fin
 case turn=>
  rintro j d U v ⟨p,o,i,rfl⟩;obtain⟨rfl,y⟩:=gF v;have u:j<3:=by lia
  rw[mT];have w:=qK s (k:=q+1+j) We;refine aE E.g QaR (aK (c_ ((s,q+1+j)) E.d8 Q1 (ah QP (ah (ak (fh Qnr Qac)) aA)) ((#[We,We,hs])) rfl) (t2:=.sh _) rfl) ?_;have r:∀x,x=Zf s q m n j->((List.range j).map QjI).map T.sh++[T.sh x]=((List.range QU).map QjI).map T.sh:=λx e=>by
   subst e;simp[rb]
  have hd:Zf s q m n j=Pr n m _:=rfl;generalize aG s _=c at w hd ⊢;refine cg (dN (ak (cD QaS ai Wl)) ai).1 (λa=>?_) (λa=>?_)
  .refine ja (E.ll 4).1 rfl (cK (aq (eG (bz QvC (ak (cD (ak (dM QaS ai #[Wl,Wl])) ai Wl)) (fq (f:=D.str) (l:=["open","shut"]) Str.empty Qkp Qkq)) rfl) (aq (cD (ak (dM QaS ai #[Wl,Wl])) Q2 We) aV)) aN) rfl WF (aj (aj ?_));rw[r _ (by rw[hd];unfold Pr;rw[cq (l3 a)])];exact#[_,_,_,rfl]
  .have a:=nt a;refine aE E.g QbS (eG (bz (bR (fY (aq dJ (aq dJ Qik)) aN)) (ak (cD (ak (dM QaS ai #[Wl,Wl])) ai Wl)) (fq (f:=D.str) (l:=["<","<=","=","!="]) Str.empty Qkp Qkq)) rfl) ?_;refine ja (E.ll 4).1 rfl (cK (aq QdS (aq (aK (c_ ((c / 12,n)) E.Fp Qaa (ah (ak (dM QaS ai #[Wl,Wl])) QeM) (hn) rfl) (t2:=.sh Qkm) rfl) (aq (aK (c_ ((c / 48,n)) E.Fp Qaa (ah (ak (dM QaS ai #[Wl,Wl])) QeM) (hn) rfl) (t2:=.sh Qkm) rfl) aV))) aN) rfl WF (aj (aj ?_));rw[r _ (by rw[hd];unfold Pr;rw[bW a])];exact#[_,_,_,rfl]
 case fin=>
  rintro U ⟨p,o,i,rfl⟩;apply aY (fM E.dz Qcp (eO QuK _) Qak);have e:(b9 0 (aG s q % 3).toNat).length=(aG s q % 3).toNat:=by simp[b9]
  rw[e];rfl
noncomputable def WV:FG Tq ["script","at","many","boxes"] ["range","_law_cell","_law_term","tuple"] (ao Tj):=fG
def zN(s:AT)(n:Nat)(c:Int):D:=
 if c % 4=1 then .tup [.str "call",.str Qwa]
 else if c % 4=2\/n=0 then .tup [.str "say",.str Qwa,CM Qkf n]
 else .tup [.str "put",.int (c / 4 % (n:Int)),CM Qkf n]
def Jl(s:AT)(q:Int)(n k:Nat):D:=zN s n Qxg
def iG(s:AT)(q:Int)(n:Nat):At:=(List.range (aG s q % 3).toNat).map Qj6
def Jm(s:AT)(n:Nat)(c:Int):(zN s n c).mZ=true:=by
 unfold zN;split
 .rfl
 .split<;>rfl
def jU(s:AT)(q:Int)(n:Nat):D.bC (iG s q n)=true:=eO QuL _
theorem Ft(s:AT)(q:Int)(n:Nat):(iG s q n).length<=2:=by
 unfold iG;simp;lia
abbrev Lj:=top 75
abbrev Lk:=AT×Int×Nat
noncomputable abbrev Lp:BA:=["script","at","boxes","deeds","k","cell","name"]
noncomputable def vO:Lk->At:=λ(s,q,n)=>[.lst Qco,.int q,.int n]
def lu:Lk->Prop:=λ(s,q,n)=>s.length<=1000/\0<=q/\q<=90000/\n<=1000
def vP:Lk->T:=λ(s,q,n)=>(.sh (.tup (iG s q n)):T)
structure ahv(X:Cx)(CL:BM):Prop extends EL X Lp ["range","_law_cell","_law_name","_law_term","tuple"],fU X.K X.mg CL where
 d8:Fc X CL "_law_cell" 1 2 jl cU gX
 Tr:Fc X CL "_law_name" 2 2 zL uh um
 Fp:Fc X CL "_law_term" 2 2 uo uq ur
theorem ahw(E:ahv X CL) :
  kC X CL b Lj Lp vO lu vP:=by
 rintro⟨s,q,n⟩ h;obtain⟨hs,p,q1,hn⟩:=h;apply aE E.g Qas Qa8;refine eS E.g Qal (λj U=>∃m l i,U=[some _,some _,some _,some (.lst (((List.range j).map Qj6).map T.sh)),m,l,i])
  (eo E.e9 (ak (cD (ak (c_ ((s,q)) E.d8 Q1 QeK (by exact(#[p,We,hs])) rfl)) ai Wl)) ((show -(2 ^ 62)<=aG s q % 3/\aG s q % 3<2 ^ 62 by lia)) Qd) #[_,_,_,rfl] (by rintro j U ⟨_,_,_,rfl⟩;exact i5 rfl) ?turn ?fin
 case turn=>
  rintro j d U t ⟨m,l,i,rfl⟩;obtain⟨rfl,v⟩:=gF t;rw[mT];have u:=qK s (k:=q+1+j) We;refine aE E.g Qau (aK (c_ ((s,q+1+j)) E.d8 Q1 (ah QP (ah (ak (fh Qnr Qai)) aA)) (by exact(#[We,We,hs])) rfl) (t2:=.sh _) rfl) ?_;have o:∀x,x=Jl s q n j->((List.range j).map Qj6).map T.sh++[T.sh x]=((List.range QU).map Qj6).map T.sh:=λx e=>by
   subst e;simp[rb]
  have hd:Jl s q n j=zN s n _:=rfl;generalize aG s _=c at u hd ⊢;have m0:=mj Qdn (show 4≠0 by decide);refine aE E.g QaR (aK (c_ ((s,c / 4 % 4)) E.Tr Qaa (ah QP (ah (ak (cD (ak (dM Qac ai #[Wl,Wl])) ai Wl)) aA)) (by exact(#[hs,m0,We])) rfl) rfl) ?_;refine cg (dN QwE ai).1 (λf=>?_) (λf=>?_)
  .refine ja (E.ll 3).1 rfl (cK (aq dJ (aq Qgt aV)) aN) rfl WF (aj (aj ?_));rw[o _ (by rw[hd];unfold zN;rw[cq (l3 f)])];exact#[_,_,_,rfl]
  .have f:=nt f;refine cg (gK (fE (dN QwE ai).1 (λw=>(eN (dN Q2 ai).1)))) (λr=>?_) (λr=>?_)
   .have a:c % 4=2\/n=0:=by
     lia
    refine ja (E.ll 3).1 rfl (cK (aq dJ (aq Qgt (aq (aK (c_ ((c / 16,n)) E.Fp Qak (ah (ak (dM Qac ai #[Wl,Wl])) QdT) (hn) rfl) (t2:=.sh Qkm) rfl) aV))) aN) rfl WF (aj (aj (aj ?_)));rw[o _ (by rw[hd];unfold zN;rw[bW f,cq a])];exact#[_,_,_,rfl]
   .have a:¬ (c % 4=2\/n=0):=by
     lia
    refine ja (E.ll 3).1 rfl (cK (aq dJ (aq (cD (ak (dM Qac ai #[Wl,Wl])) Q2 We) (aq (aK (c_ ((c / 16,n)) E.Fp Qak (ah (ak (dM Qac ai #[Wl,Wl])) QdT) (hn) rfl) (t2:=.sh Qkm) rfl) aV))) aN) rfl WF (aj (aj (aj ?_)));rw[o _ (by rw[hd];unfold zN;rw[bW f,bW a])];exact#[_,_,_,rfl]
 case fin=>
  rintro U ⟨m,l,i,rfl⟩;apply aY (fM E.dz Qbz (eO QuL _) QaL);have e:(b9 0 (aG s q % 3).toNat).length=(aG s q % 3).toNat:=by simp[b9]
  rw[e];rfl
noncomputable def Pw:FG Lp ["script","at","boxes"] ["range","_law_cell","_law_name","_law_term","tuple"] (ao Lj):=fG
def Fv(s:AT):Int:=aG s 36 % 9
def mw(s:AT)(m:Nat):AT:=sortI ((List.range (Fv s).toNat).map λ(k:Nat)=>aG s (37+(k:Int)) % (m:Int))
def Fw(es:AT)(src c:Int):Int:=if 1<c % 4 then(iO es QbN).getD (c / 4 % ((iO es QbN).length:Nat)).toNat 0 else c / 4 % (es.length:Nat)
def G6(s:AT)(c:Int):Prop:=c % 4=1\/aG s 36 / 9 % 5=1
instance(s:AT)(c:Int):Decidable (G6 s c):=by unfold G6;infer_instance
noncomputable def WW(c:Int):Str:=(["new","near","far"]:BA).getD (c % 3).toNat Str.empty
def G7(s es:AT)(n k:Nat)(src:Int):bN where
 src:=src
 sign:=vw s (aG s (200+12*(k:Int)) % Qgp)
 asks:=Jk s (200+12*(k:Int)+1) es.length n
 jc:=iG s Qxh n
 kf:=if G6 s Qox then -1 else Fw es src Qox
 mode:=if G6 s Qox then "new" else WW (aG s Qxi)
def zO(s es:AT)(n:Nat):List bN:=(List.range (mw s es.length).length).map λk=>G7 s es n k ((mw s es.length).getD k 0)
theorem Jo{s:AT}{m:Nat}(hm:1<=m)(h:x∈mw s m):0<=x/\x<m:=by
 obtain⟨k,_,rfl⟩:=i9.1 (jQ.1 h);exact#[mj _ We,mm _ We]
theorem Jp(s:AT)(m:Nat):(mw s m).length<=8:=by
 unfold mw;rw[kY,cM,m3];unfold Fv;lia
def ado(s es:AT)(n k:Nat)(src:Int):(f7 (G7 s es n k src)).mZ=true:=by
 show(true&&(true&&(D.bC (Jk _ _ _ _)&&(D.bC (iG _ _ _)&&QsK))))=true;rw[xY,jU];rfl
def Tt(s es:AT)(n:Nat):D.bC ((zO s es n).map f7)=true:=jr λd hd=>by
 obtain⟨w,hw,rfl⟩:=i9.1 hd;obtain⟨k,_,rfl⟩:=i9.1 hw;exact ado _ _ _ _ _
abbrev Lq:=top 77
abbrev Tv:=AT×AT×Nat
noncomputable abbrev Tw:BA:=["script","elders","boxes","many","count","names","ways","source","at","name","asks","deeds","cell","target","near","mode"]
noncomputable def zP:Tv->At:=λ(s,es,n)=>[.lst Qco,.lst Qbn,.int n]
def uv:Tv->Prop:=λ(s,es,n)=>s.length<=1000/\1<=es.length/\es.length<=900/\n<=1000
def zQ:Tv->T:=λ(s,es,n)=>(.lst (((zO s es n).map f7).map T.sh):T)
structure amW(X:Cx)(CL:BM):Prop extends EL X Tw ["len","_law_cell","sorted","range","_law_name","_law_asks","_law_deeds","_law_inner"],fU X.K X.mg CL where
 uw:GQ X "script"
 amX:GQ X "many"
 d8:Fc X CL "_law_cell" 1 2 jl cU gX
 Tr:Fc X CL "_law_name" 2 2 zL uh um
 amY:Fc X CL "_law_asks" 3 4 Fl zM Fo
 DH:Fc X CL "_law_deeds" 3 3 vO lu vP
 lq:Fc X CL "_law_inner" 1 2 kI eB kJ
theorem amZ(E:amW X CL) :
  kC X CL b Lq Tw zP uv zQ:=by
 rintro⟨s,es,n⟩ h;dsimp only [uv,zP,zQ]at h ⊢;obtain⟨hs,e0,e1,hn⟩:=h;refine aE E.g Qas (aK (bS (cM ..) E.cJ QR Qd) (t2:=.sh Qqt) rfl) ?_;refine aE E.g Qal (aK (cD (ak (c_ ((s,36)) E.d8 Q1 QcM (by dsimp only [cU];exact(#[We,We,hs])) rfl)) ai Wl) (t2:=.sh (.int (Fv s))) rfl) ?_;have R:=qK s (k:=62) We;refine aE E.g Qau (aK (fh ai (ak (cD (ak (c_ ((s,62)) E.d8 Q1 QcM (by dsimp only [cU];exact(#[We,We,hs])) rfl)) ai Wl))) (t2:=.sh (.int Qgp)) rfl) ?_;have k0:0<=Fv s:=mj (aG s 36) (show(9:Int)≠0 by decide);have k1:Fv s<9:=mm (aG s 36) (show(0:Int)<9 by decide);have N:=Jp s es.length;have I:∀{x:Int},x∈mw s es.length->0<=x/\x<es.length:=λh=>Jo e0 h;refine aE E.g QaR Qa8 ?_;have hit:(((b9 0 (Fv s).toNat).filter λ_=>true).map λd=>T.sh (.int (aG s (37+d.wL) % (es.length:Nat))))=((((List.range (Fv s).toNat).map λ(k:Nat)=>aG s (37+(k:Int)) % (es.length:Nat)).map D.int).map T.sh):=by
  rw[gM];unfold b9;rw[kc,kc,kc];refine nv λk _=>?_;show T.sh (.int (aG s (37+(0+(k:Int))) % _))=_;rw[mT];rfl
 refine eS E.g QbS (λj U=>∃G F B y v u t a r,U=[some QeS,some Qgs,some QbR,some QoE,some QmU,some QmV,some QkL,G,F,B,y,v,u,t,a,r])
  (dZ (gQ (ds:=(mw s es.length).map .int) (kZ E.kH (bR (aK (oN (p:=λ_=>true) (cj (.cons (E.ll 3).1 (.inl E.amX) QkX) Wi) E.g.calm (eo E.e9 Qai (We) Qak) QaB (λC s0 H0 f0 b' d hd=>?xM) (mi (bZ (by simp[b9];lia)))) (congrArg T.lst hit))) WF Qaa))) #[_,_,_,_,_,_,_,_,_,rfl] (by rintro j U ⟨_,_,_,_,_,_,_,_,_,rfl⟩;exact i5 rfl) ?turn ?fin
 case xM=>
  obtain⟨i,hi,rfl⟩:=i9.1 hd;have Ng:i<(Fv s).toNat:=by simpa using hi
  exact#[rfl,λ_=>(cD (ak (c_ ((s,37+Qdf)) (lK E.d8) Ba (ah (iH 2) Qs3) (by dsimp only [cU];exact(#[We,We,hs])) rfl)) (iH 1) We)]
 case turn=>
  rintro j d U O ⟨G,F,B,y,v,u,t,a,r,rfl⟩;obtain⟨src,rfl,Y,W,mH,_,_⟩:=jI O;obtain⟨x0,L⟩:=I W;have K:(mw s es.length).getD j 0=src:=by rw[km,Y];rfl
  have A:((((List.range j).map λk=>G7 s es n k ((mw s es.length).getD k 0)).map f7)).length=j:=by simp
  have M:∀x:D,x=f7 (G7 s es n j src)->((((List.range j).map λk=>G7 s es n k ((mw s es.length).getD k 0)).map f7).map T.sh)++[T.sh x]=((((List.range QU).map λk=>G7 s es n k ((mw s es.length).getD k 0)).map f7).map T.sh):=λx e=>by
   subst e;rw[<- K];simp[rb]
  refine aE E.g QdX (aK (fh ai (ak (A3 ai (ak (bS (A) E.cJ QdR Qd)) (.inl #[Wl,Wl])))) (t2:=.sh Qon) rfl) ?_;generalize hw:G7 s es n j src=w at M;have Z:vw s (aG s Qgg % Qgp)=w.sign:=by rw[<- hw];rfl
  have m0:=mj (aG s Qgg) (show(1+aG s 62 % 3:Int)≠0 by lia);have m1:=mm (aG s Qgg) (show(0:Int)<1+aG s 62 % 3 by lia);refine aE E.g (E.ll 9) (aK (c_ ((s,aG s Qgg % Qgp)) E.Tr QaL (ah QP (ah (ak (cD (ak (c_ ((s,200+12*(j:Int))) E.d8 Q1 (ah QP (ah Qo3 aA)) (by dsimp only [cU];exact(#[We,We,hs])) rfl)) Qac We)) aA)) (by dsimp only [uh];exact(#[hs,m0,We])) rfl) (t2:=.sh Qoo) (congrArg (λz=>T.sh (.str z)) Z)) ?_;have has:Jk s (200+12*(j:Int)+1) es.length n=w.asks:=by rw[<- hw];rfl
  have J:iG s (200+12*(j:Int)+4) n=w.jc:=by rw[<- hw];rfl
  refine aE E.g (E.ll 10) (aK (c_ (s,200+12*(j:Int)+1,es.length,n) E.amY QbF (ah QP (ah Qlg (ah Qad QdT))) (by dsimp only [zM];exact#[hs,We,We,hn,e0]) ((xY _ _ _ _))) (t2:=.sh Qop) (congrArg QsL has)) ?_;refine aE E.g (E.ll 11) (aK (c_ (s,200+12*(j:Int)+4,n) E.DH Qbq (ah QP (ah Qlg QdT)) (by dsimp only [lu];exact#[hs,We,We,hn]) (Qpx)) (t2:=.sh Qo4) (congrArg QsL J)) ?_;have P:=qK s (k:=200+12*(j:Int)+7) We;refine aE E.g (E.ll 12) (aK (c_ ((s,200+12*(j:Int)+7)) E.d8 Q1 QtS (by dsimp only [cU];exact(#[We,We,hs])) rfl) (t2:=.sh (.int Qiu)) rfl) ?_;have o:w.kf=if G6 s Qiu then -1 else Fw es src Qiu:=by rw[<- hw];rfl
  have q:w.mode=if G6 s Qiu then("new":Str) else WW (aG s (200+12*(j:Int)+8)):=by rw[<- hw];rfl
  have H:w.src=src:=by rw[<- hw];rfl
  generalize aG s (200+12*(j:Int)+7)=c at P o q ⊢;refine aE E.g QpP (cD (ak (dM QmH ai #[Wl,Wl])) Qad We) ?_;refine tU (λU=>∃a,U=[some QeS,some Qgs,some QbR,some QoE,some QmU,some QmV,some QkL,some QwF,some (.sh Qon),some (.sh Qoo),some (.sh Qop),some (.sh Qo4),some Qx0,some (.sh Qva),a,r]) (wK Qym ai).1 (λm=>?_) (λm=>?_) ?_
  .have m:=l3 m;have oE:0<(iO es QbN).length:=List.length_pos_of_mem (rL x0 L rfl);refine aE E.g (E.ll 14) (aK (c_ ((es,es.getD src.toNat 0)) E.lq Qdm (ah QR (ah (bz QR QjX (fZ x0 L)) aA)) ((by dsimp only [eB];lia)) (aP _)) rfl) ?_;have AO:((iO es QbN).map D.int).length=(iO es QbN).length:=by simp
   have V:=mj Qdn (b:=((iO es QbN).length:Nat)) We;have S:=mm Qdn (b:=((iO es QbN).length:Nat)) We;refine aE E.g QpP (aK (eG (bz Qxj (ak (cD (ak (dM QmH ai #[Wl,Wl])) (ak (bS (AO) E.cJ Qxj Qd)) We)) (fZ V S)) rfl) (t2:=.sh Qva) (by unfold Fw;rw[cq m])) QlX
  .have m:=nt m;refine aj #[a,?_];rw[show Fw es src c=c / 4 % (es.length:Nat) by unfold Fw;rw[bW m]];rfl
  rintro U ⟨a,rfl⟩;refine aE E.g (E.ll 15) (aK (eG (bz Qs2 (ak (cD (ak (c_ ((s,200+12*(j:Int)+8)) E.d8 Q1 QtS (by dsimp only [cU];exact(#[We,We,hs])) rfl)) ai Wl)) (fq (f:=D.str) (l:=["new","near","far"]) Str.empty (Int.emod_nonneg _ Wl) (Int.emod_lt_of_pos _ Wl))) rfl) rfl) ?_;refine tU (λU=>U=[some QeS,some Qgs,some QbR,some QoE,some QmU,some QmV,some QkL,some QwF,some (.sh Qon),some (.sh Qoo),some (.sh Qop),some (.sh Qo4),some Qx0,some (.sh (.int w.kf)),a,some (.sh (.str w.mode))]) (gK (fE (dN Qym ai).1 (λhb=>(eN (dN (ak (cD (ak (dM (ak (c_ ((s,36)) E.d8 Q1 QcM (by dsimp only [cU];exact(#[We,We,hs])) rfl)) ai #[Wl,Wl])) ai Wl)) ai).1)))) (λm=>?_) (λm=>?_) ?_
  .have m:G6 s c:=by
    unfold G6;simpa using m
   rw[cq m]at o q;rw[o,q];exact aE E.g QpP (iD ai) (aE E.g (E.ll 15) dJ Qfx)
  .have m:¬ G6 s c:=by
    unfold G6;simpa using m
   rw[bW m]at o q;rw[o,q];exact aj rfl
  rintro U rfl;refine ja (E.ll 6).1 rfl (cK (aq QdS (aq (v_ (E.ll 9).1) (aq (v_ (E.ll 10).1) (aq (v_ (E.ll 11).1) (aq (v_ (E.ll 13).1) (aq (v_ (E.ll 15).1) aV)))))) aN) rfl (by rw[cM,A];lia) (aj ?_);rw[M _ (by unfold f7;rw[H])];exact#[_,_,_,_,_,_,_,_,_,rfl]
 case fin=>
  rintro U ⟨G,F,B,y,v,u,t,a,r,rfl⟩;rw[cM];exact aY Qx1 rfl
def Lr:Q7 (ao Lq) ([("script",.cell),("elders",ck),("boxes",ck),("many",.cell),("count",ck),("names",ck),("ways",ck),("source",ck),("at",ck),("name",ck),("asks",ck),("deeds",ck),("cell",ck),("target",ck),("near",ck),("mode",ck),("len",bB),("_law_cell",bB),("sorted",bB),("range",bB),("_law_name",bB),("_law_asks",bB),("_law_deeds",bB),("_law_inner",bB)])=true:=by decide +kernel
noncomputable def ahx:cW Tw ["script","elders","boxes"] (ao Lq):=iW
def q7(s:AT)(k:Nat):Str×Int:=(("b":Str)++sI (k:Int),Pq (aG s (33+(k:Int))))
def G8(s:AT):List QoP:=(List.range (aG s 32 % 4).toNat).map (q7 s)
def xZ(s:AT):Nat:=(aG s 32 % 4).toNat
def FA(s:AT)(q:Int)(n:Nat):At:=(List.range n).map λ(k:Nat)=>.tup (iG s Qjl (xZ s))
def iS(s:AT)(most:Nat):Nat:=(if 0<qN s then max QvD ((most:Int)-1) else 1+aG s 0 % (most:Int)).toNat
theorem WX(s:AT){most:Nat}(h:1<=most):1<=iS s most/\iS s most<=most/\((iS s most:Nat):Int)=if 0<qN s then max QvD ((most:Int)-1) else 1+aG s 0 % (most:Int):=by
 have a:=mj (aG s 0) (b:=most) We;have b:=mm (aG s 0) (b:=most) We;unfold iS;lia
noncomputable def pP(bs:At)(es:AT)(ks:BA)(ss:AT)(is os ws:At):D:=.tup [.lst bs,.lst Qbn,.lst Qcu,.lst Qdc,.lst is,.lst os,.lst ws]
theorem adp(s:AT):(G8 s).length<=3:=by
 unfold G8;simp;lia
abbrev DI:=top 78
abbrev Ls:=AT×Nat
noncomputable abbrev Lv:BA:=["script","most","many","elders","kinds","starts","count","boxes","ins","outs"]
noncomputable def vQ:Ls->At:=λ(s,most)=>[.lst Qco,.int most]
def vR:Ls->Prop:=λ(s,most)=>s.length<=1000/\1<=most/\most<=9
def vS:Ls->T:=λ(s,most)=>(.sh (pP ((G8 s).map k9) Qjc Qvb (WQ s Qjc Qvb 16 Qgj) (FA s 100 Qgj) (FA s 103 Qgj) ((zO s Qjc (xZ s)).map f7)):T)
structure ahA(X:Cx)(CL:BM):Prop extends EL X Lv ["_law_cell","max","_law_elders","_law_kinds","_law_chosen","range","_law_ways"],fU X.K X.mg CL where
 uw:GQ X "script"
 WY:GQ X "count"
 d8:Fc X CL "_law_cell" 1 2 jl cU gX
 adq:Fc X CL "_law_elders" 2 2 rP nV rQ
 ahB:Fc X CL "_law_kinds" 2 2 Bv vN Bw
 ads:Fc X CL "_law_chosen" 2 4 xW rS xX
 am0:Fc X CL "_law_ways" 4 3 zP uv zQ
 Fj:Fc X CL "_law_number" 1 1 rT rV rW
 DH:Fc X CL "_law_deeds" 3 3 vO lu vP
theorem ahC(E:ahA X CL) :
  kC X CL b DI Lv vQ vR vS:=by
 rintro⟨s,most⟩ h;dsimp only [vR,vQ,vS]at h ⊢;obtain⟨hs,m1,m2⟩:=h;obtain⟨n1,B,c⟩:=WX s m1;refine aE E.g Qam (fh ai (ak (cD (ak (c_ ((s,0)) E.d8 Qd QcM (by dsimp only [cU];exact(#[We,We,hs])) rfl)) QR We))) ?_;refine tU (λU=>U=[some QeS,some (.sh (.int most)),some (.sh Qvc),none,none,none,none,none,none,none]) (wK (ak (cD (ak (dM (ak (c_ ((s,0)) E.d8 Qd QcM (by dsimp only [cU];exact(#[We,We,hs])) rfl)) ai #[Wl,Wl])) ai Wl)) ai).1 (λa=>?_) (λa=>?_) ?_
 .have a:0<qN s:=l3 a;rw[cq a]at c;refine aE E.g Qam (aK (afS E.g E.aq1 Q1 (ah Q2 (ah (ak (pG QR ai)) aA))) (t2:=.sh Qvc) ?_) Qfx;rw[c];show T.sh (.int (if (most:Int)-1 > 1+aG s 0 % (most:Int) then(most:Int)-1 else 1+aG s 0 % (most:Int)))=_;congr 2;split<;>lia
 .have a:¬ 0<qN s:=nt a;rw[bW a]at c;refine aj ?_;rw[c];rfl
 rintro U rfl;obtain⟨f,t⟩:=WN s n1 We;generalize iS s most=n at n1 B c f t ⊢;refine aE E.g Qas (aK (c_ ((s,n)) E.adq Qaa QnD (by dsimp only [nV];exact(#[n1,We,hs])) (aP _)) (t2:=T.lst (((lg s n).map .int).map T.sh)) rfl) ?_;generalize lg s n=es at f t ⊢;refine aE E.g Qal (aK (c_ ((s,es)) E.ahB Qak (ah QP (ah Qbz aA)) (by dsimp only [vN];exact(#[We,hs])) (rJ _)) (t2:=T.lst (((Bu s es n).map .str).map T.sh)) (by rw[<- f];rfl)) ?_;have y:=Lf s es n;have r:=WO s es;rw[f]at r;generalize Bu s es n=ks at y r ⊢;refine aE E.g Qau (aK (c_ ((s,es,ks,16)) E.ads QaL (ah QP (ah Qbz (ah Qcp (ah ai aA)))) (by dsimp only [rS];exact(#[We,hs,We,r,We,We])) (aP _)) (t2:=T.lst (((WQ s es ks 16 n).map .int).map T.sh)) (by rw[<- f];rfl)) ?_;generalize WQ s es ks 16 n=ss;have j:aG s 32 % 4=((xZ s:Nat):Int):=by unfold xZ;lia
 have o:xZ s<4:=by unfold xZ;lia
 refine aE E.g QaR (aK (cD (ak (c_ ((s,32)) E.d8 Qd QcM (by dsimp only [cU];exact(#[We,We,hs])) rfl)) ai Wl) (t2:=.sh (.int (xZ s:Nat))) (congrArg QlW j)) ?_;have e:G8 s=(List.range (xZ s)).map (q7 s):=rfl;rw[e];generalize m:xZ s=nb at o e ⊢;refine rD (p:=λ_=>true) (gg:=λd=>T.sh Quf) E.g QbS (cj QkX Wi) (eo E.e9 QaS We QbF) QaB (λC s0 x f0 u d hd=>?xM) (mi (bZ (by simp[b9];lia))) ?rest (by exact i5 rfl) QcO
 case xM=>
  obtain⟨i,hi,rfl⟩:=i9.1 hd;have w:i<nb:=by simpa using hi
  have A:(i:Int).natAbs.log2<1920/\(toString (i:Int):Str).length<=50:=by
   have:i=0\/i=1\/i=2:=by lia
   obtain rfl|rfl|rfl:=this<;>exact#[Wi,Wi]
  have l:Qdf=(i:Int):=mT _;have F:(D.int Qdf).wL.toNat=i:=by show(0+(i:Int)).toNat=i;lia
  refine#[rfl,λ_=>aK (cK (aq (xF bH (ak (yR E.wR Ba (jR 0) ((by rw[l];exact A.1)))) ((by rw[l,sizeLine_eq];show 1+(toString (i:Int):Str).length<=_;lia))) (aq (c_ (aG s (33+Qdf)) (lK E.Fj) Ba (ah (ak (c_ ((s,33+Qdf)) (lK E.d8) Ba (ah (iH 1) Qs3) (by dsimp only [cU];exact(#[We,We,hs])) rfl)) aA) (trivial) rfl) aV)) aN) ?_];show T.sh _=T.sh (k9 (q7 s (D.int Qdf).wL.toNat));rw[F];unfold q7 k9;rw[l];rfl
 case rest=>
 have em:((b9 0 (nb:Int).toNat).filter λ_=>true).map (λd=>T.sh Quf)=(((List.range nb).map (q7 s)).map k9).map T.sh:=by
  rw[gM];unfold b9;rw[kc,kc,kc,ke];refine nv λk _=>?_;show T.sh (k9 (q7 s (0+(k:Int)).toNat))=_;rw[show(0+(k:Int)).toNat=k by lia];rfl
 rw[em];generalize G:(List.range nb).map (q7 s)=bs;have v:∀q:Int,((b9 0 (n:Int).toNat).filter λ_=>true).map (λd=>T.sh (.tup (iG s (q+6*d.wL) nb)))=(((List.range n).map λ(k:Nat)=>D.tup (iG s Qjl nb)).map T.sh):=λq=>by
  rw[gM];unfold b9;rw[kc,kc,ke];refine nv λk _=>?_;show T.sh (.tup (iG s (q+6*(0+(k:Int))) nb))=_;rw[mT];rfl
 refine rD (p:=λ_=>true) (gg:=λd=>T.sh (.tup (iG s (100+6*d.wL) nb))) E.g QdX Qrk Qvd QaB (λC s0 x f0 u d hd=>?am1) (mi (bZ (by simp[b9];lia))) ?aq7 (by exact i5 rfl) QcO
 case am1=>
  obtain⟨i,hi,rfl⟩:=i9.1 hd;have w:i<n:=by simpa using hi
  exact#[rfl,λ_=>c_ (s,100+6*Qdf,nb) (lK E.DH) Ba (ah (iH 2) (ah (ak (fh ai (ak (A3 ai (jR 0) (.inl #[Wl,Wl]))))) (ah (iH 1) aA))) (by dsimp only [lu];exact#[hs,We,We,We]) (show T.clean QtT=true from Qpx)]
 case aq7=>
 rw[v 100];refine rD (p:=λ_=>true) (gg:=λd=>T.sh (.tup (iG s (103+6*d.wL) nb))) E.g (E.ll 9) Qrk Qvd QaB (λC s0 x f0 u d hd=>?am2) (mi (bZ (by simp[b9];lia))) ?aq8 (by exact i5 rfl) QcO
 case am2=>
  obtain⟨i,hi,rfl⟩:=i9.1 hd;have w:i<n:=by simpa using hi
  exact#[rfl,λ_=>c_ (s,103+6*Qdf,nb) (lK E.DH) Ba (ah (iH 2) (ah (ak (fh ai (ak (A3 ai (jR 0) (.inl #[Wl,Wl]))))) (ah (iH 1) aA))) (by dsimp only [lu];exact#[hs,We,We,We]) (show T.clean QtT=true from Qpx)]
 case aq8=>
 rw[v 103];refine aY (jt (kX (aH (vM (E.ll 7).1) (aH (C4 (E.ll 3).1 rfl) (aH QgD (aH QnW (aH Qx2 (aH (vM (E.ll 9).1) (aH (aK (c_ (s,es,nb) E.am0 Qbq (ah QP (ah Qad (ah QaS aA))) (by dsimp only [uv];exact#[hs,We,We,We]) (cA (Tt s es nb))) (t2:=.lst (((zO s es nb).map f7).map T.sh)) rfl) bM))))))) aN) ?_) rfl;rw[T.fC,T.dB,T.dB,T.dB,T.dB,T.dB,T.dB,T.dB,T.dB,bT,bT,bT,bT,bT,bT,T.fC];unfold pP FA;rw[m]
def Fx:Q7 (ao DI) ([("script",.cell),("most",ck),("many",ck),("elders",ck),("kinds",ck),("starts",ck),("count",.cell),("boxes",ck),("ins",ck),("outs",ck),("_law_cell",bB),("max",bB),("_law_elders",bB),("_law_kinds",bB),("_law_chosen",bB),("range",bB),("_law_ways",bB)])=true:=by decide +kernel
noncomputable def adt:cW Lv ["script","most"] (ao DI):=iW
abbrev ux:=inClass (top 10) 0
abbrev uy:=BA×AT×AT
noncomputable abbrev uz:BA:=["self","kinds","elders","starts"]
noncomputable def wZ:uy->At:=λ(ks,es,ss)=>[.lst Qcu,.lst Qbn,.lst Qdc]
def w9:uy->Prop:=λ(ks,es,ss)=>True
def xg:uy->BS:=λ(ks,es,ss)=>(Eo ks es ss:BS)
def Px(E:GD uz ["list"] X CL)(ks:BA)(es ss:AT)(y:Addr)(h:True) :
  c7 X CL b (bG ux) (Kd uz y "Tree" [.lst Qcu,.lst Qbn,.lst Qdc]) {nx:=λU=>U[0]? = some (some (.pin y QlK)),rt:=λ_ _=>False}:=by
 have hi:D.bC (ks.map D.str)=true:=eO QcP _;refine gH E.jh E.gS (E.ll 0).1 (cL E.cI QR hi Qd aZ).m rfl QaF ?_;exact gH E.jh E.jm (E.ll 0).1 (cL E.cI Q2 (bu _) Qd aZ).m rfl QaF (gH E.jh E.wU (E.ll 0).1 (cL E.cI Qad (bu _) Qd aZ).m rfl QaF Qfx)
noncomputable def rX:FG uz ["self","kinds","elders","starts"] ["list"] (ao ux):=fG
abbrev rY:=inClass (top 7) 0
abbrev rZ:=At×At×V×At×At×At
noncomputable abbrev r6:BA:=["self","boxes","names","tree","ins","outs","ways"]
noncomputable def uA:rZ->At:=λ(bs,nm,tv,is,os,ws)=>[.lst bs,.lst nm,.val tv,.lst is,.lst os,.lst ws]
def uB:rZ->Prop:=λ(bs,nm,tv,is,os,ws)=>D.bC bs=true/\D.bC nm=true/\D.bC is=true/\D.bC os=true/\D.bC ws=true
def uC:rZ->BS:=λ(bs,nm,tv,is,os,ws)=>(t9 bs nm Qxk is os ws:BS)
def Lw(E:GD r6 ["list"] X CL)(bs nm:At)(tv:V)(is os ws:At)(y:Addr)(h:D.bC bs=true/\D.bC nm=true/\D.bC is=true/\D.bC os=true/\D.bC ws=true) :
  c7 X CL b (bG rY) (Kd r6 y "Chart" [.lst bs,.lst nm,.val tv,.lst is,.lst os,.lst ws]) {nx:=λU=>U[0]? = some (some (.pin y (.ins "Chart" (t9 bs nm Qxk is os ws)))),rt:=λ_ _=>False}:=by
 obtain⟨h1,h2,d,c,a⟩:=h;refine gH E.bY E.wV (E.ll 0).1 (cL E.cI QR h1 Qd aZ).m rfl QaF ?_;refine gH E.bY E.wW (E.ll 0).1 (cL E.cI Q2 h2 Qd aZ).m rfl QaF ?_;refine gH E.bY E.cZ (E.ll 0).1 (v_ (E.ll 3).1).m rfl QaF ?_;refine gH E.bY E.CJ (E.ll 0).1 (cL E.cI Qai d Qd aZ).m rfl QaF ?_;exact gH E.bY E.zH (E.ll 0).1 (cL E.cI Qac c Qd aZ).m rfl QaF (gH E.bY E.dQ (E.ll 0).1 (cL E.cI QaS a Qd aZ).m rfl QaF Qfx)
noncomputable def pQ:FG r6 ["self","boxes","names","tree","ins","outs","ways"] ["list"] (ao rY):=fG
def EE(k:Nat):Str:=("m":Str)++sI (k:Int)
def Py(n:Nat):BA:=(List.range n).map EE
theorem adu(k:Nat)(h:k<=40):(k:Int).natAbs.log2<1920/\(toString (k:Int):Str).length<=50/\PyData.strOk (toString (k:Int):Str)=true:=by
 have h2:((List.range 41).all λk=>decide ((k:Int).natAbs.log2<1920)&&decide ((toString (k:Int):Str).length<=50)&&PyData.strOk (toString (k:Int)))=true:=by decide +kernel
 have:=nr.1 h2 k (nk.2 We);simp_all
abbrev Lx:=top 79
abbrev Ly:=At×AT×BA×AT×At×At×At
noncomputable abbrev Lz:BA:=["parts","names","tree"]
def By:Ly->At:=λ(bs,es,ks,ss,is,os,ws)=>[pP bs es ks ss is os ws]
def BD:Ly->Prop:=λ(bs,es,ks,ss,is,os,ws)=>D.bC bs=true/\D.bC is=true/\D.bC os=true/\D.bC ws=true/\es.length<=40
def BE:Ly->T:=λ(bs,es,ks,ss,is,os,ws)=>(.ins "Chart" (t9 bs ((Py es.length).map .str) QlK is os ws):T)
structure ahD(X:Cx)(CL:BM):Prop extends EL X Lz ["range","len","Tree","list","Chart"],fU X.K X.mg CL where
 am3:Fm X CL "Tree" 1 4 wZ w9 xg
 ahE:Fm X CL "Chart" 1 7 uA uB uC
theorem ahF(E:ahD X CL) :
  kC X CL b Lx Lz By BD BE:=by
 rintro⟨bs,es,ks,ss,is,os,ws⟩ h;obtain⟨c,ii,io,a,hl⟩:=h;refine rD (p:=λ_=>true) (gg:=λd=>T.sh QtU) E.g Qet Qpy (eo E.e9 (ak (bS (cM ..) E.cJ Qbf Q1)) We Qd) QaB (λC s0 m f0 j d hd=>?xM) (mi (bZ (by simp[b9];lia))) ?rest QaF QcO
 case xM=>
  obtain⟨i,hi,rfl⟩:=i9.1 hd;have l:=by simpa using hi
  obtain⟨q1,f,_⟩:=adu i We;have e:(0+i)=(i:Int):=mT _;refine#[rfl,λ_=>aK (xF bH (ak (yR E.wR Ba (jR 0) ((e▸q1)))) ((by rw[l7];show 1+(toString _:Str).length<=_;lia))) ?_];rfl
 case rest=>
 have em:((b9 0 (es.length:Int).toNat).filter λ_=>true).map (λd=>T.sh QtU)=((Py es.length).map D.str).map T.sh:=by
  rw[gM];unfold b9 Py;rw[kc,kc,kc];refine nv λk _=>?_;show T.sh (.str (EE (0+(k:Int)).toNat))=_;rw[show(0+(k:Int)).toNat=k by lia];rfl
 exact em▸aE E.g Qam (aK (mk_ (ks,es,ss) E.am3 Qaa (ah (bR (cL E.cI Qbf (tY _) Qak aZ)) (ah Qrx (ah Qrx aA))) trivial (Cz ks es ss)) rfl) (aY (mkP (λv=>(bs,(Py _).map _,v,is,os,ws)) E.ahE QaL
  (Ou (bR (cL E.cI Qbf c Qak aZ)) (Ou Qx3
   (abu Qe5
    (ah (bR (cL E.cI Qbf ii Qak aZ)) (ah (bR (cL E.cI Qbf io Qak aZ)) (ah (bR (cL E.cI Qbf a Qak aZ)) aA))))))
  (λv=>rfl) (λv=>#[c,tY _,ii,io,a]) (λv=>rfl) (KS c (tY _)) (KW ii io a)) rfl)
noncomputable def Pz:FG Lz ["parts"] ["range","len","Tree","list","Chart"] (ao Lx):=fG
abbrev DJ:=top 14
abbrev LC:=BA×AT×AT×Int
noncomputable abbrev LD:BA:=["tree","mood"]
def vU:LC->At:=λ(ks,es,ss,m)=>[dP ks es ss,.int m]
def nH:LC->Prop:=λ(ks,es,ss,m)=>es.length<=1000
def vV:LC->T:=λ(ks,es,ss,m)=>(.lst (((iO es m).map .int).map T.sh):T)
structure ahG(X:Cx)(CL:BM):Prop extends EL X LD ["enumerate"],fU X.K X.mg CL where
 S8:GQ X "mood"
def ahH(E:ahG X CL) :
  kC X CL b DJ LD vU nH vV:=by
 rintro⟨ks,es,ss,m⟩ h;refine aY (D9 (af2 (xs:=["place","elder"]) QrH Wi) E.g.calm
  (Oq 0 E.CK (tX E.jh E.jm QaH oO) Qd) QaB (λC s0 c f0 a=>#[Ds (by show List.Nodup (["place","elder","mood"]:BA);decide +kernel) E.g.calm (RT rfl Wi) (RT rfl Wi),λd hd=>?xM]) (by rw[cM,m3];exact mi (bZ h))) (congrArg _ (acm es m))
 case xM=>
  obtain⟨i,hi,rfl⟩:=i9.1 hd;exact#[_,rfl,rfl,(dN (jR 1) (iH 2)).1,λ_=>v_ (C9 0)]
def PB:Q7 (ao DJ) ([("tree",ck),("mood",.cell),("enumerate",bB)])=true:=by decide +kernel
noncomputable def adv:cW LD ["tree","mood"] (ao DJ):=iW
abbrev uD:=top 44
abbrev uE:=BA×AT×AT×AT×Nat×Str
noncomputable abbrev uF:BA:=["tree","memory","mood","mode","kind"]
def pR:uE->At:=λ(ks,es,ss,mem,m,mode)=>[dP ks es ss,.lst QcN,.int m,.str mode]
def pS:uE->Prop:=λ(ks,es,ss,mem,m,mode)=>es.length<=900/\ks.length=es.length/\ss.length=es.length/\mem.length=es.length/\m<es.length/\t7 mode/\∀k:Nat,k<es.length->aX ks k=true\/au ks k=true\/ks.getD k Str.empty="one"
def lP:uE->T:=λ(ks,es,ss,mem,m,mode)=>(.lst (((Nj QaT Q4 es ss mem (e7 mode || iE mode) m).map .int).map T.sh):T)
structure PD(X:Cx)(CL:BM):Prop extends EL X uF ["inner"],fU X.K X.mg CL where
 LJ:Fc X CL "inner" 1 2 vU nH vV
theorem PF(E:PD X CL) :
  kC X CL b uD uF pR pS lP:=by
 rintro⟨ks,es,ss,mem,m,mode⟩ h;dsimp [lP]at h ⊢;obtain⟨hl,k,hs,hm,n,f,j⟩:=h;apply aE E.g Qal (eG (bz QiH Q2 (fq _ We We)) rfl);refine cg (cH Qai bH).1 (λc=>?_) (λc=>aj ?_)
 .apply aY Qa8;unfold Nj;rw[cq (show aX ks m=true from c)];rfl
 refine cg (cH Qai bH).1 (λd=>?_) (λd=>aj ?_)
 .apply aY (c_ ((ks,es,ss,(m:Int))) E.LJ Qd QnD ((by dsimp [nH];lia)) (aP _));unfold Nj;rw[bW (λz=>by rw[show aX ks m=false from c]at z;cases z),cq (show au ks m=true from d)];rfl
 have key:Nj QaT Q4 es ss mem (e7 mode || iE mode) m=[kD ss mem (e7 mode || iE mode) m]:=by
  unfold Nj;rw[bW (λz=>by rw[show aX ks m=false from c]at z;cases z),bW (λz=>by rw[show au ks m=false from d]at z;cases z)]
 rw[key];have i:(e7 mode || iE mode)=!decide (mode="new"):=by
  obtain e|e|e:=f<;>rw[e]<;>decide +kernel
 refine cg (gK (fE (cH Qad bH).1 (λl=>(eN (dN QuM QdV).1)))) (λa=>?_) (λa=>aj ?_)
 .apply aY (fY (aq (eG (bz (bV E.jh E.wU QP OS) Q2 Qd4) rfl) aV) aN);have e:kD ss mem (e7 mode || iE mode) m=ss.getD (m:Int).toNat 0:=by
   unfold kD;rw[bW (λz=>by
    rw[i]at z;simp at a;obtain w|w:=a
    .rw[l5 w]at z;cases z.1
    .exact z.2 w)]
  rw[e];rfl
 .apply aY (fY (aq (eG QuM rfl) aV) aN);have e:kD ss mem (e7 mode || iE mode) m=mem.getD (m:Int).toNat 0:=by
   unfold kD;simp at a;rw[cq #[by rw[i,la a.1];rfl,a.2]]
  rw[e];rfl
noncomputable def zR:FG uF ["tree","memory","mood","mode"] ["inner"] (ao uD):=fG
abbrev Fy:=top 43
abbrev Fz:=BA×AT×AT×AT×Nat×Str
noncomputable abbrev FD:BA:=["tree","memory","mood","mode","found","further","place"]
def nW:Fz->At:=λ(ks,es,ss,mem,m,mode)=>[dP ks es ss,.lst QcN,.int m,.str mode]
def nX(dd:Nat):Fz->Prop:=λ(ks,es,ss,mem,m,mode)=>(es.length<=900/\ks.length=es.length/\ss.length=es.length/\mem.length=es.length/\m<es.length/\t7 mode/\∀k:Nat,k<es.length->aX ks k=true\/au ks k=true\/ks.getD k Str.empty="one")/\d7 QaT Q4 es ss mem/\es.length<=m+dd+1
def ly:Fz->T:=λ(ks,es,ss,mem,m,mode)=>(.lst (((GR ks es ss mem mode m).map .int).map T.sh):T)
structure adx(X:Cx)(CL:BM)(dd:Nat):Prop extends EL X FD ["opened_in","opened"],fU X.K X.mg CL where
 PJ:Fc X CL "opened_in" 2 4 pR pS lP
 qO:∀d',d'<dd->Fc X CL "opened" (3+d') 4 nW (nX d') ly
theorem ady{dd:Nat}(E:adx X CL dd) :
  kC X CL b Fy FD nW (nX dd) ly:=by
 rintro⟨ks,es,ss,mem,m,mode⟩ h;dsimp [ly]at h ⊢;obtain⟨A,c,L⟩:=h;have w:=A;obtain⟨hl,I,hs,hm,y,H,u⟩:=A;have s:GR ks es ss mem mode m=(m:Int)::(Nj QaT Q4 es ss mem (e7 mode || iE mode) m).flatMap QhM:=by
  unfold GR;rw[OX c _ Qe8 y We We,kU]
 rw[s];apply aE E.g Qal (fY QjA aN);refine aE E.g Qau (aln (t:=.sh (.str QhV)) (cH Qad bH).1 (λn=>aK dJ (by rw[cq (show e7 mode=true from n)])) (λn=>aK dJ (by rw[bW (λz=>by rw[show e7 mode=false from n]at z;cases z)]))) ?_;have C:t7 QhV:=by
  split
  .exact .inr QaB
  .exact .inl rfl
 have l:e7 QhV=e7 mode:=by
  cases e:e7 mode with
  | true=>decide +kernel
  | false=>decide +kernel
 have i:iE QhV=false:=by
  cases e:e7 mode with
  | true=>decide +kernel
  | false=>decide +kernel
 generalize K:(if e7 mode=true then("far":Str) else "new")=B at C l i ⊢;have f:∀p∈Nj _ _ es ss mem (e7 mode || iE mode) m,p∈iO es m:=λp G=>qG c y G;have x:=DC c (far:=e7 mode) (near:=iE mode) (d:=es.length+1) y;rw[kU]at x;generalize v:Nj _ _ es ss mem _ m=a at f x ⊢;refine eS E.g QaR (λj U=>∃o,U=[some _,some _,some _,some _,some (.lst ((((m:Int)::(a.take j).flatMap (λp=>kU QaT Q4 es ss mem Qka es.length false p)).map _).map _)),some _,o])
  (dZ (gQ (aK (t2:=T.lst ((a.map _).map _)) (c_ ((ks,es,ss,mem,m,mode)) E.PJ Qd (ah QP Qxl) (w) (aP _)) (by rw[<- v];rfl)))) #[_,rfl] (by rintro j U ⟨_,rfl⟩;exact i5 rfl) ?turn ?fin
 case turn=>
  rintro j d U J ⟨o,rfl⟩;obtain⟨p,rfl,_,r,O,_,N⟩:=jI J;have P:=cG c.pre (f p r);obtain⟨q,rfl⟩:∃q:Nat,p=q:=#[p.toNat,We];have F:=DC c (far:=e7 mode) (near:=false) (d:=es.length) (k:=q) We;have hpl:(((m:Int)::(a.take j).flatMap QhM).length)<=es.length:=by
   refine l6 ?_ x;apply Nat.succ_le_succ;have h2:=wj j a
   conv=>rhs;rw[<- h2]
   rw[zi,lj];lia
  refine t6 (E.ll 4).1 rfl (Sh (bR (c_ (ks,es,ss,mem,q,B) (E.qO (dd-1) We) Q1 (ah QP (ah QR (ah QaS Qne))) (#[#[hl,I,hs,hm,We,C,u],c,We]) (aP _))) (bu _)) rfl ?len (aj ?_)
  case len=>
   rw[cM,cM,cM];show _+(kU _ _ es ss mem _ _ _ q).length<=_;lia
  have M:(((m:Int)::(a.take j).flatMap QhM).map D.int).map T.sh++((GR ks es ss mem B q).map D.int).map T.sh=(((m:Int)::(a.take QU).flatMap QhM).map D.int).map T.sh:=by
   unfold GR;rw[l,i,N];simp
  rw[M];exact#[_,rfl]
 case fin=>
  rintro U ⟨o,rfl⟩;rw[cM,mv];exact aY QgD rfl
noncomputable def BF:FG FD ["tree","memory","mood","mode"] ["opened_in","opened"] (ao Fy):=fG
abbrev BG:=top 56
abbrev BH:=At×At×D×EO×At×At×AT
noncomputable abbrev BI:BA:=["chart","come","rows","mood"]
def oU:BH->At:=λ(bs,nm,tr,is,os,ws,a)=>[fP bs nm tr Qoq os ws,.lst QgN]
def mz:BH->Prop:=λ(bs,nm,tr,is,os,ws,a)=>pK is/\a.length<=1000/\∀m∈a,0<=m/\m<is.length
def mC:BH->T:=λ(bs,nm,tr,is,os,ws,a)=>(.lst ((inR is a).map T.sh):T)
theorem Zg(E:GD BI [] X CL) :
  kC X CL b BG BI oU mz mC:=by
 rintro⟨bs,nm,tr,is,os,ws,a⟩ h;dsimp [mC]at h ⊢;obtain⟨c,hl,k⟩:=h;apply aE E.g Qam Qa8;refine eS E.g Qas (λj U=>∃o,U=[some _,some _,some (.lst ((inR is (a.take j)).map T.sh)),o])
  (dZ Qbx) #[_,rfl] (by rintro j U ⟨_,rfl⟩;exact i5 rfl) ?turn ?fin
 case turn=>
  rintro j d U i ⟨o,rfl⟩;obtain⟨m,rfl,_,hm,n,_,l⟩:=jI i;obtain⟨m0,m1⟩:=k m hm;have f:=(EI c (a.take j)).1;have e:(a.take j).length<=j:=by simp;lia
  obtain⟨g1,g2⟩:=c.get _;apply ja (E.ll 2).1 rfl QsM rfl (by rw[cM];lia);refine t6 (E.ll 2).1 rfl (Sh (bz (bV E.bY E.CJ QP YR) Qad (fq [] m0 m1)) g2) rfl (by rw[lj,cM,oP];lia) (aj #[some QgF,?_]);rw[l,acF,ky,ka];rfl
 case fin=>
  rintro U ⟨o,rfl⟩;rw[cM,mv];exact aY Qe5 rfl
noncomputable def FE:FG BI ["chart","come"] [] (ao BG):=fG
abbrev LK:=top 51
abbrev LN:=At×At×BA×AT×AT×EO×At×At
noncomputable abbrev LQ:BA:=["chart","memory","opens"]
def BJ:LN->At:=λ(bs,nm,ks,es,ss,is,os,ws)=>[fP bs nm Qba Qoq os ws]
def BK:LN->Prop:=λ(bs,nm,ks,es,ss,is,os,ws)=>nm.length=es.length/\0<es.length/\es.length<=40/\ks.length=es.length/\ss.length=es.length/\is.length=es.length/\pK is/\(∀k:Nat,k<es.length->aX ks k=true\/au ks k=true\/ks.getD k Str.empty="one")/\d7 QaT Q4 es ss QeA
def vW:LN->T:=λ(bs,nm,ks,es,ss,is,os,ws)=>(.tup [.lst ((inR is (GR ks es ss QeA "new" 0)).map T.sh),.lst (((GR ks es ss QeA "new" 0).map .int).map T.sh),.lst (((List.replicate es.length (-1)).map .int).map T.sh)]:T)
structure ahJ(X:Cx)(CL:BM):Prop extends EL X LQ ["len","opened","in_rows"],fU X.K X.mg CL where
 qO:Fc X CL "opened" 43 4 nW (nX 40) ly
 BL:Fc X CL "in_rows" 1 2 oU mz mC
theorem ahK(E:ahJ X CL) :
  kC X CL b LK LQ BJ BK vW:=by
 rintro⟨bs,nm,ks,es,ss,is,os,ws⟩ h;dsimp [vW]at h ⊢;obtain⟨d,h0,hl,j,hs,hi,i,e,f⟩:=h;apply aE E.g Qet (aK (Vz Qo5 (ak (bS d E.cJ (bV E.bY E.wW QP O2) Qd)) rfl We We (by rw[l7];simp;lia)) (by rw[E2]));have k:(List.replicate _ (-1)).length=es.length:=sk ..;apply aE E.g Qam (aK (c_ (ks,es,ss,List.replicate _ _,0,("new":Str)) E.qO Q1 (ah Qc6 (ah Qx3 (ah ai (ah bH aA)))) (#[#[We,j,hs,k,h0,.inl rfl,e],f,We]) (aP _)) (t2:=.lst _) rfl);have c:(GR ks es ss _ "new" 0).length<=es.length:=DC f h0;have a:∀m∈GR ks es ss _ "new" 0,0<=m/\m<is.length:=λm hm=>by
  have l:=cz f _ h0 m hm;lia
 generalize GR ks es ss _ _ 0=ops at c a ⊢;exact aY (kX (aH (aK (c_ (bs,nm,dP ks es ss,is,os,ws,ops) E.BL Qaa (ah QP (ah Qda aA)) (#[i,We,a]) (cA (EI i ops).2)) rfl) (aH Qe5 (aH Qx4 bM))) aN) rfl
noncomputable def PL:FG LQ ["chart"] ["len","opened","in_rows"] (ao LK):=fG
noncomputable def G9(l:BA)(s:Str):BA:=if s∈l then l else l++[s]
def zS(l:BA):BA:=l.foldl G9 []
def Zh(l:BA)(s:Str):zS (l++[s])=G9 (zS l) s:=by unfold zS;simp
theorem PN(l:BA):(zS l).length<=l.length:=by
 unfold zS;have gen:∀(l acc:BA),(l.foldl G9 acc).length<=acc.length+l.length:=by
  intro l
  induction l with
  | nil=>simp
  | cons y l a=>
   intro acc;have h1:(G9 acc y).length<=acc.length+1:=by unfold G9;split<;>simp
   have:=a (G9 acc y);simp;lia
 have:=gen l [];simp_all
noncomputable def nN(l:BA):List Qpa:=l.map λs=>((Sum.inr s:Key),D.bl true)
theorem ahL(l:BA)(s:Str):((nN l).any λkv=>decide (kv.1=Sum.inr s))=decide (s∈l):=by
 unfold nN
 induction l with
 | nil=>rfl
 | cons y l a=>
  by_cases h:y=s
  .subst h;simp
  .have h':¬ s=y:=λe=>h e.symm;simp_all
def ahM(l:BA)(s:Str):Ct (nN l) (.inr s) Qb6=nN (G9 l s):=by
 unfold Ct;rw[ahL];unfold G9;by_cases h:s∈l
 .rw[cq (l5 h),cq h];unfold nN;rw[kc];refine nv λy _=>?_;simp
 .rw[if_neg (by simpa using h),if_neg h];unfold nN;rw[ky];rfl
def adz(l:BA):((nN l).map (·.1)).map C7=l.map D.str:=by
 unfold nN;rw[kc,kc];rfl
abbrev LR:=top 8
abbrev LV:=At×At×D×At×At×(List (D×Str×At))
noncomputable abbrev LW:BA:=["chart","found","way"]
def lz:LV->At:=λ(bs,nm,tr,is,os,ws)=>[fP bs nm tr is os (ws.map FX)]
def iy:LV->Prop:=λ(bs,nm,tr,is,os,ws)=>ws.length<=1000
def jV:LV->T:=λ(bs,nm,tr,is,os,ws)=>(.lst (((zS (ws.map (·.2.1))).map D.str).map T.sh):T)
theorem ahN(E:GD LW ["SIGN","list"] X CL) :
  kC X CL b LR LW lz iy jV:=by
 rintro⟨bs,nm,tr,is,os,ws⟩ h;dsimp [iy,jV]at h ⊢;apply aE E.g Qet VA;refine eS E.g Qam (λj U=>∃a,U=[some _,some (.kT (nN (zS ((ws.map (·.2.1)).take j)))),a])
  (dZ QeH) #[_,rfl] (by rintro j U ⟨_,rfl⟩;exact i5 rfl) ?turn ?fin
 case turn=>
  rintro j d U c ⟨a,rfl⟩;obtain⟨w,rfl,hw,_,f,_,_⟩:=jI c;have hl:(nN (zS ((ws.map (·.2.1)).take j))).length<=1000000:=by
   have h1:=PN ((ws.map (·.2.1)).take j);have h2:(nN (zS ((ws.map (·.2.1)).take j))).length=(zS ((ws.map (·.2.1)).take j)).length:=by unfold nN;simp
   have i:((ws.map (·.2.1)).take j).length<=j:=by simp;lia
   lia
  refine TC (.inr _) E.u (E.ll 1).1 oK (aD Q2 (ak (aM E.Ts Qd)) mh) rfl hl (aj #[some (.sh (FX w)),?_]);rw[ahM,<- Zh];have e:(ws.map (·.2.1)).take QU=(ws.map (·.2.1)).take j++[w.2.1]:=by
   rw[List.take_succ,k4,hw];rfl
  rw[e];rfl
 case fin=>
  rintro U ⟨a,rfl⟩;rw[List.take_of_length_le Wp];apply aY (abr E.g E.cI (vE (E.ll 1).1 rfl (by rw[T.fC])) Q1);rw[adz]
noncomputable def PR:FG LW ["chart"] ["SIGN","list"] (ao LR):=fG
abbrev pT:=inClass (top 59) 0
abbrev pU:=D×Nat×World
noncomputable abbrev pV:BA:=["self","chart","most"]
def tD:pU->At:=λ(cd,mo,w)=>[cd,.int mo]
def tE:pU->Prop:=λ(cd,mo,w)=>True
def tF:pU->BS:=λ(cd,mo,w)=>(Nn cd mo w #[[],[],8*mo]:BS)
def Hf(E:GD pV ["ROWS_FOR_A_FLAT"] X CL)(cd:D)(mo:Nat)(w:World)(y:Addr)(h:True) :
  c7 X CL b (bG pT) (Kd pV y "Growth" [cd,.int mo]) {nx:=λU=>U[0]? = some (some (.pin y (.ins "Growth" (Nn cd mo w #[[],[],8*mo])))),rt:=λ_ _=>False}:=by
 refine gH E.bf E.iR (E.ll 0).1 (v_ (E.ll 1).1).m rfl QaF ?_;refine gH E.bf E.wX (E.ll 0).1 (v_ (E.ll 2).1).m rfl QaF ?_;refine gH E.bf E.eU (E.ll 0).1 (dF bM aN).m rfl QaF ?_;refine gH E.bf E.jw (E.ll 0).1 agF.m rfl QaF ?_;refine gH E.bf E.pN (E.ll 0).1 Oz.m rfl QaF ?_;refine gH E.bf E.gC (E.ll 0).1 (A3 (ak (aM E.zI Qd)) Q2 (.inl #[Wl,Wl])).m rfl QaF ?_;refine LM (i:=0) _ w rfl (K5 (iu)) (λd hd=>by cases hd) (aj ?_);rfl
noncomputable def nY:FG pV ["self","chart","most"] ["ROWS_FOR_A_FLAT"] (ao pT):=fG
abbrev fV:=inClass (top 59) 1
abbrev gT:=Addr×D×Nat×World×GS×Pl
noncomputable abbrev c9:BA:=["self","opens","memory","flat"]
def di:gT->Bz:=λ(y,cd,mo,w,s,p)=>[.pin y Qly,.sh QeO,.sh QeP]
def dm:gT->Bz:=λ(y,cd,mo,w,s,p)=>[.pin y QqE,.sh QeO,.sh QeP]
def eV:gT->Prop:=λ(y,cd,mo,w,s,p)=>(s.fl.Nodup/\s.fl.length<=mo/\mo<=900)/\¬ (p∉s.fl/\s.fl.length=mo)
def eY:gT->T:=λ(y,cd,mo,w,s,p)=>(.sh Qve:T)
theorem mV(E:Qry){y:Addr}{w:World}{s:GS}{p:Pl}(h:s.fl.Nodup/\s.fl.length<=mo/\mo<=900)(j:p∉s.fl/\s.fl.length=mo->∃e W,X=Cx.i4 e (XE e W)/\eZ b W QeG) :
  c7 X CL b (bG fV) (nS c9 [.pin y Qly,.sh QeO,.sh QeP]) {nx:=λ_=>False,rt:=λm U=>¬ (p∉s.fl/\s.fl.length=mo)/\m=.sh Qve/\Keeps U [.pin y QqE,.sh QeO,.sh QeP]}:=by
 obtain⟨h1,h2,n⟩:=h;have ok:=Tz h1 We;apply LM (i:=0) _ X.w rfl (K5 iu) (K6 s.fl w X.w);unfold Nn;rw[acZ iu (ahc _)];apply aE E.g Qas (cK (aq (fM E.dz QR (bu _) Qd) (aq (fM E.dz Q2 (bu _) Qd) aV)) aN);show c7 X CL b _ [some _,some _,some _,some (.sh (jT p))] _;refine tU (J:=λU=>¬ (p∉s.fl/\s.fl.length=mo)/\U=[some (.pin y (.ins "Growth" (GC cd mo (.lst (((AW s.fl p).map jT).map T.sh)) (.lH X.w ((AW s.fl p).map jT) (EZ (AW s.fl p).length)) Qp4 Qnj))),some (.sh QeO),some (.sh QeP),some (.sh (jT p))]) (agH E.u ok Qad QsN (zB p) rfl) (λa=>?_) (λa=>?_) ?_
 .have a:=λz=>by rw[u3]at a;exact nt a (DG.2 z)
  have d:=λz=>a (DG.1 z);refine cg (dN (ak (bS (cM ..) E.cJ QkP Q1)) (ju (f6 E.bf E.wX Qch rfl rfl Wz) rfl (iQ Wz) rfl)).1 (λc=>?_) (λc=>aj ?_)
  .obtain⟨e,W,rfl,k⟩:=j #[a,We];exact VN E.g.calm Qaa E.rO E.E6 k
  have c:=nt c;apply agL E.u ok (bS (cM ..) E.cJ QkP Q1) Qqx Qbw rfl (iQ iu) (zB p) d;refine Kx (f6 E.bf E.eU Qch rfl rfl fH) rfl (iQ fH) Qbw rfl (iQ fH) WF (aj #[λz=>c We,?_]);unfold AW;rw[bW a,ky,ky,lj,oP,<- Za];rfl
 .have a:=by
   rw[HA]at a;exact DG.1 (l3 a)
  refine aj #[λz=>z.1 a,?_];unfold AW;rw[cq a]
 rintro U ⟨hn,rfl⟩;obtain⟨b1,b2,b3,o,f⟩:=LP h1 p;have hm:=l4 f;have l:(AW s.fl p).idxOf p=oe s.fl p:=by
  have:=List.idxOf_lt_length_of_mem hm;apply(Hk this b1).1;rw[kA this,List.getElem_idxOf,f]
 apply LM (i:=0) _ w rfl (K5 iu) (K6 _ X.w w);refine aY (eG (agG E.u (Tz b1 We) (amg QsN (K6 _ w X.w)) Qad (DG.2 hm) (by show(EZ _)[List.idxOf (jT p) _]? = _;rw[WB,l];exact ahg b2)) rfl) #[hn,rfl,?_];exact TM (ds:=[.lst _,.lst _])
def x6(E:Qry) :
  L3.DdM X CL b fV c9 di eV eY dm:=by
 rintro⟨y,cd,mo,w,s,p⟩ h;dsimp only [eV,di,eY,dm]at h ⊢;exact(mV E h.1 λz=>absurd z h.2).mono QeV λ_ _ z=>z.2
abbrev iT:Type:=Addr×D×Nat×World×GS×Pl
def dR:iT->Bz:=λ(y,cd,mo,w,s,p)=>[.pin y Qly,.sh QeO,.sh QeP]
def dS:iT->Prop:=λ(y,cd,mo,w,s,p)=>(s.fl.Nodup/\s.fl.length<=mo/\mo<=900)/\(p∉s.fl/\s.fl.length=mo)
def dU:iT->Str:=λ(y,cd,mo,w,s,p)=>"TooWide"
variable{W:XK}
def wC(E:GD c9 ["tuple","len","TooWide"] QbA CL)(y cd mo w s p)(h:dS (y,cd,mo,w,s,p))(a:eZ b W (CL (dU (y,cd,mo,w,s,p)))) :
  c7 QbA CL b (bG fV) (nS c9 (dR (y,cd,mo,w,s,p))) {nx:=λ_=>False,rt:=λ_ _=>False}:=by
 dsimp only [dS,dR,dU]at h a ⊢;exact(mV E h.1 λ_=>#[X,W,rfl,a]).mono QeV λ_ _ z=>absurd h.2 z.1
noncomputable def dW:FG c9 ["self","opens","memory"] ["tuple","len","TooWide"] (ao fV):=fG
abbrev lQ:=top 22
abbrev pW:=At×At×BA×AT×AT×At×At×At×AT
noncomputable abbrev pX:BA:=["chart","opens"]
def mJ:pW->At:=λ(bs,nm,ks,es,ss,is,os,ws,ops)=>[fP bs nm Qba is os ws,.lst Qb4]
def mK:pW->Prop:=λ(bs,nm,ks,es,ss,is,os,ws,ops)=>ops.length<=1000/\∀x∈ops,0<=x/\x<ks.length
def jx:pW->T:=λ(bs,nm,ks,es,ss,is,os,ws,ops)=>(.lst (((Wm ks ops).map .int).map T.sh):T)
structure Hg(X:Cx)(CL:BM):Prop extends EL X pX [],fU X.K X.mg CL where
 kK:GQ X "chart"
def Hh(E:Hg X CL) :
  kC X CL b lQ pX mJ mK jx:=by
 rintro⟨bs,nm,ks,es,ss,is,os,ws,ops⟩ h;dsimp [jx]at h ⊢;obtain⟨hl,e⟩:=h;refine aY (oN (p:=λd=>NY ks d.wL) (g:=T.sh) QhZ E.g.calm (dZ Qbx) QaB (λC s0 i f0 f d hd=>?xM) (Nat.le_of_lt (bZ (by simpa using hl)))) ?eq
 case xM=>
  obtain⟨x,c,rfl⟩:=i9.1 hd;obtain⟨x0,a⟩:=e x c;exact#[(cH (bz (bV (by exact E.jh) (by exact E.gS) (bV (by exact E.bY) (by exact E.cZ) (iH 1) fQ) k7) (jR 0) (fq _ x0 a)) bH).1,λ_=>v_ (C9 0)]
 case eq=>
  rw[p3,kc,kc];rfl
def uG:Q7 (ao lQ) ([("chart",.cell),("opens",ck)])=true:=by decide +kernel
noncomputable def FH:cW pX ["chart","opens"] (ao lQ):=iW
abbrev n5:=top 38
abbrev n6:=G0
noncomputable abbrev n9:BA:=["branch"]
def iY:n6->At:=λs=>[K3 s]
def iZ:n6->Prop:=λs=>True
def i6:n6->T:=λs=>(.sh (K3 (Wx s)):T)
def FI(E:GD n9 ["LEAF","ASKED","PICKED","HELD"] X CL) :
  kC X CL b n5 n9 iY iZ i6:=by
 intro s h;dsimp only [iZ,iY,i6]at h ⊢;exact aY (aK (cK (aq (fh (aD QP QvE gA) ai) (aq j6 (aq (cy QaH (ak (aM E.vK Q1)) tM) (aq (cy QaH (ak (aM E.qL Qaa)) Kz) (aq (cy QaH (ak (aM E.Le Qak)) QnE) aV))))) aN) (t2:=.sh (K3 (Wx s))) rfl) rfl
noncomputable def tG:FG n9 ["branch"] ["LEAF","ASKED","PICKED","HELD"] (ao n5):=fG
abbrev pY:=top 21
abbrev pZ:=At×At×D×At×At×List bN×Nat×bN
noncomputable abbrev qa:BA:=["chart","way"]
def mL:pZ->At:=λ(bs,nm,tr,is,os,ws,k,w)=>[fP bs nm tr is os Qa2,.int k]
def jy:pZ->Prop:=λ(bs,nm,tr,is,os,ws,k,w)=>ws[k]? = some w/\w.asks.length<=1000/\D.bC w.asks=true/\∀d∈w.asks,∃x r,d=.tup (.str x::r)
def mO:pZ->T:=λ(bs,nm,tr,is,os,ws,k,w)=>(.sh (.tup (Pj w.asks)):T)
def Hi(E:GD qa ["tuple","ASKS"] X CL) :
  kC X CL b pY qa mL jy mO:=by
 rintro⟨bs,nm,tr,is,os,ws,k,w⟩ h;obtain⟨a,hl,hi,c⟩:=h;have e:wg _ k=some (f7 w):=cR (by rw[k4,a];rfl);refine aY (fM E.dz (Vx (aK (oN Qpy E.g.calm (RJ (cy (J4 QeH QR e) (ak (aM E.To Q1)) rfl)) QaB (λC s0 i f0 f d hd=>?xM) (mi (bZ hl))) rfl) rfl) (jr λd hd=>qC hi d (l0.1 hd).1) Qd) rfl
 case xM=>
  obtain⟨x,r,rfl⟩:=c d hd;exact#[(afT (aD (jR 0) ai gA) (ak (cK Qik aN)) rfl rfl).1,λ_=>v_ (C9 0)]
noncomputable def uH:FG qa ["chart","way"] ["tuple","ASKS"] (ao pY):=fG
abbrev uI:=top 40
abbrev uJ:=G0×Int
noncomputable abbrev uK:BA:=["branch","way","picked"]
def qb:uJ->At:=λ(s,w)=>[K3 s,.int w]
def qc:uJ->Prop:=λ(s,w)=>s.pk.length<=100000
def qd:uJ->T:=λ(s,w)=>(.sh (K3 (n7 s w)):T)
theorem PV(E:GD uK ["PICKED","LEAF","WAY","ASKED","HELD"] X CL) :
  kC X CL b uI uK qb qc qd:=by
 rintro⟨s,w⟩ h;have h:s.pk.length<=100000:=h;apply aE E.g Qam (cy QaH (ak (aM E.qL Qd)) Kz);refine tU (λU=>U=[some QoF,some (.sh (.int w)),some (.sh (.tup ((rN s.pk w).map .int)))]) (vC QR Q2 rfl rfl).1 (λa=>?_) (λa=>?_) ?_
 .have e:=by
   rw[u3]at a;exact nt a
  refine aE E.g Qam (OB QaM (cK (aq Qbx aV) aN) Qt7 (by rw[cM,l7];show s.pk.length+1<=_;lia)) (aj ?_);unfold rN;rw[bW e,ky];rfl
 .have e:=by
   rw[HA]at a;exact l3 a
  apply aj;unfold rN;rw[cq e];rfl
 rintro U rfl;exact aY (aK (cK (aq (cy QaH Qvf gA) (aq (cy QaH (ak (aM E.Jf Qaa)) mh) (aq (cy QaH (ak (aM E.vK Qak)) tM) (aq QaM (aq (cy QaH QuN Qd7) aV))))) aN) rfl) rfl
noncomputable def zT:FG uK ["branch","way"] ["PICKED","LEAF","WAY","ASKED","HELD"] (ao uI):=fG
abbrev qe:=top 39
abbrev qf:=G0
noncomputable abbrev qg:BA:=["branch"]
def jz:qf->At:=λs=>[K3 s]
def jA:qf->Prop:=λs=>True
def jB:qf->T:=λs=>(.sh (K3 (nC s)):T)
def Hj(E:GD qg ["LEAF","WAY","ASKED","PICKED","HELD"] X CL) :
  kC X CL b qe qg jz jA jB:=by
 intro s h;dsimp only [jA,jz,jB]at h ⊢;exact aY (aK (cK (aq (cy QaH QvE gA) (aq (fh (aD QP (ak (aM E.Jf Q1)) mh) ai) (aq (cy QaH (ak (aM E.vK Qaa)) tM) (aq (cy QaH (ak (aM E.qL Qak)) Kz) (aq (cy QaH QuN QnE) aV))))) aN) (t2:=.sh (K3 (nC s))) rfl) rfl
noncomputable def uL:FG qg ["branch"] ["LEAF","WAY","ASKED","PICKED","HELD"] (ao qe):=fG
abbrev uM:=top 41
abbrev uN:=CI×Int×Bool
noncomputable abbrev uO:BA:=["held","way","holds","behind"]
def lR:uN->At:=λ(hl,w,c)=>[.kT (Y5 hl),.int w,.bl c]
def iz:uN->Prop:=λ(hl,w,c)=>gO hl w=none/\hl.length<=10000
def lS:uN->T:=λ(hl,w,c)=>(.kT (Y5 (hl++[(w,c)])):T)
theorem PX(E:GD uO ["dict"] X CL) :
  kC X CL b uM uO lR iz lS:=by
 rintro⟨hl,w,c⟩ h;dsimp only [iz,lR,lS]at h ⊢;obtain⟨h1,h2⟩:=h;refine aE E.g Qas (abM E.amK QaH Qd) ?_;refine TC Qd1 E.u (E.ll 3).1 QaM QR rfl (by unfold Y5;rw[cM];lia) ?_;refine aY QgC ?_;show T.kT _=T.kT _;rw[ag8 c h1]
noncomputable def zU:FG uO ["held","way","holds"] ["dict"] (ao uM):=fG
abbrev BO:=top 37
abbrev BP:=At×At×D×At×At×List bN×EU×G0
noncomputable abbrev BQ:BA:=["chart","rows","branch","way","asks","held","holding","failing"]
def uP:BP->At:=λ(bs,nm,tr,is,os,ws,R,s)=>[fP bs nm tr is os Qa2,LO R,K3 s]
def uQ:BP->Prop:=λ(bs,nm,tr,is,os,ws,R,s)=>s.i<R.length/\s.j<=(R.getD s.i []).length/\(s.qs.length<=1000000/\s.pk.length<=10000/\s.hl.length<=10000)/\(∀l∈R,∀w∈l,0<=w/\w<(ws.length:Int))/\SK ws
def uR:BP->T:=λ(bs,nm,tr,is,os,ws,R,s)=>(.lst (((ot ws R s).map K3).map T.sh):T)
structure Zi(X:Cx)(CL:BM):Prop extends EL X BQ ["WAY","len","LEAF","at_next_leaf","number_asks","HELD","with_pick","at_next_way","ASKED","PICKED","with_held"],fU X.K X.mg CL where
 kL:Fc X CL "at_next_leaf" 1 1 iY iZ i6
 Hl:Fc X CL "number_asks" 1 2 mL jy mO
 uS:Fc X CL "with_pick" 1 2 qb qc qd
 xh:Fc X CL "at_next_way" 1 1 jz jA jB
 CN:Fc X CL "with_held" 1 3 lR iz lS
theorem Zj(E:Zi X CL) :
  kC X CL b BO BQ uP uQ uR:=by
 rintro⟨bs,nm,tr,is,os,ws,R,s⟩ h;obtain⟨hi,S,⟨O,P,L⟩,M,C⟩:=h;have G:wg Qsl (s.i:Int)=some _:=(fq [] We We).trans (by rw[ke]);show c7 X CL b _ _ {nx:=_,rt:=λN _=>N=T.lst _,bk:=_,ct:=_};unfold ot;have hl:((R.getD s.i []).map D.int).length=(R.getD s.i []).length:=cM ..;have m:s.pk.length<=100000:=by lia
 refine cg (dN QvF (ak (bS hl E.cJ Qsm Q1))).1 (λa=>?_) (λa=>aj ?_)
 .rw[cq We];exact aY (dF (aH (cF s E.kL Qak QjA trivial) bM) aN) rfl
 rw[bW We];have J:s.j<(R.getD s.i []).length:=by lia
 have y:wg ((R.getD s.i []).map D.int) (s.j:Int)=some _:=(fZ We We).trans (by rw[ke]);obtain⟨p,H⟩:0<=(R.getD s.i []).getD s.j 0/\(R.getD s.i []).getD s.j 0<(ws.length:Int):=by
  refine M (R.getD s.i []) ?_ _ ?_
  .rw[km,kA hi];exact ri _
  .rw[km (l:=R.getD s.i []),kA J];exact ri _
 refine aE E.g Qas (eG (bz Qsm QvF y) rfl) ?_;generalize (R.getD s.i []).getD s.j 0=w at p H ⊢;have r:ws.getD w.toNat w0∈ws:=by
  rw[km,kA We];exact ri _
 obtain⟨a1,a2,a3,a4⟩:=C _ r;have x:ws[w.toNat]? = some (ws.getD w.toNat w0):=by rw[km,kA We];rfl
 have t:D.bC ((wQ ws w).map wB)=true:=eO QcP _;have K:=C.len w;have F:Pj (ws.getD w.toNat w0).asks=(wQ ws w).map wB:=a4;refine aE E.g Qal (aK (c_ (bs,nm,tr,is,os,ws,w.toNat,ws.getD w.toNat w0) E.Hl QaL (ah QP (ah (sY Qad (congrArg D.int (show w=((w.toNat:Nat):Int) by lia))) aA)) (by dsimp only [jy];exact#[x,We,a2,a3]) (by show D.bC (Pj _)=true;rw[F];exact t)) (by show T.sh (.tup (Pj _))=_;rw[F])) ?_;refine aE E.g Qau (cy QaM (ak (aM E.Le QbF)) QnE) ?_;have o:∀{b:Bool},(decide ((((wQ ws w).map wB).length:Int)=0))=b->(b=true↔wQ ws w=[]):=λe=>by
  subst e;rw[cM,pf];constructor
  .intro z;exact HH We
  .intro z;rw[z];rfl
 have hv:=ag7 s.hl w;cases n:gO s.hl w with
 | some c=>
  have k:yW QpN Qd1=some (.bl c):=by rw[hv,n];rfl
  refine cg (gK (fE (dN Qtm ai).1 (λ_=>eN (gK (j7 Qh7 (λ_=>lJ (eL (eG (aga Qd1 E.u Qac Qad k) rfl)))))))) (λa=>?_) (λa=>aj ?_)
  .rw[k]at a;have A:wQ ws w=[]\/some c=some true:=by
    cases c with
    | true=>exact .inr rfl
    | false=>
     rw[wz,wy]at a;exact .inl ((o rfl).1 a)
   rw[cq A];exact aY Qqb rfl
  .rw[k]at a;have f:¬ wQ ws w=[]:=λz=>by
    rw[(o rfl).2 z]at a;cases a
   have v:c=false:=by
    cases c with
    | true=>rw[Option.isSome_some,xb,Bool.or_true]at a;cases a
    | false=>rfl
   subst v;rw[bW (λz=>z.elim f (λz=>by cases z)),cq rfl];refine cg Qh7 (λ_=>?_) (λhz=>by rw[k]at hz;cases hz);exact aY (dF (aH (cF s E.xh Qdm QjA trivial) bM) aN) rfl
 | none=>
  have k:yW QpN Qd1=none:=by rw[hv,n];rfl
  refine cg (gK (fE (dN Qtm ai).1 (λ_=>eN (gK (j7 (q:=false) Qh7 (λhz=>by rw[k]at hz;cases hz)))))) (λa=>?_) (λa=>aj ?_)
  .rw[k]at a;have A:wQ ws w=[]:=by
    rw[wz,wy]at a;exact(o rfl).1 a
   rw[cq (.inl A)];exact aY Qqb rfl
  .have f:¬ wQ ws w=[]:=λz=>by
    rw[(o rfl).2 z]at a;cases a
   rw[bW (λz=>z.elim f (λz=>by cases z)),bW (λz=>by cases z)];refine cg Qh7 (λhz=>by rw[k]at hz;cases hz) (λ_=>aj ?_);have B:∀c:Bool,iz (s.hl,w,c):=λc=>by dsimp only [iz];exact#[n,L]
   have I:(wQ ws w).map wB≠[]:=λz=>f (List.map_eq_nil_iff.1 z);refine aE E.g QaR (jt (d:=K3 #[s.i,s.j,s.qs++wQ ws w,s.pk,s.hl++[(w,true)]]) (kX (aH Qvg (aH Qvh (aH (OB Qrz Qe6 I (by rw[cM,cM,l7];lia)) (aH QrA (aH (aK (cF (s.hl,w,true) E.CN QpQ Qsc (B true)) (t2:=.kT (Y5 (s.hl++[(w,true)]))) rfl) bM))))) aN) (by
    rw[T.fC,T.dB,T.dB,T.dB,T.dB,T.dB,T.dB,T.fC,T.fC,T.fC,T.fC,T.fC,<- ky];rfl)) ?_
   refine aE E.g QbS (jt (d:=K3 #[s.i,s.j,s.qs,s.pk,s.hl++[(w,false)]]) (kX (aH Qvg (aH Qvh (aH Qrz (aH QrA (aH (aK (cF (s.hl,w,false) E.CN QpQ Qsc (B false)) (t2:=.kT (Y5 (s.hl++[(w,false)]))) rfl) bM))))) aN) (by
    rw[T.fC,T.dB,T.dB,T.dB,T.dB,T.dB,T.dB,T.fC,T.fC,T.fC,T.fC,T.fC];rfl)) ?_
   exact aY (dF (aH (cF _ E.xh Qdm (aq QdS aV) trivial) (aH (cF _ E.kL Qak (aq (cF ((#[s.i,s.j,s.qs++wQ ws w,s.pk,s.hl++[(w,true)]]:G0),w) E.uS Qbq (aq Qgt (aq Qbw aV)) (by exact m)) aV) trivial) bM)) aN) rfl
noncomputable def FJ:FG BQ ["chart","rows","branch"] ["WAY","len","LEAF","at_next_leaf","number_asks","HELD","with_pick","at_next_way","ASKED","PICKED","with_held"] (ao BO):=fG
abbrev LX:=top 11
abbrev LY:=BA×AT×AT×Int
noncomputable abbrev LZ:BA:=["tree","mood","found","elder"]
def lA:LY->At:=λ(ks,es,ss,m)=>[dP ks es ss,.int m]
def lB:LY->Prop:=λ(ks,es,ss,m)=>dh es/\0<=m/\m<es.length/\es.length<=1000
def lC:LY->T:=λ(ks,es,ss,m)=>(.lst (((bP es m).map .int).map T.sh):T)
theorem ahO(E:GD LZ [] X CL) :
  kC X CL b LX LZ lA lB lC:=by
 rintro⟨ks,es,ss,m⟩ h;obtain⟨d,h0,h1,hlen⟩:=h;apply aE E.g Qam Qa8;apply aE E.g Qas (eG (bz Qmj QR (fZ h0 h1)) rfl);have hm:=d.at h0 h1;apply Kc E.g (λn U=>∃(k:Int) (l:AT),U=[some _,some _,some Qsn,some Qjm] /\ -1<=k/\k<n/\k<es.length/\l++Dw n es k=bP es m/\l.length+n<=es.length+1) Qe8
  #[ _,[],rfl,hm.1,We,We,rfl,Wp]
 rintro n U ⟨k,l,rfl,k0,k1,k2,k3,i⟩;refine#[_,_,(pH Qad QdV).1,λa=>?_,λa=>?_]
 .have c:=by simpa using a
  have f:=d.at We k2;cases n with
  | zero=>lia
  | succ n=>
   apply ja (E.ll 2).1 rfl Qbw rfl WF;apply aE E.g Qas (eG (bz Qmj Qad (fZ We k2)) rfl);refine aj #[n,Nat.lt_succ_self _,_,l++[k],?_,f.1,We,We,?_,WF]
   .simp
   .rw[<- k3,Dw,bW c,ka];rfl
 .have c:=by simpa using a
  subst c;have e:l=bP es m:=by
   rw[<- k3];cases n with
   | zero=>rw[Dw,ko]
   | succ n=>rw[Dw,cq rfl,ko]
  subst e;exact aY Qe5 rfl
noncomputable def PZ:FG LZ ["tree","mood"] [] (ao LX):=fG
abbrev TF:=top 20
abbrev TH:=List xQ×AT
noncomputable abbrev TL:BA:=["asks","opens","ask"]
def FL:TH->At:=λ(l,ops)=>[.tup Qpl,.lst Qb4]
def FN:TH->Prop:=λ(l,ops)=>∀a∈l,a.J7
def zV:TH->T:=λ(l,ops)=>(.sh (.bl (Ph ops Qpl)):T)
def am5(E:GD TL [] X CL) :
  kC X CL b TF TL FL FN zV:=by
 rintro⟨l,ops⟩ h;dsimp [zV]at h ⊢;refine eS E.g Qam (λj U=>∃o,(∀d∈(l.map Br).take j,Y0 ops d=true)/\U=[some _,some _,o])
  (RJ QaH) #[_,λx u=>by simp at u,rfl] (by rintro j U ⟨_,_,rfl⟩;exact i5 rfl) ?turn ?fin
 case turn=>
  rintro j d U s ⟨o,p,rfl⟩;have z:(l.map Br).take QU=(l.map Br).take j++[d]:=by rw[sm,s];rfl
  have n:=l4 s;have no:Y0 ops d=false->Ph ops _=false:=λe=>List.all_eq_false.2 #[d,n,by rw[e];decide];obtain⟨a,w,rfl⟩:=i9.1 n;have v:=h a w;have i:Y0 ops _=true->∀y∈(l.map Br).take _,Y0 ops y=true:=λe y f=>by
   rw[z]at f;obtain f|f:=i8.1 f
   .exact p y f
   .exact lh.1 f▸e
  cases a with
  | num mk b1 m1 b2 m2=>
   obtain⟨n1,t⟩:=ag2 v;refine cg (gK (j7 (q:=false) (cH QeZ bH).1 (λr=>absurd (l3 r) n1))) (λc=>by simp at c) (λ_=>aj ?_);refine cg (gK (j7 (q:=false) (cH QeZ bH).1 (λr=>absurd (l3 r) t))) (λc=>by simp at c) (λ_=>aj (aj #[_,i rfl,rfl]))
  | GZ op m=>
   have hf:=acK ops op m;refine cg (gK (j7 (cH QeZ bH).1 (λ_=>lJ (vC QeZ QR rfl rfl).1))) (λc=>?_) (λc=>aj ?_)
   .have c:=c;apply aY oK;rw[no];rw[hf];cases op with
    | false=>exact absurd c (by rw[show decide _=false by decide +kernel];simp)
    | true=>rw[Bool.and_eq_true]at c;simpa using c.2
   refine cg (gK (j7 (cH QeZ bH).1 (λ_=>lJ (oM QeZ QR rfl rfl).1))) (λk=>?_) (λk=>aj (aj #[_,i ?_,rfl]))
   .apply aY oK;rw[no];rw[hf];cases op with
    | true=>exact absurd k (by rw[show decide _=false by decide +kernel];simp)
    | false=>rw[Bool.and_eq_true]at k;simpa using k.2
   .rw[hf];cases op with
    | true=>simpa using c
    | false=>simpa using k
 case fin=>
  rintro U ⟨o,p,rfl⟩;rw[mv]at p;apply aY oK;rw[show Ph ops _=true from nr.2 p]
noncomputable def W2:FG TL ["asks","opens"] [] (ao TF):=fG
abbrev zW:=top 19
abbrev FP:=At×At×BA×AT×AT×At×At×List bN×AT×Int×Str
noncomputable abbrev FQ:BA:=["chart","opens","leaf","sign","found","number","way","line"]
def x8:FP->At:=λ(bs,nm,ks,es,ss,is,os,ws,ops,leaf,sg)=>[fP bs nm Qba is os Qa2,.lst Qb4,.int leaf,.str sg]
def x9:FP->Prop:=λ(bs,nm,ks,es,ss,is,os,ws,ops,leaf,sg)=>dh es/\es.length<=900/\0<=leaf/\leaf<es.length/\ws.length<=63/\EJ ws
def r9:FP->T:=λ(bs,nm,ks,es,ss,is,os,ws,ops,leaf,sg)=>(.lst (((r3 ws ops sg QxX).map .int).map T.sh):T)
structure adA(X:Cx)(CL:BM):Prop extends EL X FQ ["above","enumerate","SIGN","SOURCE","fits","ASKS","sorted"],fU X.K X.mg CL where
 kK:GQ X "chart"
 am6:GQ X "line"
 m8:Fc X CL "above" 1 2 lA lB lC
 am7:Fc X CL "fits" 1 2 FL FN zV
 lam:x3 X CL "#goable.<locals>.<lambda>" "goable.<locals>.<lambda>"
 dp:X.A.depth<recursionLimit
 rm:fc 1 X.A
theorem adB(E:adA X CL) :
  kC X CL b zW FQ x8 x9 r9:=by
 rintro⟨bs,nm,ks,es,ss,is,os,ws,ops,leaf,sg⟩ h;dsimp [r9]at h ⊢;obtain⟨z,hl,f0,f1,K,u⟩:=h;have M:(bP es leaf).length<=es.length+1:=zg _ _ _;have I:([D.int leaf]++(bP es leaf).map _)=(leaf::bP es leaf).map _:=rfl;refine aE E.g QbS (aK (rA (bR (ds:=[.int leaf]) (dF (aH QaM bM) aN)) (bR (c_ (ks,es,ss,leaf) E.m8 Qd (ah Qc6 QdT) (#[z,f0,f1,We]) (aP _))) rfl (bu _) QgP) (t2:=.lst (((leaf::bP es leaf).map .int).map T.sh)) rfl) ?_;generalize leaf::bP es leaf=ln;apply aE E.g Qal Qa8;have C:∀(l:AT) (x:Int),(l.map D.int).map T.sh++[T.sh Qec]=((l++[x]).map D.int).map T.sh:=by simp
 refine Kg E.g (Ds E.g.nd E.g.calm Qau QaR) (λj U=>∃n m,U=[some _,some _,some _,some _,some (.lst ((((tW ws ops sg ln j).map λ(k:Nat)=>(k:Int)).map .int).map T.sh)),n,m,some _])
  (Oq w0 E.CK QeH Q1) #[_,_,rfl] (λj U ⟨_,_,e⟩=>by subst e;intro i hi;simp only[fL,lL,or_false]at hi;obtain rfl|rfl:=hi<;>exact i5 rfl) ?turn ?fin
 case turn=>
  rintro j d U A ⟨n,m,rfl⟩;obtain⟨i,rfl,hi,s,o,_,_⟩:=jI A;have B:=by
   rw[List.getElem?_range (by simpa using (List.getElem?_eq_some_iff.1 hi).1)]at hi;exact(mu hi).symm
  subst B;have o:=nk.1 s;refine#[_,rfl,?_];obtain⟨w,hw⟩:∃w,ws.getD i w0=w:=#[_,rfl];have q:w∈ws:=by rw[<- hw,km,kA o];exact ri _
  obtain⟨al,p,t⟩:=u w q;show c7 X CL b _ _ {nx:=λU=>∃n m,U=[_,_,_,_,some _,n,m,_],rt:=_,bk:=_,ct:=_};rw[acL,hw];have H:=K1 ws ops sg ln i;refine cg (gK (j7 (cH (aD QaS (ak (aM E.Ts Qaa)) mh) Qad).1 (λ_=>j7 (oM (aD QaS (ak (aM E.zJ Qak)) gA) QnX rfl rfl).1 (λ_=>lJ (eL (aK (c_ (al,ops) E.am7 QaL (ah (sY (aD QaS (ak (aM E.To QbF)) tM) (congrArg _ p)) Qlc) (t) rfl) (t2:=.sh (.bl (Ph ops w.asks))) (by rw[p];rfl))))))) (λa=>?_) (λa=>aj (aj ?_))
  .have a:tw ops sg ln w=true:=a;refine ja (E.ll 4).1 rfl QbP rfl WF (aj (aj ?_));rw[C,cq a,ky];exact#[_,_,rfl]
  .have a:tw ops sg ln w=false:=a;rw[bW (by rw[a];decide),ko];exact#[_,_,rfl]
 case fin=>
  rintro U ⟨n,m,rfl⟩;rw[cM,m3];have H:=K1 ws ops sg ln ws.length;have F:∀{k:Nat},k∈tW ws ops sg ln _->k<ws.length/\(ws.getD k w0).src∈ln:=λr=>by
   obtain⟨h1,h2⟩:=l0.1 r;simp only[tw,l9,pf]at h2;exact#[nk.1 h1,h2.2.1]
  refine aY (aK (En (y:="way") (g:=λd=>((YZ ln (ws.getD d.wL.toNat w0).src))) E.lam E.g E.dp E.kH Qbq (cj (.cons (E.ll 0).1 Qo6 (.cons (E.ll 7).1 (.inl E.am6) .nil)) Wi) Qcp (bu _) WF (λf c s0 L J d hd=>?key)) ?eq) rfl
  case key=>
   obtain⟨x,v,rfl⟩:=i9.1 hd;obtain⟨k,r,rfl⟩:=i9.1 v;obtain⟨k1,k2⟩:=F r;have G:wg Qa2 k=some _:=(fq w0 We We).trans (by rw[ke]);refine ak (aK (abH (sY (ak (v_ (Kp (i:=2) rfl Wi))) (bT _)) (aD (bz (bV (E.bY) (E.dQ) QlM gj) Qs4 G) (ak (aM (E.zJ) (R4 Wi))) gA) (ag1 k2) (λi hi=>amu hi)) ?_);show T.sh _=T.sh (.int ((YZ ln (ws.getD (k:Int).toNat w0).src:Nat):Int));rw[ke]
  case eq=>
   rw[IQ];rfl
def BR:Q7 (ao zW) ([("chart",.cell),("opens",ck),("leaf",ck),("sign",ck),("found",ck),("number",ck),("way",ck),("line",.cell),("above",bB),("enumerate",bB),("SIGN",bB),("SOURCE",bB),("fits",bB),("ASKS",bB),("sorted",bB)])=true:=by decide +kernel
noncomputable def Jq:cW FQ ["chart","opens","leaf","sign"] (ao zW):=iW
theorem W3:∀{l:Ch} {n:Nat},n∈l->n<=l.sum
 | [],_,h=>by cases h
 | m::l,n,h=>by
  simp;obtain rfl|h:=fL.1 h
  .lia
  .have:=W3 h;lia
theorem W4{α:Type}{f:α->Nat}:∀{W:Qaf} {M:Nat},W.Pairwise (λa b=>f b<f a)->(∀s∈W,f s<=M)->W.length<=M+1
 | [],_,_,_=>kx _
 | s::W,M,h,k=>by
  simp at h;have a:=k s Wp;cases W with
  | nil=>rw[oP];lia
  | cons t W=>
   have z:=h.1 t Wp;have:=W4 (M:=M-1) h.2 λx c=>by have:=h.1 x c;lia
   rw[mM];lia
theorem ahP{R:EU}{s:G0}(hi:s.i<R.length)(d:s.j<=(R.getD s.i []).length):(ot ws R s).Pairwise Qsd:=by
 obtain⟨i,j,q,p,hl⟩:=s;unfold ot;split
 .exact nZ ..
 .split
  .exact nZ ..
  .split
   .exact nZ ..
   .rw[mN];refine#[λt c=>?_,nZ ..];rw[lh.1 c];generalize (R.getD i []).getD j 0=w;rw[show n7 _ w=#[i,j,_,_,_ ] from rfl,oS];unfold zy nC;dsimp;rw[cq hi,fF];lia
abbrev lD:=top 36
abbrev yb:=At×At×BA×AT×AT×At×At×List bN×AT×Str×Nat
noncomputable abbrev oh:BA:=["chart","opens","sign","most","rows","found","waiting","branch"]
def m9:yb->At:=λ(bs,nm,ks,es,ss,is,os,ws,ops,sg,mo)=>[fP bs nm Qba is os Qa2,.lst Qb4,.str sg,.int mo]
def kM:yb->Prop:=λ(bs,nm,ks,es,ss,is,os,ws,ops,sg,mo)=>(dh es/\es.length<=900/\ks.length=es.length)/\QlE/\(ops.length<=30/\∀x∈ops,0<=x/\x<(es.length:Int))/\(tQ ws QeC [] [] []).length<=mo/\mo<=1000
def ng:yb->T:=λ(bs,nm,ks,es,ss,is,os,ws,ops,sg,mo)=>(.lst (((tQ ws QeC [] [] []).map v3).map T.sh):T)
structure yc(X:Cx)(CL:BM):Prop extends EL X oh ["open_leaves","LEAF","len","further","ASKED","PICKED","TooWide"],fU X.K X.mg CL where
 kK:GQ X "chart"
 ahQ:GQ X "opens"
 am8:GQ X "sign"
 Ho:Fc X CL "open_leaves" 1 2 mJ mK jx
 Zk:Fc X CL "further" 2 3 uP uQ uR
 qP:Fc X CL "goable" 2 4 x8 x9 r9
theorem CP(E:yc X CL)(h:(dh es/\es.length<=900/\ks.length=es.length)/\QlE/\(ops.length<=64/\∀x∈ops,0<=x/\x<(es.length:Int))/\mo<=1000)(L:mo<(tQ ws QeC [] [] []).length->∃I W,X=Cx.i4 I (XE I W)/\eZ b W QeG) :
  c7 X CL b (bG lD) (entry oh [fP bs nm Qba is os Qa2,.lst Qb4,.str sg,.int mo]) {nx:=λ_=>False,rt:=λYz _=>(tQ ws QeC [] [] []).length<=mo/\Yz=.lst (((tQ ws QeC [] [] []).map v3).map T.sh)}:=by
 obtain⟨⟨f,De,tu⟩,⟨Z7,M,u⟩,⟨ae,Y⟩,ar⟩:=h;have J:∀x∈Wm ks ops,0<=x/\x<(es.length:Int):=λx j=>Y x (l0.1 j).1;have af:(Wm ks ops).length<=ops.length:=pz _ _;refine rD (p:=λ_=>true) (gg:=λd=>T.lst (((r3 ws ops sg Qx5).map D.int).map T.sh)) E.g Qal (cj (.cons (E.ll 0).1 Qo6 (.cons (E.ll 1).1 (.inl E.ahQ) (.cons (E.ll 2).1 (.inl E.am8) .nil))) Wi)
  (dZ (gQ (aK (c_ (bs,nm,ks,es,ss,is,os,ws.map f7,ops) E.Ho Qd QeK (by exact#[We,λx j=>tu▸Y x j ]) (aP _)) rfl))) QaB (λC s0 H0 f0 b' d hd=>?xM) (mi (bZ (by rw[cM];lia))) ?rest (by exact i5 rfl) QcO
 case xM=>
  obtain⟨x,j,rfl⟩:=i9.1 hd;obtain⟨x0,Z⟩:=J x j;exact#[rfl,λ_=>aK (c_ (bs,nm,ks,es,ss,is,os,ws,ops,x,sg) (lK E.qP) Ba (ah (iH 1) (ah (iH 2) (ah (jR 0) (ah (iH 3) aA)))) (by exact#[f,We,x0,Z,Z7,M]) (aP _)) rfl]
 case rest=>
 have em:(((Wm ks ops).map D.int).filter λ_=>true).map (λd=>T.lst (((r3 ws ops sg Qx5).map D.int).map T.sh))=(Bt ws ops sg es (Wm ks ops)).map λl=>T.lst ((l.map D.int).map T.sh):=by
  rw[gM,kc];unfold Bt;rw[kc];rfl
 rw[em];have k:=acW (ws:=ws) (ops:=ops) (sg:=sg) (es:=es) (l:=Wm ks ops);have A:(Bt ws ops sg es (Wm ks ops)).length<=64:=by unfold Bt;rw[cM];lia
 generalize Bt ws ops sg es _=R at k A L ⊢;refine aqu (i:=4) rfl (Y6 R) ?_;have hM:AV R<=4096:=by
  have h1:=amC (R:=R) λr hr=>(k r hr).2;have h2:R.length*(ws.length+1)<=64*64:=Nat.mul_le_mul A We;lia
 refine aE E.g Qau Qa8 ?_;refine aE E.g QaR (aK (dF (aH (jt (kX (aH j6 (aH j6 (aH (cK aV aN) (aH (cK aV aN) (aH VA bM))))) aN) (by
  rfl)) bM) aN) rfl) ?_
 generalize P:tQ ws R [] [] []=V at L ⊢;refine Kc E.g (λn U=>∃(W:List G0) (F:Qem) (o:QcZ),U=[some _,some _,some _,some _,some _,some (.lst ((F.map v3).map T.sh)),some (.lst ((W.map K3).map T.sh)),o]/\(∀s∈W,xy (AV R) 0 ws R s)/\F++(W.reverse.map Qkc).flatten=V/\n=(W.map (n4 R)).sum/\F.length<=mo/\W.Pairwise Qsd) _
  #[[#[0,0,[],[],[]]],[],none,rfl,λs hs=>?_,?_,rfl,kx _,nZ ..] ?_
 .rw[lh.1 hs];have e:=Sa R;exact#[kx _,kx _,by rw[e];show 0+_<=_;lia,by rw[e];show 0+_<=_;lia,by rw[e];show 0+_<=_;lia]
 .show tQ ws _ [] [] []++[]=V;rw[ko,Sa,P]
 rintro n U ⟨W,F,o,rfl,N,m,rfl,B,c⟩;have hlen:W.length<=AV R+1:=W4 c λs hs=>by have:=(N s hs).p1;lia
 refine#[_,_,al0 QdR,λH=>?_,λH=>?_]
 .have G:W≠[]:=λz=>by rw[z]at H;cases H
  obtain⟨W,s,rfl⟩:∃W' s,W=W'++[s]:=#[W.dropLast,W.getLast G,(List.dropLast_concat_getLast G).symm];have eW:((W++[s]).map K3).map T.sh=(W.map K3).map T.sh++[T.sh (K3 s)]:=by simp
  rw[eW];refine alS E.g QbS (al2 (E.ll 6).1 rfl) ?_;have hs:=N s (jN _ iB);rw[yY]at c;have K:=λt f=>c.2.2 t f s iB;have v:=λt f=>N t (kq _ f);have eR:((W++[s]).reverse.map Qkc).flatten=q0 ws R s++(W.reverse.map Qkc).flatten:=by
   rw[List.reverse_append];rfl
  rw[eR]at m;have q:((W++[s]).map (n4 R)).sum=(W.map (n4 R)).sum+n4 R s:=by
   rw[ky,List.sum_append];show _+(n4 R s+0)=_;lia
  have S:(R.map λl=>D.lst Qb5).length=R.length:=cM ..;have aa:=hs.q1;have Sd:=hs.p1;have ag:=hs.h1;rw[lj]at hlen;refine cg (Vv (aD QjX Qvf gA) (ak (bS S E.cJ Qai Qaa))).1 (λhc=>?_) (λhc=>?_)
  .obtain⟨g1,g2,g3,g4⟩:=amB hs We (λw=>u.len w);refine t6 (E.ll 6).1 rfl (aum (gQ (aK (cF (bs,nm,dP ks es ss,is,os,ws,R,s) E.Zk Qak (aq QaH (aq Qe6 (aq QdS aV))) (by exact#[We,hs.j1,#[We,We,We],λl hl=>(k l hl).1,u])) rfl))) rfl (by simp only[cM];lia) (aj (aj ?_));refine#[ _,?_,W++ot ws R s,F,some QoF,?_,λt f=>?_,?_,rfl,B,?_]
   .rw[q,ky,List.sum_append];lia
   .rw[ky,ky];rfl
   .obtain z|z:=i8.1 f
    .exact v t z
    .exact g1 t z
   .rw[<- m,g2,List.reverse_append,ky,List.flatten_append]
   .have g5:=λt f=>by
     have z:=W3 (i9.2 #[t,f,rfl]:n4 R t∈(ot ws R s).map (n4 R));exact(Nat.pow_lt_pow_iff_right (a:=3) Wl).1 (oI z g3)
    rw[yY];exact#[c.1,ahP We hs.j1,λx j y hy=>Nat.lt_trans (g5 y hy) (K x j)]
  .have eX:q0 ws R s=[(s.qs,s.pk)]:=by
    unfold q0;rw[show zy R s=[] by unfold zy;rw[bW We],K2]
   rw[eX]at m;have O:(F.map v3).length=F.length:=cM ..;refine cg (Vv (ak (bS O E.cJ QiZ Qaa)) Qad).1 (λhd=>?_) (λhd=>?_)
   .refine ja (E.ll 5).1 rfl (cK (aq (cy QdS (ak (aM E.vK QaL)) tM) (aq (cy QdS (ak (aM E.qL QbF)) Kz) aV)) aN) rfl (by simp only[cM];lia) (aj (aj (aj ?_)));refine#[ _,?_,W,F++[(s.qs,s.pk)],some QoF,?_,v,?_,rfl,?_,c.1]
    .rw[q];have:0<n4 R s:=Nat.pow_pos Wl;lia
    .rw[ky,ky];rfl
    .rw[<- m,ka]
    .rw[lj,oP];lia
   .obtain⟨I,W0,rfl,hE⟩:=L (by rw[<- m];simp only[lj,oP];lia);exact VN (X:=I) E.g.calm Qbq E.rO E.E6 hE
 .have G:W=[]:=by
   cases W with
   | nil=>rfl
   | cons s W=>cases H
  subst G;have e:F=V:=by rw[<- m];simp
  subst e;exact aY QnW #[B,rfl]
theorem TN(E:yc X CL) :
  kC X CL b lD oh m9 kM ng:=by
 rintro⟨bs,nm,ks,es,ss,is,os,ws,ops,sg,mo⟩ h;dsimp only [kM,m9,ng]at h ⊢;obtain⟨a,c,⟨d,e⟩,f,g⟩:=h;exact(CP E #[a,c,#[We,e],g] λz=>by lia).mono QeV λ_ _ z=>z.2
abbrev sd:Type:=At×At×BA×AT×AT×At×At×List bN×AT×Str×Nat
def kN:sd->At:=λ(bs,nm,ks,es,ss,is,os,ws,ops,sg,mo)=>[fP bs nm Qba is os Qa2,.lst Qb4,.str sg,.int mo]
def iU:sd->Prop:=λ(bs,nm,ks,es,ss,is,os,ws,ops,sg,mo)=>(dh es/\es.length<=900/\ks.length=es.length)/\QlE/\(ops.length<=64/\∀x∈ops,0<=x/\x<(es.length:Int))/\mo<(tQ ws QeC [] [] []).length/\mo<=1000
noncomputable def kO:sd->Str:=λ(bs,nm,ks,es,ss,is,os,ws,ops,sg,mo)=>"TooWide"
theorem P0(E:yc QbA CL)(bs nm ks es ss is os ws ops sg mo)(h:iU (bs,nm,ks,es,ss,is,os,ws,ops,sg,mo))(e:eZ b W (CL (kO (bs,nm,ks,es,ss,is,os,ws,ops,sg,mo)))) :
  c7 QbA CL b (bG lD) (entry oh (kN (bs,nm,ks,es,ss,is,os,ws,ops,sg,mo))) {nx:=λ_=>False,rt:=λ_ _=>False}:=by
 dsimp only [iU,kN,kO]at h e ⊢;obtain⟨a,c,d,f,g⟩:=h;exact(CP E #[a,c,d,g] λ_=>#[X,W,rfl,e]).mono QeV λ_ _ z=>by lia
def gP:Q7 (ao lD) ([("chart",.cell),("opens",.cell),("sign",.cell),("most",ck),("rows",ck),("found",ck),("waiting",ck),("branch",ck),("open_leaves",bB),("LEAF",bB),("len",bB),("further",bB),("ASKED",bB),("PICKED",bB),("TooWide",bB)])=true:=by decide +kernel
noncomputable def oV:cW oh ["chart","opens","sign","most"] (ao lD):=iW
abbrev FT:=top 13
abbrev FU:=BA×AT×AT×Int×Int
noncomputable abbrev FW:BA:=["tree","mood","other"]
def lE:FU->At:=λ(ks,es,ss,m,o)=>[dP ks es ss,.int m,.int o]
def lF:FU->Prop:=λ(ks,es,ss,m,o)=>dh es/\0<=m/\m<es.length/\es.length<=1000
def lG:FU->T:=λ(ks,es,ss,m,o)=>(.sh (.bl (decide (o=-1) || decide (o∈bP es m))):T)
structure adC(X:Cx)(CL:BM):Prop extends EL X FW ["above"],fU X.K X.mg CL where
 m8:Fc X CL "above" 1 2 lA lB lC
def adD(E:adC X CL) :
  kC X CL b FT FW lE lF lG:=by
 rintro⟨ks,es,ss,m,o⟩ h;exact aY (Pe (dN Q2 QdV).2 (λ_=>J3 (oM Q2 (bR (c_ (ks,es,ss,m) E.m8 Qd QeK h (aP _))) rfl rfl).2)) rfl
noncomputable def Jr:FG FW ["tree","mood","other"] ["above"] (ao FT):=fG
abbrev L0:=top 46
abbrev TQ:=BA×AT×AT×AT×Int
noncomputable abbrev TV:BA:=["tree","opens","upper"]
def FY:TQ->At:=λ(ks,es,ss,ops,u)=>[dP ks es ss,.lst Qb4,.int u]
def FZ:TQ->Prop:=λ(ks,es,ss,ops,u)=>dh es/\es.length<=1000/\ops.length<=1000/\∀m∈ops,0<=m/\m<es.length
def F0:TQ->T:=λ(ks,es,ss,ops,u)=>(.lst (((wO es ops u).map .int).map T.sh):T)
structure am9(X:Cx)(CL:BM):Prop extends EL X TV ["reversed"],fU X.K X.mg CL where
 ana:GQ X "tree"
 L5:GQ X "upper"
 mD:Fc X CL "within" 2 3 lE lF lG
theorem anb(E:am9 X CL) :
  kC X CL b L0 TV FY FZ F0:=by
 rintro⟨ks,es,ss,ops,u⟩ h;obtain⟨a,hl,c,hm⟩:=h;refine aY (oN (p:=λd=>decide QfF || decide (u∈bP es d.wL)) (g:=T.sh) (cj (.cons (E.ll 0).1 (.inl E.ana) (.cons (E.ll 2).1 (.inl E.L5) .nil)) Wi) E.g.calm
  (alA E.xT Qbx Qd) QaB (λC s0 j f0 e d hd=>?xM) QgP) ?eq
 case xM=>
  obtain⟨i,hi,rfl⟩:=i9.1 (w1.1 hd);have f:=hm i hi;exact#[eL (c_ (ks,es,ss,i,u) (lK E.mD) Ba (ah (iH 1) (ah (jR 0) (ah (iH 2) aA))) (#[a,We,We,hl]) rfl),λ_=>v_ (C9 0)]
 case eq=>
  rw[<- List.map_reverse,p3,List.filter_reverse];rfl
def L6:Q7 (ao L0) ([("tree",.cell),("opens",ck),("upper",.cell),("reversed",bB)])=true:=by decide +kernel
noncomputable def ahR:cW TV ["tree","opens","upper"] (ao L0):=iW
abbrev LB:=top 17
abbrev LA:=BA×AT×AT×Int×Int
noncomputable abbrev Lu:BA:=["tree","one","other","upper"]
def L7:LA->At:=λ(ks,es,ss,a,c)=>[dP ks es ss,.int a,.int c]
def L8:LA->Prop:=λ(ks,es,ss,a,c)=>dh es/\es.length<=1000/\ks.length=es.length/\(0<=a/\a<es.length)/\0<=c/\c<es.length
def DK:LA->T:=λ(ks,es,ss,a,c)=>(.sh (.int (KL QaG es a c)):T)
structure arb(X:Cx)(CL:BM):Prop extends EL X Lu ["above","within"],fU X.K X.mg CL where
 m8:Fc X CL "above" 1 2 lA lB lC
 mD:Fc X CL "within" 2 3 lE lF lG
theorem arc(E:arb X CL) :
  kC X CL b LB Lu L7 L8 DK:=by
 rintro⟨ks,es,ss,a,c⟩ h;dsimp [DK]at h ⊢;obtain⟨p,hl,w,⟨a0,a1⟩,c0,t⟩:=h;refine eS E.g Qas (λj U=>∃o,(∀x∈(bP es a).take j,Qso=false)/\U=[some _,some _,some _,o])
  (dZ (gQ (c_ (_,_,_,_) E.m8 Qd QeK ((#[p,a0,a1,hl])) (aP _)))) #[_,λx i=>by simp at i,rfl] (by rintro j U ⟨_,_,rfl⟩;exact i5 rfl) ?turn ?fin
 case turn=>
  rintro j d U m ⟨o,k,rfl⟩;rw[k4]at m;cases i:(bP es a)[j]? with
  | none=>rw[i]at m;cases m
  | some x=>
   rw[i]at m;cases m;have n:=l4 i;have s:=bI p a0 a1 n;have r:=(md.1 i).1;have v:(bP es a).take QU=(bP es a).take j++[x]:=by rw[sm,i];rfl
   refine cg (gK (j7 (cH (bz QiH Qad QlY) bH).1 (λz=>(lJ (eL (c_ (_,_,_,_,_) E.mD Q1 Qxm ((#[p,c0,t,hl])) rfl)))))) (λl=>?_) (λl=>aj (aj #[_,?_,rfl]))
   .apply aY Qbw;have q:Qso=true:=by
     have:decide (x=-1)=false:=la We;rw[this]at l;exact l
    have:(bP es a).find? (λx=>bK ks x&&decide (x∈bP es c))=some x:=by
     have u:=by
      have h2:=wj j (bP es a);rw[u7 r]at h2;have:=(md.1 i).2;rw[this]at h2;exact h2.symm
     conv=>lhs;rw[u]
     rw[List.find?_append,za.2 (λy f=>by rw[k y f];decide),p5,q];rfl
    show _=T.sh _;unfold KL;rw[this];rfl
   .intro y f;rw[v]at f;obtain f|f:=i8.1 f
    .exact k y f
    .have e:=by simpa using f
     subst e;have:decide (y=-1)=false:=la We;rw[this]at l;exact l
 case fin=>
  rintro U ⟨o,k,rfl⟩;rw[cM,mv]at k;apply aY (iD ai);unfold KL;rw[za.2 (λy f=>by rw[k y f];decide)];rfl
noncomputable def SO:FG Lu ["tree","one","other"] ["above","within"] (ao LB):=fG
abbrev BU:=top 24
abbrev BV:=At×At×BA×AT×AT×At×At×List bN×Int
noncomputable abbrev BW:BA:=["chart","number","way"]
def mE:BV->At:=λ(bs,nm,ks,es,ss,is,os,ws,i)=>[fP bs nm Qba is os Qa2,.int i]
def jW:BV->Prop:=λ(bs,nm,ks,es,ss,is,os,ws,i)=>dh es/\es.length<=1000/\ks.length=es.length/\QeR/\QhX/\0<=(gB ws i).kf/\(gB ws i).kf<es.length
def mF:BV->T:=λ(bs,nm,ks,es,ss,is,os,ws,i)=>(.sh (.int QwG):T)
structure Zm(X:Cx)(CL:BM):Prop extends EL X BW ["top","SOURCE","TARGET"],fU X.K X.mg CL where
 arf:Fc X CL "top" 3 3 L7 L8 DK
def Zn(E:Zm X CL) :
  kC X CL b BU BW mE jW mF:=by
 rintro⟨bs,nm,ks,es,ss,is,os,ws,i⟩ h;obtain⟨d,hl,e,⟨c,i1⟩,hs,a⟩:=h;exact aE E.g Qam (aK (J4 QeH QR (fq w0 c i1)) rfl) (aY (c_ (ks,es,ss,(gB ws i).src,(gB ws i).kf) E.arf Qd (ah Qc6 (ah (aD Q2 (ak (aM E.zJ Q1)) gA) (ah (aD Q2 Qvi Qd7) aA))) (#[d,hl,e,hs,a]) rfl) rfl)
noncomputable def F2:FG BW ["chart","number"] ["top","SOURCE","TARGET"] (ao BU):=fG
abbrev yd:=top 52
abbrev ye:=At×At×BA×AT×AT×At×At×List bN×AT×AT
noncomputable abbrev yf:BA:=["chart","opens","going","gone","number"]
def se:ye->At:=λ(bs,nm,ks,es,ss,is,os,ws,ops,gs)=>[fP bs nm Qba is os Qa2,.lst Qb4,.lst (gs.map .int)]
def ni:ye->Prop:=λ(bs,nm,ks,es,ss,is,os,ws,ops,gs)=>dh es/\es.length<=1000/\ks.length=es.length/\ops.length<=1000/\(∀m∈ops,0<=m/\m<es.length)/\(∀i∈gs,QeR/\QhX/\0<=(gB ws i).kf/\(gB ws i).kf<es.length)/\((gs.map Qca).flatMap λw=>wO es ops Qa9).length<64
def nj:ye->T:=λ(bs,nm,ks,es,ss,is,os,ws,ops,gs)=>(.lst (((jJ ks es ops Qxn).map .int).map T.sh):T)
structure TX(X:Cx)(CL:BM):Prop extends EL X yf ["left","way_top","sorted"],fU X.K X.mg CL where
 anc:Fc X CL "left" 3 3 FY FZ F0
 qQ:Fc X CL "way_top" 4 2 mE jW mF
theorem TY(E:TX X CL) :
  kC X CL b yd yf se ni nj:=by
 rintro⟨bs,nm,ks,es,ss,is,os,ws,ops,gs⟩ h;dsimp [nj]at h ⊢;obtain⟨f,hl,n,a,l,q,c⟩:=h;apply aE E.g Qas Qa8;refine eS E.g Qal (λj U=>∃o,U=[some _,some _,some _,some (.lst (((((gs.take j).map Qca).flatMap λw=>wO es ops Qa9).map .int).map T.sh)),o])
  (dZ QaM) #[_,rfl] (by rintro j U ⟨_,rfl⟩;exact i5 rfl) ?turn ?fin
 case turn=>
  rintro j d U p ⟨o,rfl⟩;obtain⟨i,rfl,_,hi,s,_,r⟩:=jI p;obtain⟨⟨k,i1⟩,hs,e⟩:=q i hi;have t:(((gs.take j).map _).flatMap _).length<64:=xa▸oI (pJ _ _) c;have m:(wO es ops QwG).length<=1000:=by
   unfold wO;rw[sx];exact l6 QfA a
  refine t6 (E.ll 3).1 rfl (Sh (bR (aK (c_ (ks,es,ss,ops,ig ks es _) E.anc Qd (ah Qc6 (ah QR (ah (ak (aK (c_ (bs,nm,ks,es,ss,is,os,ws,i) E.qQ Q1 Qgi (#[f,hl,n,#[k,i1],hs,e]) rfl) rfl)) aA))) (#[f,hl,a,l]) (aP _)) rfl)) (bu _)) rfl (by simp only[cM];lia) (aj #[some QjQ,?_]);rw[r];simp
 case fin=>
  rintro U ⟨o,rfl⟩;rw[cM,mv];exact aY (R0 E.kH Qbz c Qaa) rfl
noncomputable def CQ:FG yf ["chart","opens","going"] ["left","way_top","sorted"] (ao yd):=fG
abbrev sf:=top 47
abbrev sr:=BA×AT×AT×AT×AT×AT
noncomputable abbrev su:BA:=["tree","memory","opens","moods","behind","mood","elder"]
def oi:sr->At:=λ(ks,es,ss,mem,ops,fO)=>[dP ks es ss,.lst QcN,.lst Qb4,.lst (fO.map .int)]
def kP:sr->Prop:=λ(ks,es,ss,mem,ops,fO)=>dh es/\ks.length=es.length/\mem.length=es.length/\(∀m∈ops,0<=m/\m<es.length)/\(∀m∈fO,0<=m/\m<es.length)
def oj:sr->T:=λ(ks,es,ss,mem,ops,fO)=>(.lst (((Ss QaG es fO mem ops).map .int).map T.sh):T)
theorem Ma(E:GD su ["list"] X CL) :
  kC X CL b sf su oi kP oj:=by
 rintro⟨ks,es,ss,mem,ops,fO⟩ h;obtain⟨r,s,hm,n,a⟩:=h;refine aE E.g Qal (cL E.cI QR (bu _) Qd aZ) ?_;refine eS E.g Qau (λj U=>∃f e,U=[some _,some _,some _,some _,some (.lst (((Ss QaG es fO mem (ops.take j)).map _).map _)),f,e])
  (dZ QaM) #[_,_,rfl] (by rintro j U ⟨_,_,rfl⟩;exact i5 rfl) ?turn ?fin
 case turn=>
  rintro j d U o ⟨f,e,rfl⟩;obtain⟨x,rfl,_,i,_,_,p⟩:=jI o;have l:=n x i;have hl:=Dz QaG es fO (ops.take j) mem;apply aE E.g QaR (eG (bz Qmj Qac Qd4) rfl);rw[p,acs];unfold rM;generalize es.getD _ 0=q;generalize Ss _ es fO mem _=acc at hl ⊢;refine cg (gK (j7 (oM QaS Qad (rfl) rfl).1 (λk=>(lJ (cH (bz QiH QaS (fq Str.empty (a q (l3 k)).1 (by have:=a q (l3 k);lia))) bH).1)))) (λc=>?_) (λc=>aj (aj ?_))
  .rw[l9,pf]at c;have m:=a q c.1;have hlen:((acc.map D.int).map T.sh).length=acc.length:=by simp
   refine Se QbP QlN QaS rfl rfl (RL m.1 We) (aj (aj ?_));rw[cq (show q∈fO/\bK ks q=true from c),wb,wb];exact#[_,_,rfl]
  .rw[bW (λz=>by
    have:(decide (q∈fO)&&decide (ks.getD q.toNat Str.empty="one"))=true:=by
     rw[l9,pf];exact z
    rw[this]at c;cases c)]
   exact#[_,_,rfl]
 case fin=>
  rintro U ⟨f,e,rfl⟩;rw[cM,mv];exact aY QgD rfl
noncomputable def xj:FG su ["tree","memory","opens","moods"] ["list"] (ao sf):=fG
abbrev T3:=top 16
abbrev T4:=BA×AT×AT×Int×Int
noncomputable abbrev T5:BA:=["tree","upper","mood","steps","elder"]
def F3:T4->At:=λ(ks,es,ss,u,m)=>[dP ks es ss,.int u,.int m]
def zX:T4->Prop:=λ(ks,es,ss,u,m)=>dh es/\0<=m/\m<es.length/\es.length<=1000
def uT:T4->T:=λ(ks,es,ss,u,m)=>(.lst (((cT es u m).map .int).map T.sh):T)
structure ane(X:Cx)(CL:BM):Prop extends EL X T5 ["above","list","reversed"],fU X.K X.mg CL where
 m8:Fc X CL "above" 1 2 lA lB lC
theorem anf(E:ane X CL) :
  kC X CL b T3 T5 F3 zX uT:=by
 rintro⟨ks,es,ss,u,m⟩ h;dsimp [zX,uT]at h ⊢;have h':=h;have t:(bP es m).length<=es.length+1:=zg _ _ _;apply aE E.g Qas (fY QjA aN);refine eS E.g Qal (λj U=>∃o,(∀x∈(bP es m).take j,x≠u)/\U=[some _,some _,some _,some (.lst (((m::(bP es m).take j).map _).map _)),o])
  (dZ (gQ (c_ (_,_,_,_) E.m8 Qd QnD (h') (aP _)))) #[_,λx c=>by simp at c,rfl] (by rintro j U ⟨_,_,rfl⟩;exact i5 rfl) ?turn ?fin
 case turn=>
  rintro j d U k ⟨o,i,rfl⟩;rw[k4]at k;cases c:(bP es m)[j]? with
  | none=>rw[c]at k;cases k
  | some x=>
   rw[c]at k;cases k;have q:=(md.1 c).1;have n:(bP es m).take QU=(bP es m).take j++[x]:=by rw[sm,c];rfl
   refine cg (dN Qai QR).1 (λl=>afU ?brk) (λl=>aj ?_)
   case brk=>
    have e:=l3 l;have f:(bP es m).takeWhile Qc4=(bP es m).take j:=by
     have s:=by
      have h2:=wj j (bP es m);rw[u7 q]at h2;have:=(md.1 c).2;rw[this]at h2;exact h2.symm
     conv=>lhs;rw[s]
     rw[List.takeWhile_append_of_pos (λy a=>by simpa using i y a),List.takeWhile_cons,if_neg (by simp[e]),List.append_nil]
    apply aY QqY;unfold cT;rw[f];simp only[List.map_reverse]
   .have e:=nt l;refine ja (E.ll 3).1 rfl Qe6 rfl WF (aj ?_);have r:(((m::(bP es m).take j).map D.int).map T.sh)++[T.sh Qec]=((m::(bP es m).take QU).map D.int).map T.sh:=by rw[n];simp
    rw[r];refine#[_,λy a=>?_,rfl];rw[n]at a;obtain a|a:=i8.1 a
    .exact i y a
    .have:=by simpa using a
     exact this▸e
 case fin=>
  rintro U ⟨o,i,rfl⟩;apply aY QqY;rw[cM,mv]at i ⊢;unfold cT;have f:(bP es m).takeWhile Qc4=bP es m:=by
   have:=List.takeWhile_append_of_pos (p:=λx=>decide _) (l₂:=[]) (λy a=>by simpa using i y a);simpa using this
  rw[f];simp only[List.map_reverse]
noncomputable def W5:FG T5 ["tree","upper","mood"] ["above","list","reversed"] (ao T3):=fG
abbrev BX:=top 45
abbrev BZ:=BA×AT×AT×AT×Int×Nat×Str
noncomputable abbrev B3:BA:=["tree","memory","upper","target","mode","steps","found","step","place"]
def oW:BZ->At:=λ(ks,es,ss,mem,u,tg,mode)=>[dP ks es ss,.lst QcN,.int u,.int tg,.str mode]
def oX:BZ->Prop:=λ(ks,es,ss,mem,u,tg,mode)=>(es.length<=900/\ks.length=es.length/\ss.length=es.length/\mem.length=es.length/\tg<es.length/\t7 mode/\∀k:Nat,k<es.length->aX ks k=true\/au ks k=true\/ks.getD k Str.empty="one")/\d7 QaT Q4 es ss mem/\es.length<=41/\(u=-1\/u∈bP es tg)
def oY:BZ->T:=λ(ks,es,ss,mem,u,tg,mode)=>(.lst (((sortI (q4 QaT Q4 es ss mem Qka QpL u tg)).map .int).map T.sh):T)
structure Zo(X:Cx)(CL:BM):Prop extends EL X B3 ["road","opened","inner","sorted"],fU X.K X.mg CL where
 ang:Fc X CL "road" 2 3 F3 zX uT
 qO:Fc X CL "opened" 43 4 nW (nX 40) ly
 LJ:Fc X CL "inner" 1 2 vU nH vV
theorem Zq(E:Zo X CL) :
  kC X CL b BX B3 oW oX oY:=by
 rintro⟨ks,es,ss,mem,u,tg,mode⟩ h;dsimp only [oX,oW,oY]at h ⊢;obtain⟨wm,r,z,K⟩:=h;obtain⟨hl,H,hs,hm,t,O,w⟩:=wm;have G:=r.pre.1;have N:dh es/\(0:Int)<=tg/\(tg:Int)<es.length/\es.length<=1000:=#[G,We,We,We];refine aE E.g Qau (c_ ((ks,es,ss,u,(tg:Int))) E.ang Qd Qxm (N) (aP _)) ?_;rw[show uT _=T.lst _ from rfl];have li:=Ez G (u:=u) We We K;have aa:(cT es u tg).length<=es.length+2:=by
  unfold cT;rw[sx,mM];have h1:=(Ii (l:=bP es (tg:Int)) Qc4).length_le;have h2:(bP es (tg:Int)).length<=es.length+1:=zg _ _ _;lia
 have P:(cT es u tg).dropLast.length<=es.length+2:=by rw[List.length_dropLast];lia
 have m:∀(far near:Bool) (k:Nat),k<es.length->(kU QaT Q4 es ss mem far es.length near k).length<=41:=λfar near k H=>l6 (DC r H) z;have ax:(GR ks es ss mem mode tg).length<=41:=m _ _ tg t;have C:∀p:Int,GR ks es ss mem "new" p=kU QaT Q4 es ss mem false es.length false p:=λp=>by
  unfold GR;rw[show e7 "new" = false by decide +kernel,show iE "new" = false by decide +kernel]
 have e:cutD ((cT es u tg).map D.int) none Qo2=(cT es u tg).dropLast.map D.int:=by rw[aa8,YM]
 refine aE E.g QaR (aK (t2:=T.lst (((((cT es u tg).dropLast++GR ks es ss mem mode tg)).map D.int).map T.sh)) (rA (bR QrQ) (bR (c_ ((ks,es,ss,mem,tg,mode)) E.qO Q1 (ah QP (ah QR (ah Qad (ah Qai aA)))) (by exact(#[#[hl,H,hs,hm,t,O,w],r,We])) (aP _))) ((e▸bu _)) (bu _) (mi (bZ (by rw[e,cM,cM];exact(show(cT es u tg).dropLast.length+(GR ks es ss mem mode tg).length<=1000 by lia))))) (by rw[e,<- ky])) ?_;generalize W:(λs:Int=>((iO es s).filter _).flatMap QcJ)=F;have S:∀s:Int,(F s).length<=41*41:=λs=>by
  rw[<- W];have h1:((iO es s).filter QcK).length<=41:=l6 QfA (l6 (Dy es s) z);refine l6 (zl (c:=41) λp a=>?_) QsO;have Z:=lM (l0.1 a).1;obtain⟨q,rfl⟩:∃q:Nat,p=q:=#[p.toNat,We];exact m _ _ q We
 have V:∀l:AT,l.length<=44->(l.flatMap F).length<=44*(41*41):=λl h=>l6 (zl λp _=>S p) (Nat.mul_le_mul_right _ h);have B:q4 QaT Q4 es ss mem Qka QpL u tg=(cT es u tg).dropLast++GR ks es ss mem mode tg++((cT es u tg).dropLast.filter QdM).flatMap F:=by
  rw[<- W];rfl
 have o:=nG (Bg r (far:=e7 mode) (near:=iE mode) t K) λx hx=>LI r t ((DE r t K x).1 hx);rw[B]at o ⊢;clear B;have y:∀s∈(cT es u tg).dropLast,0<=s/\s<es.length:=λs hs=>by
  have:=kF G t ((li s).1 (vI G t hs).1);lia
 generalize j5:(cT es u tg).dropLast++GR ks es ss mem mode tg=base at o ⊢;have ag:base.length<=100:=by
  rw[<- j5,lj];lia
 generalize af:(cT es u tg).dropLast=n at P y o e ⊢;refine eS E.g QbS (λj U=>∃v f,U=[some (.sh Qba),some QmW,some Qx6,some Qxo,some Qwb,some Qrl,some (.lst (((base++((n.take j).filter QdM).flatMap F).map .int).map T.sh)),v,f])
  (dZ (gQ (aK QrQ (by rw[e])))) #[_,_,by simp;rfl] (by rintro j U ⟨_,_,rfl⟩;exact i5 rfl) ?turn ?fin
 case turn=>
  rintro j d U hj ⟨v,f,rfl⟩;obtain⟨x,rfl,_,I,mH,_,AK⟩:=jI hj;have J:=y x I;have Cw:((n.take j).filter QdM).length<=44:=l6 QfA (by rw[oC];lia);have aw:=V _ Cw;refine cg (cH (bz QiH QjX (fq Str.empty J.1 We)) bH).1 (λa=>?_) (λa=>aj (aj ?_))
  .have a:au ks x=true:=a;have Y:((n.take QU).filter QdM).flatMap F=((n.take j).filter QdM).flatMap F++F x:=by
    rw[AK,ph,y1 a,uj,zi];simp
   show c7 X CL b _ _ {nx:=λU=>c7 X CL b _ U {nx:=λU=>∃v f,U=[_,_,_,_,_,_,some (.lst (((base++((n.take QU).filter _).flatMap F).map .int).map T.sh)),v,f],rt:=_,bk:=_,ct:=_},rt:=_,bk:=_,ct:=_};rw[Y,<- ka];generalize R:base++((n.take j).filter _).flatMap F=cur;have Bh:cur.length<=100+44*(41*41):=by rw[<- R,lj];lia
   have eF:F x=((iO es x).filter QcK).flatMap QcJ:=by rw[<- W]
   have ae:=Dy es x;refine eS E.g QdX (λi U=>∃f,U=[some (.sh Qba),some QmW,some Qx6,some Qxo,some Qwb,some Qrl,some (.lst (((cur++(((iO es x).take i).filter QcK).flatMap QcJ).map .int).map T.sh)),some (.sh Qec),f])
    (dZ (gQ (c_ ((ks,es,ss,x)) E.LJ Qaa (ah QP (ah QjX aA)) ((by dsimp only [nH];lia)) (aP _)))) #[_,by simp;rfl] (by rintro j U ⟨_,rfl⟩;exact Nat.le_of_ble_eq_true rfl) ?zK ?fin2
   case zK=>
    rintro i d U hi ⟨f,rfl⟩;obtain⟨p,rfl,_,M,ar,_,A⟩:=jI hi;have Z:=lM M;obtain⟨q,rfl⟩:∃q:Nat,p=q:=#[p.toNat,We];have wk:((((iO es x).take i).filter QcK).flatMap QcJ).length<=41*41:=by
     have h1:(((iO es x).take i).filter QcK).length<=41:=l6 QfA (by rw[oC];lia);refine l6 (zl (c:=41) λp a=>?_) QsO;have Z:=lM (y0 (l0.1 a).1);obtain⟨q,rfl⟩:∃q:Nat,p=q:=#[p.toNat,We];exact m _ _ q We
    refine cg (vC Qo3 QiZ rfl rfl).1 (λL=>?_) (λL=>aj (aj ?_))
    .refine t6 (E.ll 6).1 rfl (Sh (bR (aK (c_ ((ks,es,ss,mem,q,("new":Str))) E.qO Q1 (ah QP (ah QR (ah Qo3 (ah bH aA)))) (by exact(#[#[hl,H,hs,hm,We,.inl rfl,w],r,We])) (aP _)) rfl)) (bu _)) rfl ?len (aj (aj ?_))
     case len=>
      have:=m false false q We;rw[C];simp only[cM,lj];lia
     have e1:(((cur++(((iO es x).take i).filter QcK).flatMap QcJ).map D.int).map T.sh)++(((GR ks es ss mem "new" q).map D.int).map T.sh)=((cur++(((iO es x).take Qbd).filter QcK).flatMap QcJ).map D.int).map T.sh:=by
      rw[A,ph,y1 (p:=λp=>!decide _) L,uj,zi,C,<- ky];simp
     rw[show((((cur++(((iO es x).take i).filter _).flatMap QcJ).map D.int).map T.sh)++(((GR ks es ss mem "new" q).map D.int).map T.sh))=_ from e1];exact#[_,rfl]
    .have e1:(((iO es x).take i).filter QcK).flatMap QcJ=(((iO es x).take Qbd).filter QcK).flatMap QcJ:=by
      rw[A,ph,y2 (by rw[L];decide),uj,ko]
     rw[e1];exact#[_,rfl]
   case fin2=>
    rintro U ⟨f,rfl⟩;rw[cM,mv];refine aj (aj ?_);rw[eF];exact#[_,_,rfl]
  .have a:au ks x=false:=a;have e1:((n.take j).filter QdM).flatMap F=((n.take QU).filter QdM).flatMap F:=by
    rw[AK,ph,y2 (by rw[a];decide),uj,ko]
   rw[e1];exact#[_,_,rfl]
 case fin=>
  rintro U ⟨v,f,rfl⟩;rw[cM,mv];exact aY (kZ E.kH QdR We Qak) rfl
noncomputable def F4:FG B3 ["tree","memory","upper","target","mode"] ["road","opened","inner","sorted"] (ao BX):=fG
abbrev qh:=top 53
abbrev qi:=At×At×BA×AT×AT×At×At×List bN×AT×AT
noncomputable abbrev qj:BA:=["chart","memory","going","come","number","way"]
def jC:qi->At:=λ(bs,nm,ks,es,ss,is,os,ws,mem,gs)=>[fP bs nm Qba is os Qa2,.lst QcN,.lst (gs.map .int)]
def gY:qi->Prop:=λ(bs,nm,ks,es,ss,is,os,ws,mem,gs)=>(es.length<=40/\ks.length=es.length/\ss.length=es.length/\mem.length=es.length/\∀k:Nat,k<es.length->aX ks k=true\/au ks k=true\/ks.getD k Str.empty="one")/\d7 QaT Q4 es ss mem/\(∀i∈gs,QeR/\QhX/\QrR/\t7 (gB ws i).mode/\Qq0)/\((gs.map Qca).flatMap QdJ).length<64
def jD:qi->T:=λ(bs,nm,ks,es,ss,is,os,ws,mem,gs)=>(.lst (((wu ks es ss mem Qxn).map .int).map T.sh):T)
structure Hq(X:Cx)(CL:BM):Prop extends EL X qj ["entered","way_top","TARGET","MODE","sorted"],fU X.K X.mg CL where
 Zr:Fc X CL "entered" 44 5 oW oX oY
 qQ:Fc X CL "way_top" 4 2 mE jW mF
theorem Hr(E:Hq X CL) :
  kC X CL b qh qj jC gY jD:=by
 rintro⟨bs,nm,ks,es,ss,is,os,ws,mem,gs⟩ h;dsimp only [gY,jC,jD]at h ⊢;obtain⟨⟨hl,s,f,y,m⟩,t,x,a⟩:=h;have u:=t.pre.1;have q:∀l:List bN,(l.flatMap _).length=(l.flatMap QdJ).length:=λl=>(Bl l).length_eq;refine aE E.g Qas Qa8 ?_;refine eS E.g Qal (λj U=>∃o o',U=[some _,some _,some _,some (.lst (((((gs.take j).map Qca).flatMap λw=>sortI Qgr).map .int).map T.sh)),o,o'])
  (dZ QaM) #[_,_,rfl] (by rintro j U ⟨_,_,rfl⟩;exact i5 rfl) ?turn ?fin
 case turn=>
  rintro j d U v ⟨o,o',rfl⟩;obtain⟨i,rfl,_,hi,A,_,z⟩:=jI v;obtain⟨⟨r,i1⟩,hs,e,k,c⟩:=x i hi;have B:(((gs.take j).map Qca).flatMap λw=>sortI Qgr).length<64:=by
   rw[q,xa];exact oI (pJ _ _) a
  have p:(((gs.take QU).map Qca).flatMap λw=>sortI Qgr).length<64:=by
   rw[q,xa];exact oI (pJ _ _) a
  have e2:((gs.take QU).map Qca).flatMap (λw=>sortI Qgr)=(((gs.take j).map Qca).flatMap λw=>sortI Qgr)++sortI (Nk ks es ss mem QcA):=by
   rw[z,ky];simp
  rw[e2,lj]at p;have n:((gB ws i).kf.toNat:Int)=(gB ws i).kf:=by lia
  refine aE E.g Qau (aK (J4 QeH Qai (fq w0 r i1)) (t2:=.sh (f7 QcA)) rfl) ?_;refine t6 (E.ll 3).1 rfl (Sh (bR (aK (c_ (ks,es,ss,mem,ig ks es _,(gB ws i).kf.toNat,(gB ws i).mode) E.Zr Qd (ah Qc6 (ah QR (ah (ak (aK (c_ (bs,nm,ks,es,ss,is,os,ws,i) E.qQ Q1 Qgi (by exact#[u,We,s,#[r,i1],hs,e]) rfl) rfl)) (ah (sY (aD Qac Qvi Qd7) (congrArg _ n.symm)) (ah (aD Qac (ak (aM E.SY Qak)) Qd7) aA))))) (by exact#[#[We,s,f,y,We,k,m],t,We,c]) (aP _)) (t2:=.lst (((sortI (Nk ks es ss mem _)).map .int).map T.sh)) rfl)) (bu _)) rfl (by simp only[cM];lia) (aj #[some QjQ,some (.sh (f7 QcA)),?_]);rw[e2];simp
 case fin=>
  rintro U ⟨o,o',rfl⟩;rw[cM,mv];refine aY (kZ E.kH Qbz (by rw[q];exact a) QaL) ?_;rw[Bk (Bl _)];rfl
noncomputable def uU:FG qj ["chart","memory","going"] ["entered","way_top","TARGET","MODE","sorted"] (ao qh):=fG
abbrev F5:=top 49
abbrev F6:=At×At×BA×AT×AT×At×At×List bN×Int
noncomputable abbrev F7:BA:=["chart","mood","way"]
def sA:F6->At:=λ(bs,nm,ks,es,ss,is,os,ws,m)=>[fP bs nm Qba is os Qa2,.int m]
def om:F6->Prop:=λ(bs,nm,ks,es,ss,is,os,ws,m)=>dh es/\ks.length=es.length/\es.length<=1000/\0<=m/\m<es.length
def oq:F6->T:=λ(bs,nm,ks,es,ss,is,os,ws,m)=>(.sh (.bl (jd ks es ws m)):T)
structure adJ(X:Cx)(CL:BM):Prop extends EL X F7 ["MODE","TARGET","within"],fU X.K X.mg CL where
 mD:Fc X CL "within" 2 3 lE lF lG
theorem adK(E:adJ X CL) :
  kC X CL b F5 F7 sA om oq:=by
 rintro⟨bs,nm,ks,es,ss,is,os,ws,m⟩ h;dsimp [oq]at h ⊢;obtain⟨n,s,hl,m0,m1⟩:=h;refine cg (RD (bz (bV E.jh E.gS Qc6 k7) QR (fq Str.empty m0 We)) bH).1 (λa=>?_) (λa=>aj ?_)
 .apply aY oK;have:bK ks m=false:=by
   rw[u3]at a;exact a
  unfold jd;rw[this];rfl
 have q:bK ks m=true:=by
  rw[HA]at a;exact a
 have k:jd ks es ws m=ws.any (IY es m):=by unfold jd;rw[q];rfl
 rw[k];refine eS E.g Qam (λj U=>(∀i x,i<j->ws[i]? = some x->IY es m x=false)/\∃o,U=[some _,some _,o])
  (dZ QeH) #[λi x hi=>by lia,_,rfl] (by rintro j U ⟨_,_,rfl⟩;exact i5 rfl) ?turn ?fin
 case turn=>
  rintro j d U p ⟨c,o,rfl⟩;obtain⟨w,rfl,hw,_,r,_,_⟩:=jI p;refine cg (gK (j7 (RD QrF bH).1 (λ_=>lJ (dN QrB QR).1))) (λa=>?_) (λa=>aj ?_)
  .apply aY oK;rw[O7 hw (by unfold IY;rw[a];rfl)]
  refine cg (gK (j7 (cH QrF bH).1 (λ_=>lJ (eL (c_ (ks,es,ss,m,w.kf) E.mD Qaa (ah Qc6 (ah QR (ah QrB aA))) (#[n,m0,m1,hl]) rfl))))) (λl=>?_) (λl=>aj (aj ?_))
  .apply aY oK;rw[O7 hw (by unfold IY;rw[l,Bool.or_true])]
  .refine#[λi x hi f=>?_,_,rfl];by_cases e:i=j
   .subst e;rw[hw]at f;cases f;unfold IY;rw[a,l];rfl
   .exact c i x We f
 case fin=>
  rintro U ⟨c,o,rfl⟩;apply aY oK;rw[any_none λi x f=>c i x (by rw[cM];exact(md.1 f).1) f]
noncomputable def Js:FG F7 ["chart","mood"] ["MODE","TARGET","within"] (ao F5):=fG
abbrev yg:=top 54
abbrev yh:=At×At×BA×AT×AT×At×EO×List bN×AT×AT×AT
noncomputable abbrev yi:BA:=["chart","gone","memory","behind","rows","mood"]
def sC:yh->At:=λ(bs,nm,ks,es,ss,is,os,ws,gone,mem,bh)=>[fP bs nm Qba is Qor Qa2,.lst Qxp,.lst QcN,.lst (bh.map .int)]
def nu:yh->Prop:=λ(bs,nm,ks,es,ss,is,os,ws,gone,mem,bh)=>dh es/\es.length<=1000/\ks.length=es.length/\os.length=es.length/\mem.length=es.length/\bh.length=es.length/\pK os/\gone.length<=1000/\∀m∈gone,0<=m/\m<es.length
def ny:yh->T:=λ(bs,nm,ks,es,ss,is,os,ws,gone,mem,bh)=>(.lst ((GX Qcv os mem bh gone).map T.sh):T)
structure T6(X:Cx)(CL:BM):Prop extends EL X yi ["heeded"],fU X.K X.mg CL where
 F8:Fc X CL "heeded" 3 2 sA om oq
theorem T7(E:T6 X CL) :
  kC X CL b yg yi sC nu ny:=by
 rintro⟨bs,nm,ks,es,ss,is,os,ws,gone,mem,bh⟩ h;dsimp [ny]at h ⊢;obtain⟨k,hl,n,l,w,s,e,q,r⟩:=h;apply aE E.g Qal Qa8;refine eS E.g Qau (λj U=>∃o,U=[some _,some _,some _,some _,some (.lst ((GX Qcv os mem bh (gone.take j)).map T.sh)),o])
  (dZ Qbx) #[_,rfl] (by rintro j U ⟨_,rfl⟩;exact i5 rfl) ?turn ?fin
 case turn=>
  rintro j d U p ⟨o,rfl⟩;obtain⟨m,rfl,_,hm,u,_,t⟩:=jI p;obtain⟨m0,m1⟩:=r m hm;have c:=(KY (iF:=jd ks es ws) (mem:=mem) (bh:=bh) e (gone.take j)).1;have i:(gone.take j).length<=j:=by simp;lia
  obtain⟨g1,g2⟩:=e.get m.toNat;rw[t,YT];generalize GX _ os _ bh _=rs at c ⊢;apply ja (E.ll 4).1 rfl (cK (aq dJ (aq QbP aV)) aN) rfl (by rw[cM];lia);refine tU (λU=>U=[some (.sh (fP bs nm Qba is Qor Qa2)),some (.sh (.lst Qxp)),some QmW,some (.sh (.lst (bh.map .int))),some (.lst ((rs++(D.tup [.str "out",.int m]::(if jd ks es ws m=true then [D.tup [.str "keep",.int m,.int Qib,.int Qgd]] else []))).map T.sh)),some QgF])
   (eL (aK (c_ (bs,nm,ks,es,ss,is,os.map _,ws,m) E.F8 Qd Qyw (#[k,n,hl,m0,m1]) rfl) rfl)) (λa=>?_) (λa=>?_) ?_
  .rw[cq a];refine ja (E.ll 4).1 rfl (cK (aq dJ (aq QbP (aq (eG (bz Q2 Qac (fZ m0 We)) rfl) (aq (eG (bz Qad Qac (fZ m0 We)) rfl) aV)))) aN) rfl WF (aj ?_);simp
  .rw[bW (by rw[a];decide)];apply aj;simp
  rintro U rfl;have f:(if jd ks es ws m=true then [D.tup [.str "keep",.int m,.int Qib,.int Qgd]] else []).length<=1:=by split<;>simp
  generalize (if jd ks es ws m=true then [D.tup _] else [])=v at f ⊢;refine t6 (E.ll 4).1 rfl (Sh (bz (bV E.bY E.zH QP Sy) Qac (fq [] m0 We)) g2) rfl (by rw[cM,lj,mM];lia) (aj #[some QgF,?_]);simp
 case fin=>
  rintro U ⟨o,rfl⟩;rw[cM,mv];exact aY QgD rfl
noncomputable def CT:FG yi ["chart","gone","memory","behind"] ["heeded"] (ao yg):=fG
abbrev yj:=top 55
abbrev yk:=At×At×D×At×At×List bN×Nat×AT
noncomputable abbrev ym:BA:=["chart","ways","rows","number"]
def sE:yk->At:=λ(bs,nm,tr,is,os,ws,n,sel)=>[fP bs nm tr is os Qa2,.lst (sel.map .int)]
def nA:yk->Prop:=λ(bs,nm,tr,is,os,ws,n,sel)=>sel.length<=1000/\(∀i∈sel,QeR/\z0 n QcA)
def nB:yk->T:=λ(bs,nm,tr,is,os,ws,n,sel)=>(.lst ((GY ws sel).map T.sh):T)
theorem T8(E:GD ym ["DEEDS"] X CL) :
  kC X CL b yj ym sE nA nB:=by
 rintro⟨bs,nm,tr,is,os,ws,n,sel⟩ h;dsimp [nB]at h ⊢;obtain⟨hl,hs⟩:=h;apply aE E.g Qam Qa8;refine eS E.g Qas (λj U=>∃o,U=[Option.some _,Option.some _,Option.some (.lst ((GY ws (sel.take j)).map T.sh)),o])
  (dZ Qbx) #[_,rfl] (by rintro j U ⟨_,rfl⟩;exact i5 rfl) ?turn ?fin
 case turn=>
  rintro j d U k ⟨o,rfl⟩;obtain⟨i,rfl,_,hi,m,_,l⟩:=jI k;obtain⟨⟨a,i1⟩,hw⟩:=hs i hi;have f:=(KZ (some:=sel.take j) (λx c=>(hs x (y0 c)).2)).1;have e:(sel.take j).length<=j:=by simp;lia
  have d1:=hw.2.2.2.1;apply ja (E.ll 2).1 rfl QsM rfl (by rw[cM];lia);refine t6 (E.ll 2).1 rfl (Sh (aD (bz Qug Qad (fq w0 a i1)) (ak (aM E.ahq Qd)) Kz) hw.2.2.2.2.1) rfl (by rw[lj,cM];show _+1+(gB ws i).jc.length<=_;lia) (aj #[Option.some QjQ,?_]);rw[l,YV,ky,ka];rfl
 case fin=>
  rintro U ⟨o,rfl⟩;rw[cM,mv];exact aY Qe5 rfl
noncomputable def CV:FG ym ["chart","ways"] ["DEEDS"] (ao yj):=fG
abbrev sG:=top 23
abbrev sH:=At×At×D×At×At×List bN×Int
noncomputable abbrev sJ:BA:=["chart","number"]
def kQ:sH->At:=λ(bs,nm,tr,is,os,ws,i)=>[fP bs nm tr is os Qa2,.int i]
def gI:sH->Prop:=λ(bs,nm,tr,is,os,ws,i)=>0<=i/\i<ws.length
def kR:sH->T:=λ(bs,nm,tr,is,os,ws,i)=>(.sh (.bl (nU ws i)):T)
def Mb(E:GD sJ ["TARGET"] X CL) :
  kC X CL b sG sJ kQ gI kR:=by
 rintro⟨bs,nm,tr,is,os,ws,i⟩ h;obtain⟨h0,h1⟩:=h;exact aY (pH (aD (bz Qug QR (fq w0 h0 h1)) (ak (aM E.uf Qd)) Qd7) QdV).2 rfl
noncomputable def xo:FG sJ ["chart","number"] ["TARGET"] (ao sG):=fG
abbrev DL:=top 50
abbrev Mf:=At×At×BA×AT×AT×EO×EO×List bN×AT×AT×AT
noncomputable abbrev Mg:BA:=["chart","opens","memory","ways","going","gone","behind","come","script"]
def vX:Mf->At:=λ(bs,nm,ks,es,ss,is,os,ws,ch,mem,a)=>[fP bs nm Qba Qoq Qor Qa2,.lst ((eu Q4 es ch Q3).map .int),.lst QcN,.lst QgN]
def qR:Mf->Prop:=λ(bs,nm,ks,es,ss,is,os,ws,ch,mem,a)=>kG ks es ss is os ws/\(ch.length=es.length/\zm QaG es ch)/\CD ks es mem/\pL ks es ws QaN a
def qS:Mf->T:=λ(bs,nm,ks,es,ss,is,os,ws,ch,mem,a)=>(.tup [.lst ((YW ks es ss is os ws mem QaN a).map T.sh),.lst (((YS ks es ss (Nm ks es ws mem QaN QaJ) QaN QaJ).map .int).map T.sh),.lst (((Nm ks es ws mem QaN QaJ).map .int).map T.sh)]:T)
structure ahS(X:Cx)(CL:BM):Prop extends EL X Mg ["all_left","remembered","all_entered","out_rows","way_rows","in_rows","sorted"],fU X.K X.mg CL where
 kK:GQ X "chart"
 anh:GQ X "gone"
 T9:Fc X CL "all_left" 5 3 se ni nj
 Mh:Fc X CL "remembered" 1 4 oi kP oj
 Hs:Fc X CL "all_entered" 45 3 jC gY jD
 Ua:Fc X CL "out_rows" 4 4 sC nu ny
 Ub:Fc X CL "way_rows" 1 2 sE nA nB
 BL:Fc X CL "in_rows" 1 2 oU mz mC
 sL:Fc X CL "has_target" 1 2 kQ gI kR
 F8:Fc X CL "heeded" 3 2 sA om oq
theorem ahT(E:ahS X CL) :
  kC X CL b DL Mg vX qR qS:=by
 rintro⟨bs,nm,ks,es,ss,is,os,ws,ch,mem,a⟩ h;dsimp only [qR,vX,qS]at h ⊢;obtain⟨c,⟨I,F⟩,hm,hs⟩:=h;have r:=c.pre.1;have n0:=c.n0;have n1:=c.n1;have m:=hs.qZ c;have q:=hs.vk c;have k:=hs.i;have M:=hs.l;have f:=hs.ap;have v:∀x∈eu Q4 es ch Q3,0<=x/\x<es.length:=λx j=>O6 n0 j;have s:=fz (isAll:=au ks) (es:=es) (ch:=ch) Q3;have N:=zj (isAll:=au ks) (es:=es) (ch:=ch) Q3;obtain⟨OZ,_,_,_,V⟩:=EH c.kd (c.tree (Wj c F I hm QaJ)) n0 I F f m;have o:=Wj c F I hm QaJ;have u:=c.tree o;obtain⟨f1,f2⟩:=O4 (ks:=ks) r s v f;obtain⟨g1,g2⟩:=Bj (ks:=ks) r s v f;obtain⟨c1,R,P⟩:=EG u f m;have e:∀x∈jJ ks es QaN QaJ,0<=x/\x<es.length:=λx j=>v x (zx.1 j).1;have t:(a.filter Qdo).map Qca=jZ ws a:=rfl;have y:∀i∈a.filter Qdo,QeR/\QhX/\QrR/\t7 (gB ws i).mode/\Qq0:=λi hi=>by
  have h1:=(l0.1 hi).1;have w:=q i h1;have g:=m QcA (i9.2 #[i,hi,rfl]);exact#[(k i h1).1,w.1,g.1,w.2.2.1,g.up]
 unfold YW;generalize U:eu Q4 es ch Q3=ops at *;refine rD (p:=λd=>nU ws d.wL) (gg:=λd=>T.sh d) E.g Qal QhZ (dZ Qbw) QaB (λC s0 L f0 K d hd=>?am1) QgP ?rest (by exact i5 rfl) QcO
 case am1=>
  obtain⟨i,hi,rfl⟩:=i9.1 hd;exact#[eL (c_ (bs,nm,dP ks es ss,is.map .tup,os.map .tup,ws,i) (lK E.sL) Ba Qyk (by dsimp only [gI];exact(k i hi).1) rfl),λ_=>(v_ (C9 0))]
 case rest=>
 have H:(((a.map D.int).filter (λd=>nU ws d.wL)).map λd=>T.sh d)=((a.filter Qdo).map D.int).map T.sh:=by
  rw[p3,kc];exact(kc ..).symm
 rw[H];refine aE E.g Qau (gQ (ds:=(jJ ks es ops QaJ).map .int) (aK (c_ (bs,nm,ks,es,ss,is.map .tup,os.map .tup,ws,ops,a.filter Qdo) E.T9 Qd (ah QP (ah QR (ah Qcp aA))) (by dsimp only [ni];exact#[r,We,c.kl,We,v,λi hi=>#[(y i hi).1,(y i hi).2.1,(y i hi).2.2.1],by rw[t];lia]) (aP _)) rfl)) ?_;have Cw:((jJ ks es ops QaJ).filter Qcv).length<=es.length:=l6 QfA g2;refine aE E.g QaR (aK (c_ (ks,es,ss,mem,ops,(jJ ks es ops QaJ).filter Qcv) E.Mh Q1 (ah Qc6 (ah Q2 (ah QR (ah (bR (aK (oN (p:=λd=>jd ks es ws d.wL) (g:=λd=>T.sh d) QhZ E.g.calm (dZ QbP) QaB (λC s0 L f0 K d hd=>?am2) QgP) (t2:=.lst _) (by
  refine congrArg T.lst ?_;rw[p3,kc];exact(List.map_map ..).symm))) aA)))) (by dsimp only [kP];exact#[r,c.kl,hm.1,v,λx j=>e x (List.mem_filter.1 j).1]) (aP _)) (t2:=.lst (((Nm ks es ws mem ops QaJ).map .int).map T.sh)) rfl) ?_
 case am2=>
  obtain⟨i,hi,rfl⟩:=i9.1 hd;exact#[eL (c_ (bs,nm,ks,es,ss,is.map .tup,os.map .tup,ws,i) (lK E.F8) Ba Qyk (by dsimp only [om];exact#[r,c.kl,We,(e i hi).1,(e i hi).2]) rfl),λ_=>(v_ (C9 0))]
 generalize Z:Nm ks es ws mem ops QaJ=bh at *;refine aE E.g QbS (aK (c_ (bs,nm,ks,es,ss,is.map .tup,os.map .tup,ws,bh,a.filter Qdo) E.Hs Qaa (ah QP (ah QdR (ah Qcp aA))) (by dsimp only [gY];exact#[#[We,c.kl,c.sl,o.1,c.kinds],u,y,by rw[t];lia]) (aP _)) rfl) ?_;obtain⟨Y,A⟩:=KY (iF:=jd ks es ws) (mem:=mem) (bh:=bh) c.or (jJ ks es ops QaJ);obtain⟨W,z⟩:=KZ (n:=es.length) q;have S:(wu ks es ss bh QaJ).length<=es.length:=by unfold wu;rw[kY];exact R
 have B:∀x∈wu ks es ss bh QaJ,0<=x/\x<is.length:=λx j=>by
  rw[c.il];exact(P x (jQ.1 j)).1
 obtain⟨i1,J⟩:=EI c.ir (wu ks es ss bh QaJ);refine aE E.g QdX (rA (bR (rA (bR (aK (c_ (bs,nm,ks,es,ss,is.map .tup,os,ws,jJ ks es ops QaJ,mem,bh) E.Ua Qak (ah QP (ah Qac (ah Q2 (ah QdR aA)))) (by dsimp only [nu];exact#[r,We,c.kl,c.ol,hm.1,o.1,c.or,We,e]) (cA A)) (t2:=.lst _) rfl))
  (bR (aK (c_ (bs,nm,dP ks es ss,is.map .tup,os.map .tup,ws,es.length,a) E.Ub QaL (ah QP QeM) (by dsimp only [nA];exact#[We,λi hi=>#[(k i hi).1,q i hi]]) (cA z)) (t2:=.lst ((GY ws a).map T.sh)) rfl)) A z (Nat.le_of_lt (bZ We))))
  (bR (aK (c_ (bs,nm,dP ks es ss,is,os.map .tup,ws.map f7,wu ks es ss bh QaJ) E.BL QbF (ah QP (ah QnX aA)) (by dsimp only [mz];exact#[c.ir,We,B]) (cA J)) rfl)) (O5 A z) J (Nat.le_of_lt (bZ (by rw[List.length_append];lia)))) ?_
 have G:((((ops.map D.int).filter (λd=>!decide (d.wL∈jJ ks es ops QaJ))).map λd=>T.sh d))=((ops.filter Qk2).map D.int).map T.sh:=by
  rw[p3,kc];exact(kc ..).symm
 have O:(ops.filter Qk2).length<=ops.length:=pz _ _;refine aY (kX (aH Qx2 (aH (aK (kZ E.kH (bR (aK (rA (Ka:=(wu ks es ss bh QaJ).map .int) (bR (aK (oN (g:=λd=>T.sh d) (cj (.cons (E.ll 5).1 (.inl E.anh) .nil) Wi) E.g.calm (dZ Qbx) QaB (λC s0 L f0 K d hd=>?auY) QgP) (congrArg T.lst G))) QnX (bu _) (bu _) (mi (bZ (by simp only[cM];lia)))) (t2:=.lst (((ops.filter Qk2++wu ks es ss bh QaJ).map .int).map T.sh)) (by rw[<- ky]))) We Qbq) rfl) (aH Qx1 bM))) aN) rfl
 case auY=>
  obtain⟨i,hi,rfl⟩:=i9.1 hd;exact#[(vC (l:=jJ ks es ops QaJ) (jR 0) (iH 1) rfl rfl).1,λ_=>(v_ (C9 0))]
def F9:Q7 (ao DL) ([("chart",.cell),("opens",ck),("memory",ck),("ways",ck),("going",ck),("gone",.cell),("behind",ck),("come",ck),("script",ck),("all_left",bB),("remembered",bB),("all_entered",bB),("out_rows",bB),("way_rows",bB),("in_rows",bB),("sorted",bB)])=true:=by decide +kernel
noncomputable def adL:cW Mg ["chart","opens","memory","ways"] (ao DL):=iW
abbrev Mi:=top 12
abbrev Mj:=BA×AT×AT×Int
noncomputable abbrev Ml:BA:=["tree","mood"]
def B4:Mj->At:=λ(ks,es,ss,m)=>[dP ks es ss,.int m]
def vY:Mj->Prop:=λ(ks,es,ss,m)=>dh es/\0<=m/\m<es.length/\es.length<=1000
def B5:Mj->T:=λ(ks,es,ss,m)=>(.sh (.int ((bP es m).length:Nat)):T)
structure ahU(X:Cx)(CL:BM):Prop extends EL X Ml ["len","above"],fU X.K X.mg CL where
 m8:Fc X CL "above" 1 2 lA lB lC
def ahV(E:ahU X CL) :
  kC X CL b Mi Ml B4 vY B5:=by
 rintro⟨ks,es,ss,m⟩ h;have hl:((bP es m).map D.int).length=(bP es m).length:=by simp
 exact aY (bS hl E.cJ (bR (c_ (ks,es,ss,m) E.m8 Q1 QeK h (Cp _))) Qd) rfl
noncomputable def P1:FG Ml ["tree","mood"] ["len","above"] (ao Mi):=fG
abbrev uV:=top 25
abbrev uW:=BA×AT×AT×Int×Int
noncomputable abbrev uX:BA:=["tree","one","other"]
def qk:uW->At:=λ(ks,es,ss,t,u)=>[dP ks es ss,.int t,.int u]
def lT:uW->Prop:=λ(ks,es,ss,t,u)=>dh es/\es.length<=1000/\(-1<=t/\t<es.length) /\ -1<=u/\u<es.length
def lU:uW->T:=λ(ks,es,ss,t,u)=>(.sh (.bl (K0 es t u)):T)
structure P4(X:Cx)(CL:BM):Prop extends EL X uX ["within"],fU X.K X.mg CL where
 mD:Fc X CL "within" 2 3 lE lF lG
theorem P5(E:P4 X CL) :
  kC X CL b uV uX qk lT lU:=by
 rintro⟨ks,es,ss,t,u⟩ h;dsimp [lU]at h ⊢;obtain⟨c,hl,⟨t0,t1⟩,u0,u1⟩:=h;unfold K0;refine cg (gK (fE (dN QR Q2).1 (λe=>(fE (dN QR QdV).1 (λd=>(eN (dN Q2 QdV).1)))))) (λa=>?_) (λa=>aj ?_)
 .apply aY oK;rw[a];rfl
 .rw[a];simp at a;apply aY (Pe (c_ ((ks,es,ss,t,u)) E.mD Qd (ah QP (ah QR QdT)) ((#[c,We,We,hl])) rfl) (λe=>(J3 (c_ ((ks,es,ss,u,t)) E.mD Qd (ah QP (ah Q2 Qlc)) ((#[c,We,We,hl])) rfl))));rw[la a.2.2,la a.2.1];rfl
noncomputable def zY:FG uX ["tree","one","other"] ["within"] (ao uV):=fG
abbrev Mm:=top 26
abbrev Uc:=At×At×BA×AT×AT×At×At×List bN×AT
noncomputable abbrev Ud:BA:=["chart","found","chosen","tops","number","upper"]
def zZ:Uc->At:=λ(bs,nm,ks,es,ss,is,os,ws,row)=>[fP bs nm Qba is os Qa2,.lst (row.map .int)]
def uY:Uc->Prop:=λ(bs,nm,ks,es,ss,is,os,ws,row)=>dh es/\es.length<=900/\ks.length=es.length/\row.length<=63/\(∀k∈row,0<=k/\k<ws.length)/\∀w∈ws,(0<=w.src/\w.src<es.length) /\ -1<=w.kf/\w.kf<es.length
def z7:Uc->T:=λ(bs,nm,ks,es,ss,is,os,ws,row)=>(.lst (((Sr ks es ws row).map .int).map T.sh):T)
structure ank(X:Cx)(CL:BM):Prop extends EL X Ud ["sorted","has_target","way_top","any"],fU X.K X.mg CL where
 kK:GQ X "chart"
 L5:GQ X "upper"
 sL:Fc X CL "has_target" 1 2 kQ gI kR
 qQ:Fc X CL "way_top" 4 2 mE jW mF
 ahW:Fc X CL "depth" 2 2 B4 vY B5
 P6:Fc X CL "tops_meet" 3 3 qk lT lU
 lam:x3 X CL "#kept.<locals>.<lambda>" "kept.<locals>.<lambda>"
 dp:X.A.depth<recursionLimit
 rm:fc 4 X.A
theorem anl(E:ank X CL) :
  kC X CL b Mm Ud zZ uY z7:=by
 rintro⟨bs,nm,ks,es,ss,is,os,ws,row⟩ h;dsimp only [uY,zZ,z7]at h ⊢;obtain⟨B,hl,J,W,O,hw⟩:=h;refine aE E.g Qam Qa8 ?_;refine aE E.g Qas Qa8 ?_;have N:∀(l:AT) (x:Int),(l.map D.int).map T.sh++[T.sh Qec]=((l++[x]).map D.int).map T.sh:=by intros;simp
 have M:∀{w:bN},w∈ws->-1<=ig ks es w/\ig ks es w<es.length:=λ{w} hm=>by
  have hs:=(hw w hm).1;rcases acJ (bw:=bK ks) (es:=es) (a:=w.src) (c:=w.kf) with z|z
  .unfold ig;rw[z];lia
  .have:=bI B hs.1 hs.2 z;unfold ig;lia
 have V:(jb QcB row).length<=63:=by rw[Bd];exact W
 have A:∀k∈jb QcB row,0<=k/\k<ws.length:=λk J=>O k (Bc.1 J);have K:∀l:AT,(∀k∈l,0<=k/\k<ws.length)->∀t∈(og ks es ws l).2,-1<=t/\t<es.length:=by
  have gen:∀(l:AT) (s:QhH),(∀k∈l,0<=k/\k<ws.length)->(∀t∈s.2,-1<=t/\t<es.length)->∀t∈(l.foldl QhP s).2,-1<=t/\t<es.length:=by
   intro l
   induction l with
   | nil=>intro s _ hs;exact hs
   | cons k l R=>
    intro s hl hs;rw[zv];refine R _ (λq u=>hl q (i3 _ u)) ?_;obtain⟨k0,k1⟩:=hl k iB;unfold Y3;split
    .split
     .exact hs
     .intro t r;obtain z|z:=i8.1 r
      .exact hs t z
      .rw[lh.1 z];exact M Qpz
    .exact hs
  exactλl hl=>gen l ([],[]) hl (λt r=>by cases r)
 refine eS E.g Qal (λj U=>∃n m,U=[some _,some Qsy,some (.lst (((og ks es ws ((jb QcB row).take j)).1.map .int).map T.sh)),some (.lst (((og ks es ws ((jb QcB row).take j)).2.map .int).map T.sh)),n,m])
  (dZ (gQ (ds:=(jb QcB row).map .int) (aK (En (y:="way") (g:=λd=>Y4 es ws d.wL) E.lam E.g E.dp E.kH Qd QhZ QR (bu _) WF (λf c s0 H0 b' d hd=>?key)) (by rw[IQ];rfl)))) #[_,_,rfl] (by rintro j U ⟨_,_,rfl⟩;exact i5 rfl) ?turn ?fin
 case key=>
  obtain⟨k,v,rfl⟩:=i9.1 hd;obtain⟨k0,k1⟩:=O k v;obtain⟨⟨s0,s1⟩,_⟩:=hw _ Qpz;exact ak (aK (iD (ak (c_ (ks,es,ss,(gB ws k).src) (alX E.ahW (E.rm.mono Wl)) (R4 Wi) (ah (bV (by exact E.bY) (by exact E.cZ) QlM fQ) (ah (aD (bz (bV (by exact E.bY) (by exact E.dQ) QlM gj) Qs4 (fq (f:=f7) w0 k0 k1)) (ak (aM (by exact E.zJ) (R4 Wi))) gA) aA)) (by dsimp only [vY];exact#[B,s0,s1,We]) rfl))) rfl)
 case turn=>
  rintro j d U Y ⟨n,m,rfl⟩;obtain⟨k,rfl,_,v,mH,_,AK⟩:=jI Y;obtain⟨k0,k1⟩:=A k v;obtain⟨G,F⟩:=hw _ Qpz;have hlen:=Wo ks es ws ((jb QcB row).take j);have mG:((jb QcB row).take j).length<=63:=by rw[oC];lia
  have o:=K ((jb QcB row).take j) λq u=>A q (y0 u);show c7 X CL b _ _ {nx:=λU=>∃n m,U=[_,_,some Qfv,some Qfv,n,m],rt:=_,bk:=_,ct:=λU=>∃n m,U=[_,_,some Qfv,some Qfv,n,m]};rw[AK,acO];generalize og ks es ws ((jb QcB row).take j)=s at hlen o ⊢;obtain⟨cs,Df⟩:=s;dsimp only at hlen o ⊢;unfold Y3;dsimp only;refine tU (λU=>∃L m,(if nU ws k=true then(if Df.any (K0 es QiT)=true then(cs,Df) else(cs++[k],Df++[ig ks es Qi8])) else(cs++[k],Df))=(cs++[k],L)/\U=[some (.sh (fP bs nm Qba is os Qa2)),some Qsy,some (.lst ((cs.map .int).map T.sh)),some (.lst ((L.map .int).map T.sh)),some Qjm,m])
   (eL (aK (c_ (bs,nm,dP ks es ss,is,os,ws,k) E.sL Q1 Qgi (by dsimp only [gI];exact#[k0,k1]) rfl) (t2:=.sh (.bl (nU ws k))) rfl)) (λe=>?_) (λe=>?_) ?_
  .have e:nU ws k=true:=e;have S:¬ (gB ws k).kf=-1:=by unfold nU at e;simpa using e
   refine aE E.g Qau (aK (c_ (bs,nm,ks,es,ss,is,os,ws,k) E.qQ Qaa Qgi (by dsimp only [jW];exact#[B,We,J,#[k0,k1],G,We,F.2]) rfl) rfl) ?_;have H:=M (oR (ws:=ws) k0 k1);refine cg (eL (aK (alO E.g E.aq2 (bR (aK (abI (p:=λ_=>true) (g:=λd=>T.sh (.bl (K0 es QiT d.wL))) (cj (.cons (E.ll 0).1 Qo6 (.cons (E.ll 5).1 (.inl E.L5) .nil)) Wi) E.g.calm Qbz (λd _=>rfl) (λC s0 H0 f0 b' d hd=>?xM) (mi (bZ (by rw[cM];lia)))) ?ceq)) Qak) (t2:=.sh (.bl (Df.any (K0 es QiT)))) (congrArg (λz=>T.sh (.bl z)) (by rw[List.any_map];rfl)))) (λu=>?_) (λu=>aj ?_)
   case xM=>
    obtain⟨t,I,rfl⟩:=i9.1 hd;exact#[rfl,λ_=>aK (c_ (ks,es,ss,ig ks es Qi8,t) (lK E.P6) Ba (ah (bV (by exact E.bY) (by exact E.cZ) (iH 1) fQ) (ah (iH 2) Qtn)) (by dsimp only [lT];exact#[B,We,H,o t I]) rfl) rfl]
   case ceq=>
    rw[gM,kc,kc,kc];rfl
   .refine alE ?_;rw[cq e,cq u];exact#[_,_,rfl]
   .refine ja (E.ll 3).1 rfl QbP rfl WF (aj #[Df++[ig ks es Qi8],some (.sh (.int QiT)),?_,?_])
    .rw[cq e,bW (by rw[u];decide)]
    .rw[N];rfl
  .have e:nU ws k=false:=e;exact aj #[Df,_,by rw[bW (by rw[e];decide)],rfl]
  rintro U ⟨L,P,Z,rfl⟩;rw[Z];refine ja (E.ll 2).1 rfl Qe6 rfl WF (aj ?_);rw[N];exact#[_,_,rfl]
 case fin=>
  rintro U ⟨n,m,rfl⟩;rw[cM,mv];have hlen:=Wo ks es ws QxW;exact aY (aK (kZ E.kH Qda We Qd) rfl) rfl
def Mp:Q7 (ao Mm) ([("chart",.cell),("found",ck),("chosen",ck),("tops",ck),("number",ck),("upper",.cell),("sorted",bB),("has_target",bB),("way_top",bB),("any",bB)])=true:=by decide +kernel
noncomputable def W6:cW Ud ["chart","found"] (ao Mm):=iW
abbrev jn:=inClass (top 59) 2
abbrev lV:=Addr×CH×Nat×World×GS×Nat×Str
noncomputable abbrev jo:BA:=["self","number","sign","opens","memory","rows","asks","picked","move"]
def gZ:lV->Bz:=λ(y,c,mo,w,s,n,sg)=>[.pin y Qlt,.sh Qdl,.sh Qe2]
def g6:lV->Bz:=λ(y,c,mo,w,s,n,sg)=>[.pin y (.ins "Growth" (Nn c.d mo w ((Np c mo s n sg).getD s))),.sh Qdl,.sh Qe2]
def jE:lV->Prop:=λ(y,c,mo,w,s,n,sg)=>WL c mo s n sg/\Np c mo s n sg≠none
def jF:lV->T:=λ(y,c,mo,w,s,n,sg)=>(.sh .non:T)
structure qm(X:Cx)(CL:BM):Prop extends EL X jo ["list","branches","moved","kept","tuple","len"],fU X.K X.mg CL where
 Ue:Fc X CL "branches" 3 4 m9 kM ng
 ahX:Fc X CL "moved" 46 4 vX qR qS
 B6:Fc X CL "kept" 5 2 zZ uY z7
 mW:F1 X CL "Growth" "number_of" 1 3 dR dS dU
 jK:JA X CL "Growth" "number_of" 1 3 di eV eY dm
 P7:sT X CL "branches" 3 4 kN iU kO
theorem uZ(E:qm X CL){y:Addr}{w:World}{s:GS}(h:WL c mo s n sg)(hb:Np c mo s n sg=none->∃J W,X=Cx.i4 J (XE J W)/\eZ b W QeG) :
  c7 X CL b (bG jn) (nS jo [.pin y Qlt,.sh Qdl,.sh Qe2]) {nx:=λU=>∃s',Np c mo s n sg=some s'/\Keeps U [.pin y (.ins "Growth" (Nn c.d mo w s')),.sh Qdl,.sh Qe2],rt:=λ_ _=>False}:=by
 obtain⟨f,nd,ln,ae,gd,hn,S,aa,GJ⟩:=h;obtain⟨p,H⟩:∃p,p=s.fl.getD n ([],[]):=#[_,rfl];have C:s.fl[n]? = some p:=by rw[H,km,kA hn];rfl
 have A:Gd c p:=gd p (l4 C);obtain⟨g1,g2,g3,g4⟩:=WC f A;have n1:=f.k.n1;have wl:=f.k.wl;have K:=f.k.kl;have P:=f.k.pre.1;have G:=f.q (c.bs.map (·.2)) (cM ..);have Dt:wg QdI (n:Int)=some (jT p):=cR (by rw[k4,C];rfl);unfold Nn;refine aE E.g Qas (qA E.cI (eG (aD QvG ai gA) (by show D.bC _=true;exact bu _)) Qd aZ) ?_;refine aE E.g Qal (qA E.cI (eG (aD QvG ai mh) (by show D.bC _=true;exact bu _)) Qd aZ) ?_;refine aE E.g Qau (dF bM aN) ?_;show c7 X CL b _ [some (.pin y (.ins "Growth" (GC c.d mo Qsb _ Qp4 Qnj))),some QbR,some Qfi,some Qic,some Qid,some QjU,none,none,none] _;by_cases hw:s.sp<(SQ c p sg).length
 .have e:Np c mo s n sg=none:=by unfold Np;rw[<- H,cq hw]
  obtain⟨J,W,rfl,Y⟩:=hb e;refine Kg E.g QrS (λ_ U=>U.length=9/\U[0]? = some (some T.bad)) (Og (dZ (ds:=[]) (V2 (t:=.sh QjU) (U2:=[some T.bad,none,none,none,none,none,none,none,none]) (c.bs.map k9,c.nm,c.ks,c.es,c.ss,c.is.map .tup,c.os.map .tup,c.ws,p.1,sg,s.sp) V0 Y E.P7 Q1
   (gW (VQ (f6 E.bf E.iR Qch rfl rfl mq) rfl (iQ mq)).m (gW (C4 (E.ll 3).1 rfl).m (gW (v_ (E.ll 2).1).m (gW (VQ Qse rfl (iQ uc)).m Dv)))) (by dsimp only [iU];exact#[#[P,We,K],#[We,G.ok,G.g],#[We,g1],hw,GJ])))) #[rfl,rfl] (λj U z i hi=>?_) (λj d U hd=>by cases hd) (λU z=>V1 0 z.2)
  simp only[fL,lL,or_false]at hi;rw[z.1];obtain rfl|rfl:=hi<;>decide
 have hB:(SQ c p sg).length<=s.sp:=by lia
 refine Kg E.g QrS (λj U=>∃x O N F,K9 c mo p ((SQ c p sg).take j) (s.fl,[])=some x/\U=[some QkI,some QbR,some Qfi,some Qic,some Qid,some Qii,O,N,F])
  (Og (dZ (gQ (aK (c_ (c.bs.map k9,c.nm,c.ks,c.es,c.ss,c.is.map .tup,c.os.map .tup,c.ws,p.1,sg,s.sp) E.Ue Q1 (ah QkW (ah Qbz (ah Q2 (ah (ju Qse rfl (iQ uc) rfl) aA)))) (by dsimp only [kM];exact#[#[P,We,K],#[We,G.ok,G.g],#[We,g1],hB,GJ]) (cA (eO (λx=>ahp x) _))) (t2:=.lst (((SQ c p sg).map v3).map T.sh)) rfl)))) #[(s.fl,[]),none,none,none,rfl,rfl] (λj U ⟨x,_,_,_,_,e⟩ i hi=>?len) ?turn ?fin
 case len=>
  subst e;simp only[fL,lL,or_false]at hi;obtain rfl|rfl:=hi<;>exact i5 rfl
 case turn=>
  rintro j d U hj ⟨x,O,N,F,l,rfl⟩;rw[k4]at hj;obtain⟨a,o,rfl⟩:=nq.1 hj;have V:=l4 o;obtain⟨v,_⟩:=Lb f A _ (n:=0) (λz hz=>y0 hz) #[nd,ln,gd,rfl,λr R=>by cases R] l;have kl:=v.rl;have kn:=v.ln;rw[oC]at kl;obtain⟨pn,pk⟩:=E3 f A sg a V;have L:=K8 f pn pk;obtain⟨sl,_⟩:=Ws f A L;have M:D.bC QiK=true:=jr λd hd=>WD (Th f L d hd);have pl:a.2.length<=63:=by
   have:=nG (n:=c.ws.length) pn λz hz=>(pk z hz).1;lia
  refine#[ _,rfl,?_];show c7 X CL b _ [some QkI,some QbR,some Qfi,some Qic,some Qid,some Qii,some QoG,some QlO,F] _;obtain⟨ch,⟨c1,c2⟩,Z,c4⟩:=id A;have B:=L;rw[Z]at B;have em:qS (c.bs.map k9,c.nm,c.ks,c.es,c.ss,c.is,c.os,c.ws,ch,p.2,qu c a.2)=T.tup [.lst ((SJ c p QaP).map T.sh),.lst (((toN c p QaP).1.map .int).map T.sh),.lst (((toN c p QaP).2.map .int).map T.sh)]:=by unfold SJ toN;rw[Z];rfl
  have wo:=f.k.wo;refine aE E.g QdX (jt (d:=.tup [.lst QiK,.lst ((toN c p QaP).1.map .int),.lst ((toN c p QaP).2.map .int)]) (aK (c_ _ E.ahX Qaa (ah QkW (ah (sY Qbz (by rw[Z])) (ah Qcp (ah (bR (aK (c_ (c.bs.map k9,c.nm,c.ks,c.es,c.ss,c.is.map .tup,c.os.map .tup,c.ws,a.2) E.B6 Qak (ah QkW (ah (bR (qA E.cI QdS Qd aZ)) aA)) (by dsimp only [uY];exact#[P,We,K,pl,λk S=>(pk k S).1,λw hw=>#[(wo w hw).1,by have:=(wo w hw).2.1;lia]]) (aP _)) rfl)) aA)))) (by dsimp only [qR];exact#[f.k,#[c1,c2],c4,B]) ?cl) em) ?fr) ?_
  case cl=>
   rw[em];show T.clean (.tup [_,_,_])=true;rw[T.clean,T.gi,T.gi,T.gi,T.gi,cA M,aP,aP];rfl
  case fr=>rw[T.fC,T.dB,T.dB,T.dB,T.dB,bT,bT,bT]
  show c7 X CL b _ [some QkI,some QbR,some Qfi,some Qic,some Qid,some Qii,some QoG,some QlO,some Qqf] _;have hlen:((x.2.map CG).map T.sh).length<=1000000:=by rw[cM,cM];lia
  by_cases I:tI c mo p x a
  .have e:Np c mo s n sg=none:=by unfold Np;rw[<- H,bW hw,ac6 o l I];rfl
   obtain⟨J,W,rfl,Y⟩:=hb e;refine XN (E.ll 5).1 rfl (VW (tl:=[.sh QqK,.sh (.tup QiK),.sh .non]) (gW (v_ (E.ll 6).1).m (gW (fM E.dz Quh M QaL).m (gW (OJ (t:=.sh .non) (U2:=[some T.bad,none,none,none,none,some Qii,none,none,none]) (dl:=[.lst ((toN c p QaP).1.map .int),.lst ((toN c p QaP).2.map .int)]) Qqp V0 (λ_=>Y) E.mW (E.ll 0).1 (.pin rfl) Qq2 (λ_ _=>#[#[v.nd,kn,We],I])).m Dv))) aN) rfl hlen QpA
  refine XN (E.ll 5).1 rfl (abZ (ds:=[.tup (a.1.map wB),.tup QiK,.int (oe x.1 QbQ:Nat)]) (gW (v_ (E.ll 6).1).m (gW (fM E.dz Quh M QaL).m (gW (qM (dl:=[.lst ((toN c p QaP).1.map .int),.lst ((toN c p QaP).2.map .int)]) Qqp (.pin y (.ins "Growth" _)) E.jK (E.ll 0).1 (.pin rfl) Qq2 (λ_ _=>#[#[v.nd,kn,We],I]) Qcs (λz hz=>by cases hz;exact#[rfl,.inr rfl,trivial])) Dv))) aN) rfl hlen (aj #[r4 c p x a,some QoG,some QlO,some Qqf,ac7 o l I,?_]);show [_,_,_,_,_,some (T.lst ((x.2.map CG).map T.sh++[T.sh _])),_,_,_]=_;rw[show(x.2.map CG).map T.sh++[T.sh _]=((r4 c p x a).2.map CG).map T.sh by unfold r4;rw[ky,ky];rfl];rfl
 case fin=>
  rintro U ⟨x,O,N,F,l,rfl⟩;rw[cM,mv]at l;obtain⟨v,_⟩:=Lb f A _ (n:=0) (λz hz=>hz) #[nd,ln,gd,rfl,λr R=>by cases R] l;have kl:=v.rl;rw[Nat.zero_add]at kl;refine acd E.bf E.gC Qch rfl rfl uc (ak (bS (cM ..) E.cJ QiZ QbF)) QaF ?_;show c7 X CL b _ [some (.pin y (.ins "Growth" (nR "spare_rows" _ _))),_,_,_,_,_,_,_,_] _;rw[ahe];refine VY (qJ n sg) E.u QnW (f6 E.bf E.pN Qch rfl rfl zA) (aK (kX (aH Qbx (aH QaM bM)) aN) (t2:=wN (qJ n sg)) rfl) rfl (iQ zA) (by rw[show(fS QdQ).map (·.1)=s.rs.map (·.1) by unfold fS jg;rw[kc,kc];rfl];exact S) (by unfold fS jg;rw[cM,cM];lia) (aj #[#[x.1,s.rs++[(qJ n sg,x.2)],s.sp-x.2.length],?_,?_])
  .unfold Np;rw[<- H,bW hw,l];rfl
  .show Keeps [some (T.je [.fld "rows"] _ _),_,_,_,_,_,_,_,_] _;rw[amD zA (ahd _)];have e1:fS QdQ++[(qJ n sg,T.lst ((x.2.map CG).map T.sh))]=fS (jg (s.rs++[(qJ n sg,x.2)])):=by unfold fS jg;rw[ky,ky];rfl
   have e2:((s.sp:Nat):Int)-(x.2.length:Nat)=((s.sp-x.2.length:Nat):Int):=by lia
   rw[e1,e2];exact TM (ds:=[.int n,.str sg])
def Ht(E:qm X CL) :
  L3.DdM X CL b jn jo gZ jE jF g6:=by
 rintro⟨y,c,mo,w,s,n,sg⟩ h;dsimp only [jE,gZ,jF,g6]at h ⊢;obtain⟨h1,h2⟩:=h;refine(uZ E h1 λz=>absurd z h2).mono (λU z=>?_) λ_ _ z=>z.elim;obtain⟨s',e,k⟩:=z;rw[e];exact#[rfl,k]
abbrev mP:Type:=Addr×CH×Nat×World×GS×Nat×Str
def iJ:mP->Bz:=λ(y,c,mo,w,s,n,sg)=>[.pin y Qlt,.sh Qdl,.sh Qe2]
def iK:mP->Prop:=λ(y,c,mo,w,s,n,sg)=>WL c mo s n sg/\Np c mo s n sg=none
def iL:mP->Str:=λ(y,c,mo,w,s,n,sg)=>"TooWide"
def Ga(E:qm QbA CL)(y c mo w s n sg)(h:iK (y,c,mo,w,s,n,sg))(a:eZ b W (CL (iL (y,c,mo,w,s,n,sg)))) :
  c7 QbA CL b (bG jn) (nS jo (iJ (y,c,mo,w,s,n,sg))) {nx:=λ_=>False,rt:=λ_ _=>False}:=by
 dsimp only [iK,iJ,iL]at h a ⊢;refine(uZ E h.1 λ_=>#[X,W,rfl,a]).mono (λU z=>?_) λ_ _ z=>z.elim;obtain⟨s',e,_⟩:=z;rw[h.2]at e;cases e
noncomputable def gJ:FG jo ["self","number","sign"] ["list","branches","moved","kept","tuple","len"] (ao jn):=fG
theorem yo(l:BA):(zS l).Nodup:=by
 have gen:∀(l acc:BA),acc.Nodup->(l.foldl G9 acc).Nodup:=by
  intro l
  induction l with
  | nil=>intro acc h;exact h
  | cons x l b=>
   intro acc h;apply b _;unfold G9;split
   .exact h
   .rw[ma];exact#[h,ml.2 #[lL,Wp ],λa f c d e=>by simp_all ]
 exact gen l [] Wp
def iA(c:CH):BA:=zS (c.ws.map (·.sign))
def vi(w:bN):D×Str×At:=(.int w.src,w.sign,[.tup w.asks,.tup w.jc,.int w.kf,.str w.mode])
theorem z8(h:c.Ok):(iA c).length<=12:=by
 have:=PN (c.ws.map (·.sign));have:=h.k.wl;unfold iA;simp at *;lia
theorem SI(h:c.Ok)(hm:0<mo):zG c mo (iA c) 0 0 Qfk:=by
 refine#[ml.2 #[ Wp,oy],hm,Nat.one_pos,λp b=>?_,?_,oy,λq a=>(by cases a),js _,#[rfl,λq a=>(by cases a),rfl,by show 0+8*mo=8*mo;lia]]
 .cases lh.1 b;exact amA h
 rfl
theorem zG.pre(h:c.Ok){s:GS}(k:zG c mo (iA c) n j s)(hm:mo<=100)(hn:QoR)(a:(iA c)[j]? = some sg):WL c mo s n sg:=by
 have ln:=k.ln;have sp:=k.sp;refine#[h,k.nd,ln,hm,k.gd,hn,?_,?_,We]
 .exact k.ks▸Jd (yo _) n a
 .have e:=congrArg List.length k.ks;simp at e;have hl:=z8 h;have:(pM (iA c) n j).length<=12*n+12:=by
   unfold pM;rw[lj,cM,oC];have f:=jS (f:=λm=>(iA c).map (qJ m)) (c:=12) QxV λm _=>by simp_all
   rw[m3]at f;lia
  lia
theorem SH{c:CH}(h:c.Ok){mo n:Nat}:∀(l:BA) {j:Nat} {s s':GS},(iA c).drop j=l->zG c mo (iA c) n j s->n<s.fl.length->Ra c mo n l s=some s'->zG c mo (iA c) n (iA c).length s'/\s.fl.length<=s'.fl.length
 | [],j,s,s',e,k,_,g=>by
  cases g;have e2:pM (iA c) n j=pM (iA c) n (iA c).length:=by simp_all [pM,List.take_of_length_le,mv]
  exact#[#[k.nd,k.ln,k.p0,k.gd,k.ks.trans e2,k.kd,k.rw,k.sp,k.tj],Wp ]
 | sg::l,j,s,s',e,k,hn,g=>by
  have f:=by
   have:=congrArg (·[0]?) e;simpa using this
  rw[Ra]at g;cases a:Np c mo s n sg with
  | none=>rw[a]at g;cases g
  | some s2=>
   rw[a]at g;obtain⟨k2,d⟩:=Tu h (yo _) k f hn a;obtain⟨k3,b⟩:=SH h l (by rw[<- List.drop_drop,e];rfl) k2 We g;exact#[k3,l6 d b]
theorem SF{c:CH}(h:c.Ok){mo:Nat}:∀(f:Nat) {n:Nat} {s s':GS},zG c mo (iA c) n 0 s->n<=s.fl.length->mo<=n+f->tJ c mo (iA c) f n s=some s'->zG c mo (iA c) s'.fl.length 0 s'
 | 0,n,s,s',k,hn,hf,e=>by
  cases e;have:=k.ln;grind
 | f+1,n,s,s',k,hn,hf,e=>by
  rw[tJ]at e;split at e
  .rename_i b;cases a:Ra c mo n _ s with
   | none=>rw[a]at e;cases e
   | some s2=>
    rw[a]at e;obtain⟨k2,d⟩:=SH h _ rfl k b a;have ks:=k2.ks;rw[zF]at ks;exact SF h f #[k2.nd,k2.ln,k2.p0,k2.gd,ks,k2.kd,k2.rw,k2.sp,k2.tj] We We e
  grind
theorem SE(h:c.Ok)(hm:0<mo){s:GS}(e:Ld c mo (iA c)=some s):zG c mo (iA c) s.fl.length 0 s:=SF h mo (SI h hm) Wp We e
def Zt(l:QbO):(jg l).map (·.1)=l.map (·.1):=by unfold jg;rw[kc];rfl
def adQ{hs:BA}{s:GS}(k:zG c mo hs n j s):∀q∈jg s.rs,D.bC q.2=true:=λq e=>by
 obtain⟨r,b,rfl⟩:=i9.1 e;exact jr λd hd=>by obtain⟨x,a,rfl⟩:=i9.1 hd;exact WG ((k.rw r b).2 x a)
def Mq(p:Pl):(jT p).mZ=true:=by
 show(D.tup _).mZ=true;rw[D.mZ,D.bC,D.bC,D.mZ,D.mZ,bu,bu];rfl
def W7(c:CH):At:=inR c.is (Wt c).1
abbrev z9:=top 60
abbrev Mr:=CH×Nat
abbrev Aa:BA:=["chart","most","start","names","growth","number","sign"]
def vZ:Mr->At:=λ(c,mo)=>[c.d,.int mo]
def v5:Mr->Prop:=λ(c,mo)=>(c.Ok/\0<mo/\mo<=100)/\Ld c mo (iA c)≠none
def v7:Mr->T:=λ(c,mo)=>(.tup [.sh QtE,.sh (.tup (W7 c)),.lst ((((Ld c mo (iA c)).getD Qfk).fl.map jT).map T.sh),.dct (fS Qx8)]:T)
structure Ms(X:Cx)(CL:BM):Prop extends EL X Aa ["begun","signs","Growth","len","tuple"],fU X.K X.mg CL where
 ahY:Fc X CL "begun" 44 1 BJ BK vW
 sM:Fc X CL "signs" 1 1 lz iy jV
 adR:Fm X CL "Growth" 1 3 tD tE tF
 mW:F1 X CL "Growth" "number_of" 1 3 dR dS dU
 jK:JA X CL "Growth" "number_of" 1 3 di eV eY dm
 Gb:F1 X CL "Growth" "grow" 47 3 iJ iK iL
 Hu:JA X CL "Growth" "grow" 47 3 gZ jE jF g6
theorem P8(E:Ms X CL)(h:c.Ok/\0<mo/\mo<=100)(F:Ld c mo (iA c)=none->∃r W,X=Cx.i4 r (XE r W)/\eZ b W QeG) :
  c7 X CL b (bG z9) (entry Aa [c.d,.int mo]) {nx:=λ_=>False,rt:=λK _=>∃s,Ld c mo (iA c)=some s/\K=.tup [.sh QtE,.sh (.tup (W7 c)),.lst ((s.fl.map jT).map T.sh),.dct QmS]}:=by
 obtain⟨i,m0,m1⟩:=h;have a:=i.k;have n1:=a.n1;have wl:=a.wl;have G:=EK i;have p:D.bC (W7 c)=true:=(EI a.ir (Wt c).1).2;refine aE E.g Qam (jt (d:=.tup [.lst (W7 c),.lst ((Wt c).1.map .int),.lst ((Wt c).2.map .int)]) (aK (c_ (c.bs.map k9,c.nm,c.ks,c.es,c.ss,c.is,c.os.map .tup,c.ws.map f7) E.ahY Qd (ah QP aA) (by exact#[i.nl,a.n0,We,a.kl,a.sl,a.il,a.ir,a.kinds,G]) ?cl) (t2:=.tup [.lst ((W7 c).map T.sh),.lst (((Wt c).1.map .int).map T.sh),.lst (((Wt c).2.map .int).map T.sh)]) rfl) ?fr) ?_
 case cl=>
  show T.clean (.tup [.lst ((W7 c).map T.sh),.lst _,.lst _])=true;rw[T.clean,T.gi,T.gi,T.gi,T.gi,cA p,aP,aP];rfl
 case fr=>rw[T.fC,T.dB,T.dB,T.dB,T.dB,bT,bT,bT]
 have u:(c.ws.map vi).map FX=c.ws.map f7:=by rw[kc];rfl
 have e:zS ((c.ws.map vi).map (·.2.1))=iA c:=by rw[kc];rfl
 refine aE E.g Qas (gQ (aK (c_ (c.bs.map k9,c.nm,dP c.ks c.es c.ss,c.is.map .tup,c.os.map .tup,c.ws.map vi) E.sM Q1 (ah (sY QP (by show c.d=_;unfold CH.d;rw[u])) aA) (by dsimp only [iy];rw[List.length_map];lia) (rJ _)) (by show T.lst _=_;rw[e]))) ?_;refine aE E.g Qal (NN (c.d,mo,X.w) E.adR Qaa Ql6 trivial) ?_;refine Ko (qM (dl:=[.lst _,.lst _]) (λy=>(y,c.d,mo,X.w,(#[[],[],8*mo]:GS),Wt c)) (.ins "Growth" (Nn c.d mo X.w Qfk)) E.jK (E.ll 4).1 Qpn (aH Qxq (aH Qxr bM)) (λ_ _=>#[#[List.nodup_nil,Nat.zero_le _,We],λz=>by have:=z.2;dsimp only [List.length_nil]at this;lia]) Qcs (λz _=>#[rfl,.inl (by dsimp only;rw[ahh];rfl),trivial])) ?_;refine aE E.g Qau j6 ?_;show c7 X CL b _ [some Qdd,some QgB,some Qku,some _,some _,some QxU,none] _;refine Kc E.g (λk U=>∃(n:Nat) (s:GS) (o:QcZ),zG c mo (iA c) n 0 s/\n<=s.fl.length/\Ld c mo (iA c)=tJ c mo (iA c) (mo-n) n s/\k=mo-n/\U=[some Qdd,some QgB,some Qku,some _,some (.ins "Growth" (Nn c.d mo X.w s)),some QbR,o]) _
  #[0,r2 c mo,none,SI i m0,kx _,rfl,rfl,rfl] ?_
 rintro k U ⟨n,s,o,hs,hn,he,rfl,rfl⟩;have B:=hs.ln;refine#[_,_,(Vv Qac (ak (bS (cM ..) E.cJ (ju QrY rfl (K7 fH) (bT _)) Qak))).1,λC=>?_,λC=>?_]
 .obtain⟨f,hf⟩:∃f,mo-n=f+1:=#[mo-n-1,We];rw[hf,tJ,cq We]at he;refine eS E.g QaR (λj U=>∃(s2:GS) (o:QcZ),Ra c mo n ((iA c).take j) s=some s2/\zG c mo (iA c) n j s2/\n<s2.fl.length/\U=[some Qdd,some QgB,some Qku,some _,some (.ins "Growth" (Nn c.d mo X.w s2)),some QbR,o]) (dZ Qbw) #[s,o,rfl,hs,We,rfl] (by rintro j U ⟨_,_,_,_,_,rfl⟩;exact i5 rfl) ?turn ?fin
  case turn=>
   rintro j d U A ⟨s2,o,e2,k2,q,rfl⟩;rw[k4]at A;obtain⟨sg,e,rfl⟩:=nq.1 A;have x:=k2.pre i m1 q e;cases l:Np c mo s2 n sg with
   | none=>
    have v:Ld c mo (iA c)=none:=by
     have hl:j<(iA c).length:=(md.1 e).1;have I:=by
      have h2:=wj j (iA c);rw[u7 hl,(md.1 e).2]at h2;exact h2.symm
     have J:Ra c mo n (iA c) s=none:=by
      rw[I,Lc,e2];show Ra c mo n (sg::_) s2=none;rw[Ra,l];rfl
     rw[he,J];rfl
    obtain⟨r,W,rfl,H⟩:=F v;exact Ko (OJ (t:=.sh .non) (U2:=[some T.bad,none,none,none,none,none,none]) (dl:=[.int n,.str sg]) (λy=>(y,c,mo,r.w,s2,n,sg)) V0 (λ_=>H) E.Gb (E.ll 4).1 Qpn Qto (λ_ _=>#[x,l])).m QpA
   | some s3=>
    obtain⟨k3,L⟩:=Tu i (yo _) k2 e q l;refine Ko (qM (dl:=[.int n,.str sg]) (λy=>(y,c,mo,X.w,s2,n,sg)) _ E.Hu (E.ll 4).1 Qpn Qto (λ_ _=>#[x,by rw[l];intro z;cases z]) Qcs (λz _=>#[rfl,.inl (by rw[l];rfl),trivial])) (aj #[s3,_,?_,k3,We,rfl]);rw[Bs e,Lc,e2];show Ra c mo n [sg] s2=some s3;rw[Ra,l];rfl
  case fin=>
   rintro U ⟨s2,o,e2,k2,q,rfl⟩;rw[cM,mv]at e2;rw[cM]at k2;refine ama E.g Qau rfl ai (aj #[mo-QaC,We,n+1,s2,o,?_,q,?_,rfl,rfl])
   .have ks:=k2.ks;rw[zF]at ks;exact#[k2.nd,k2.ln,k2.p0,k2.gd,ks,k2.kd,k2.rw,k2.sp,k2.tj]
   .rw[he,e2,show mo-QaC=f by lia];rfl
 .have v:Ld c mo (iA c)=some s:=by
   rw[he];cases mo-n with
   | zero=>rfl
   | succ f=>rw[tJ,bW We]
  exact aY (kX (aH Qbw (aH (fM E.dz (ak Qxs) p QaL) (aH (aqE (VR QrY rfl (K7 fH)) (U2:=[some Qdd,some QgB,some Qku,some _,some (.ins "Growth" (GC c.d mo Qpk _ _ _)),some QbR,o]) (by show [_,_,_,_,some (T.je [.fld "flats"] _ _),_,_]=_;unfold Nn;rw[ahi fH (ahb _)])) (aH (VR (f6 E.bf E.pN QlN rfl rfl zA) rfl (K7 zA)) bM)))) aN) #[s,v,rfl]
def ahZ(E:Ms X CL) :
  kC X CL b z9 Aa vZ v5 v7:=by
 rintro⟨c,mo⟩ h;dsimp only [v5,vZ,v7]at h ⊢;obtain⟨h1,h2⟩:=h;refine(P8 E h1 λz=>absurd z h2).mono QeV λv U z=>?_;obtain⟨s,e,k⟩:=z;rw[e];exact k
abbrev B7:Type:=CH×Nat
def oZ:B7->At:=λ(c,mo)=>[c.d,.int mo]
def pe:B7->Prop:=λ(c,mo)=>(c.Ok/\0<mo/\mo<=100)/\Ld c mo (iA c)=none
noncomputable def pA:B7->Str:=λ(c,mo)=>"TooWide"
def adS(E:Ms QbA CL)(c mo)(h:pe (c,mo))(a:eZ b W (CL (pA (c,mo)))) :
  c7 QbA CL b (bG z9) (entry Aa (oZ (c,mo))) {nx:=λ_=>False,rt:=λ_ _=>False}:=by
 dsimp only [pe,oZ,pA]at h a ⊢;refine(P8 E h.1 λ_=>#[X,W,rfl,a]).mono QeV λv U z=>?_;obtain⟨s,e,_⟩:=z;rw[h.2]at e;cases e
noncomputable def qT:FG Aa ["chart","most"] ["begun","signs","Growth","len","tuple"] (ao z9):=fG
abbrev sN:=inClass (top 62) 0
abbrev sO:=At×At×At×At×(List (fB×At))
noncomputable abbrev sP:BA:=["self","boxes","signs","begin","flats","rows","key"]
def u9:sO->At:=λ(bs,hs,bg,pr,kvs)=>[.lst bs,.lst hs,.tup bg,.lst pr,.dct Qpf]
def vd:sO->Prop:=λ(bs,hs,bg,pr,kvs)=>D.bC bs=true/\D.bC hs=true/\D.bC pr=true/\(∀q∈kvs,D.bC q.2=true)/\(kvs.map (·.1)).Nodup/\kvs.length<=5000
def ve:sO->BS:=λ(bs,hs,bg,pr,kvs)=>(K4 bs hs bg pr kvs:BS)
theorem Mt(E:GD sP ["list","tuple"] X CL)(bs hs bg pr:At)(kvs:Qc1)(y:Addr)(h:D.bC bs=true/\D.bC hs=true/\D.bC pr=true/\(∀q∈kvs,D.bC q.2=true)/\(kvs.map (·.1)).Nodup/\kvs.length<=5000) :
  c7 X CL b (bG sN) (Kd sP y "Table" [.lst bs,.lst hs,.tup bg,.lst pr,.dct Qpf]) {nx:=λU=>U[0]? = some (some (.pin y QrE)),rt:=λ_ _=>False}:=by
 obtain⟨h1,h2,s,r,n,v⟩:=h;apply gH E.cY E.G3 (E.ll 0).1 (cL E.cI QR h1 Qd aZ).m rfl QaF;rw[yS];apply gH E.cY E.G4 (E.ll 0).1 (cL E.cI Q2 h2 Qd aZ).m rfl QaF;rw[ic Wi,yS];apply gH E.cY E.G5 (E.ll 0).1 (Yx E.dz Qbw Q1).m rfl QaF;rw[ic Wi,ic Wi,yS];apply gH E.cY E.cu (E.ll 0).1 (cL E.cI Qai s Qd aZ).m rfl QaF;rw[ic Wi,ic Wi,ic Wi,yS];apply gH E.cY E.iX (E.ll 0).1 Oz.m rfl QaF;rw[ic Wi,ic Wi,ic Wi,ic Wi];refine agM E.g QaR (λj U=>∃o,U=[some (.pin y (.ins _ Qra)),some _,some _,some _,some _,some _,o]) QbP #[_,rfl] (by rintro j U ⟨_,rfl⟩;exact i5 rfl) ?turn ?fin
 case turn=>
  rintro w j k d U a ⟨o,rfl⟩;have l:=a;unfold qI at a;rw[k4]at a;obtain⟨q,f,e⟩:=nq.1 a;cases e;have c:=l4 f;have hv:=Wy (by rw[SM];exact n) l;have hn:q.1∉(fS Qmr).map _:=λhm=>by
   rw[SN,xa]at hm;obtain⟨i,hi,e⟩:=zp hm;rw[oC]at hi;rw[List.getElem_take]at e;have p:i<(kvs.map (·.1)).length:=by lia
   have:=(Hk p n).1 (show(kvs.map _)[i]? = (kvs.map _)[j]? by
    rw[kA p,e,k4,f];rfl)
   lia
  refine VY q.1 E.u (cL E.cI (Eh q.1 E.u Qac Qwc hv) (r q c) Qd aZ) (f6 E.cY E.iX Qch rfl rfl Jb) Qwc rfl (by rfl) hn (by unfold fS;rw[cM,oC];lia) (aj #[some (wN q.1),?_]);have e:T.je [.fld "rows"] (.dct (fS Qmr++[(q.1,.lst Qol)])) (.pin y (.ins "Table" Qra))=.pin y (.ins "Table" (tN bs hs bg pr (.dct (fS Qwd)))):=by
   have t:fS Qmr++[(q.1,T.lst Qol)]=fS Qwd:=by
    unfold fS;rw[sm,f,ky];rfl
   rw[t];exact Y7
  show [some (T.je [.fld _] _ _),_,_,_,_,_,_]=_;rw[e]
 case fin=>
  rintro U ⟨o,rfl⟩;rw[show(qI kvs).length=kvs.length by unfold qI;rw[cM],mv];exact aj rfl
noncomputable def qo:FG sP ["self","boxes","signs","begin","flats","rows"] ["list","tuple"] (ao sN):=fG
abbrev pB:=top 63
abbrev vf:=CH×Nat
noncomputable abbrev pC:BA:=["chart","most","parts"]
def lW:vf->At:=λ(c,mo)=>[c.d,.int mo]
def lX:vf->Prop:=λ(c,mo)=>(c.Ok/\0<mo/\mo<=100)/\Ld c mo (iA c)≠none
def jq:vf->T:=λ(c,mo)=>(.ins "Table" (K4 QdU ((iA c).map .str) (W7 c) (((Ld c mo (iA c)).getD Qfk).fl.map jT) Qx8):T)
structure CW(X:Cx)(CL:BM):Prop extends EL X pC ["grown","Table"],fU X.K X.mg CL where
 ah0:Fc X CL "grown" 48 2 vZ v5 v7
 ah1:Fm X CL "Table" 1 6 u9 vd ve
 adT:sT X CL "grown" 48 2 oZ pe pA
theorem P9(E:CW X CL) :
  kC X CL b pB pC lW lX jq:=by
 rintro⟨c,mo⟩ h;dsimp [jq]at h ⊢;obtain⟨⟨a,m0,m1⟩,i⟩:=h;obtain⟨s,e⟩:∃s,Ld c mo _=some s:=Option.ne_none_iff_exists'.1 i;have hs:=SE a m0 e;apply aE E.g Qam (jt (d:=.tup _) (cF (c,mo) E.ah0 Qd Ql6 #[#[a,m0,m1],i]) (by
  show T.fC (.tup _)=_;rw[e];rw[T.fC,T.dB,T.dB,T.dB,T.dB,bT,T.fC,T.fC,T.fC,Jc]))
 have k:=hs.ln;have j:(jg s.rs).length<=5000:=by
  have hl:=z8 a;have e2:=congrArg List.length hs.ks;rw[cM]at e2;have f:=jS (f:=λm=>(iA c).map (qJ m)) Qtp λm _=>by rw[cM];exact hl
  unfold pM at e2;rw[List.take_zero,List.map_nil,ko]at e2;rw[m3]at f;unfold jg;rw[cM];lia
 exact aY (aK (NN (c.bs.map k9,(iA c).map .str,W7 c,s.fl.map jT,jg s.rs) E.ah1 Q1 (aq (tX E.bY E.wV QaH O1) (aq Qxs (aq Qxq (aq Qxr (aq (cy QaM ai Kz) aV))))) #[eO QcP _,tY _,eO (Mq) _,adQ hs,by rw[Zt];exact hs.kd,j]) (by rw[e];rfl)) rfl
abbrev qp:Type:=CH×Nat
def g7:qp->At:=λ(c,mo)=>[c.d,.int mo]
def g8:qp->Prop:=λ(c,mo)=>(c.Ok/\0<mo/\mo<=100)/\Ld c mo (iA c)=none
noncomputable def g9:qp->Str:=λ(c,mo)=>"TooWide"
def Mu(E:CW QbA CL)(c mo)(h:g8 (c,mo))(a:eZ b W (CL (g9 (c,mo)))) :
  c7 QbA CL b (bG pB) (entry pC (g7 (c,mo))) {nx:=λ_=>False,rt:=λ_ _=>False}:=by
 dsimp only [g8,g7,g9]at h a ⊢;exact aE E.g Qam (V2 (t:=.sh .non) (U2:=[some T.bad,none,none]) (c,mo) V0 a E.adT Qd (gW (v_ (E.ll 0).1).m (gW (v_ (E.ll 1).1).m Dv)) h) QpA
noncomputable def i7:FG pC ["chart","most"] ["grown","Table"] (ao pB):=fG
def sZ(c:CH)(mo:Nat):T:=match Ld c mo (iA c) with
 | some s=>.ins "Table" Qq1
 | none=>.sh .non
abbrev Mv:=top 85
abbrev Mw:=CH
noncomputable abbrev Mx:BA:=["chart","table"]
def B8:Mw->At:=λc=>[c.d]
def B9:Mw->Prop:=λc=>c.Ok
def v8:Mw->T:=λc=>(sZ c 60:T)
structure ah2(X:Cx)(CL:BM):Prop extends EL X Mx ["flattened","TooWide"],fU X.K X.mg CL where
 vg:FcD X CL "flattened" 49 2 lW lX jq 60
 sQ:xt X CL "flattened" 49 2 g7 g8 g9 60
 st:X.stack=X.env::X.outer
 fm:X.env.frame=some X.env.locals
 nx:X.xe=λ_ _=>False
 jL:exmOne X.K QgI QgI=some true
def ah3(E:ah2 X CL) :
  kC X CL b Mv Mx B8 B9 v8:=by
 intro c h;dsimp [v8]at h ⊢;apply aE E.g Qet J1;unfold sZ;cases e:Ld c 60 _ with
 | some s=>
  apply T1 E.nx;refine aE E.g Qet (aK (cFD (c,60) E.vg Qd (aq QaH aV) #[#[h,Wl,Wl],by rw[e];intro z;cases z]) (t2:=.ins _ QvH) (by show T.ins _ _=_;rw[e];rfl)) (aj ?_);exact aY Qx4 rfl
 | none=>
  refine T2 E.st E.fm E.nx (λp=>RS E.g.nd (E.ll 1).pin (agO (c,60) E.nx E.sQ.pin Qd (ah QtV aA) #[#[h,Wl,Wl],e])) QuO λev=>?_;refine TU E.g.nd (E.ll 1).hand J1 (aj ?_);exact aY Qbx rfl
noncomputable def Qa:FG Mx ["chart"] ["flattened","TooWide"] (ao Mv):=fG
abbrev Ug:=top 84
abbrev Uh:=CH×Nat
noncomputable abbrev Ui:BA:=["chart","most","table"]
def Ge:Uh->At:=λ(c,mo)=>[c.d,.int mo]
def Gf:Uh->Prop:=λ(c,mo)=>c.Ok/\0<mo/\mo<=100
def Ab:Uh->T:=λ(c,mo)=>(sZ c mo:T)
structure ano(X:Cx)(CL:BM):Prop extends EL X Ui ["flattened","TooWide"],fU X.K X.mg CL where
 vg:Fc X CL "flattened" 49 2 lW lX jq
 sQ:sT X CL "flattened" 49 2 g7 g8 g9
 st:X.stack=X.env::X.outer
 fm:X.env.frame=some X.env.locals
 nx:X.xe=λ_ _=>False
 jL:exmOne X.K QgI QgI=some true
def anp(E:ano X CL) :
  kC X CL b Ug Ui Ge Gf Ab:=by
 rintro⟨c,mo⟩ h;dsimp [Ab]at h ⊢;obtain⟨a,m0,m1⟩:=h;apply aE E.g Qam J1;unfold sZ;cases e:Ld c mo _ with
 | some s=>
  apply T1 E.nx;refine aE E.g Qam (aK (cF (c,mo) E.vg Qd Ql6 #[#[a,m0,m1],by rw[e];intro z;cases z]) (t2:=.ins _ QvH) (by show T.ins _ _=_;rw[e];rfl)) (aj ?_);exact aY Qe5 rfl
 | none=>
  refine T2 E.st E.fm E.nx (λp=>RS E.g.nd (E.ll 2).pin (al7 (c,mo) E.nx E.sQ.pin Qd (ah QtV (ah (ak (v_ (E.ll 1).1.pin)) aA)) #[#[a,m0,m1],e])) QuO λev=>?_;refine TU E.g.nd (E.ll 2).hand J1 (aj ?_);exact aY QaM rfl
noncomputable def W8:FG Ui ["chart","most"] ["flattened","TooWide"] (ao Ug):=fG
abbrev My:=top 71
abbrev Mz:=AT×BA×AT
noncomputable abbrev MA:BA:=["elders","kinds","chosen","opens","k","elder"]
noncomputable def v9:Mz->At:=λ(es,ks,ch)=>[.lst Qbn,.lst Qcu,.lst (ch.map .int)]
def qU:Mz->Prop:=λ(es,ks,ch)=>es.length<=900/\0<es.length/\ks.length=es.length/\ch.length=es.length/\dh es
def wc:Mz->T:=λ(es,ks,ch)=>(.lst (((eu Q4 es ch Q3).map .int).map T.sh):T)
theorem ah4(E:GD MA ["range","len"] X CL) :
  kC X CL b My MA v9 qU wc:=by
 rintro⟨es,ks,ch⟩ h;obtain⟨hl,n,u,v,l⟩:=h;apply aE E.g Qas QyA;refine eS E.g Qal (λj U=>∃o o',U=[some _,some _,some _,some (.lst (((eu Q4 es ch j).map _).map _)),o,o'])
  (Iz E.e9 ai (ak (bS (cM ..) E.cJ QP Q1)) We Qd) #[_,_,rfl] (by rintro j U ⟨_,_,rfl⟩;exact i5 rfl) ?turn ?fin
 case turn=>
  rintro j d U p ⟨o,o',rfl⟩;obtain⟨rfl,t⟩:=gF p;have m:=zj (isAll:=au ks) (es:=es) (ch:=ch) j;have s:(1+(j:Int)).toNat=j+1:=by lia
  have a:(1+j)=((j+1:Nat):Int):=by lia
  apply aE E.g Qau (aK (eG (bz QP Qai Qd4) rfl) (congrArg (λz=>T.sh (.int (es.getD z 0))) s));have r:=l QU We;rw[eu];generalize es.getD _ 0=x at r ⊢;have f:x∈eu Q4 es ch j->0<=x:=λk=>(gf j k).1;refine cg (gK (j7 (oM Qac Qbz (rfl) rfl).1 (λi=>(lJ (gK (fE (cH (bz QR Qac (fq Str.empty (f (l3 i)) We)) bH).1 (λq=>(eN (dN (bz Q2 Qac (fZ (f (l3 i)) We)) Qai).1)))))))) (λc=>?_) (λc=>aj (aj ?_))
  .simp only[l9,Bool.or_eq_true,pf]at c;refine ja (E.ll 3).1 rfl Qe6 rfl WF (aj (aj ?_));rw[cq #[c.1,c.2.elim (λz=>.inl (l5 z)) (λz=>.inr (by rw[z,a]))]];have e1:((eu Q4 es ch j).map D.int).map T.sh++[T.sh (.int (1+j))]=((eu Q4 es ch j++[(QU:Int)]).map D.int).map T.sh:=by
    rw[a];simp
   rw[e1];exact#[_,_,rfl]
  .rw[bW (λz=>by
    have:(decide (x∈eu Q4 es ch j)&&(decide Qsa || decide (ch.getD x.toNat 0=1+j)))=true:=by
     simp only[l9,Bool.or_eq_true,pf];exact#[z.1,z.2.elim (λz=>.inl (l3 z)) (λz=>.inr (by rw[z,a]))]
    rw[this]at c;cases c)]
   exact#[_,_,rfl]
 case fin=>
  rintro U ⟨o,o',rfl⟩;have e:(b9 1 ((es.length:Int)-1).toNat).length=es.length-1:=by simp[b9]
  exact e▸aY QgC rfl
noncomputable def Qc:FG MA ["elders","kinds","chosen"] ["range","len"] (ao My):=fG
def Sm:Nat->D->Prop
 | _,.int _=>True
 | _,.str _=>True
 | n+1,.lst ds=>∀d∈ds,Sm n d
 | n+1,.tup ds=>∀d∈ds,Sm n d
 | _,_=>False
def MB{ds:At}(h:j<ds.length):wg ds (j:Int)=some ds[j]:=cR (kA h)
abbrev s_same:=top 66
abbrev Uj:=D
noncomputable abbrev Uk:BA:=["found","due","k"]
def qV:Uj->At:=λd=>[d,d]
def ou(dd:Nat):Uj->Prop:=λd=>Sm dd d
noncomputable def oz:Uj->T:=λd=>(.sh Qb6:T)
structure anq(X:Cx)(CL:BM)(dd:Nat):Prop extends EL X Uk ["isinstance","str","int","bool","list","tuple","len","range","_law_same"],fU X.K X.mg CL where
 sS:∀d',d'<dd->Fc X CL "_law_same" (1+d') 2 qV (ou d') oz
theorem anr{dd:Nat}(E:anq X CL dd) :
  kC X CL b s_same Uk qV (ou dd) oz:=by
 intro d h;dsimp [oz]at h ⊢;cases d with
 | int i=>
  refine cg Qh3 Qcm (λ_=>aj ?_);refine cg Qlj (λa=>?_) Qcm;apply aY (RG (xm E.aS E.Je Qd Qaa QP) (λk=>(RG (alm (isB E.aS E.amL Qd Qak QP)) (λf=>(J3 (dN QP QR).2)))));simp
 | str x=>
  refine cg Qh3 (λa=>?_) Qcm;apply aY (RG (xk E.aS E.wR Qd Q1 QP) (λk=>(J3 (cH QP QR).2)));simp
 | lst ds=>
  obtain⟨n,rfl⟩:∃n,dd=n+1:=by
   cases dd with
   | zero=>exact absurd h (by intro z;cases z)
   | succ n=>exact#[n,rfl]
  have hd:=h;refine S3 (i:=1) (ds:=ds) rfl (by simp[T.fC]) λhl=>?_;rw[l7]at hl;refine cg Qh3 Qcm (λ_=>aj ?_);refine cg Qlj Qcm (λ_=>aj ?_);refine cg Qp6 Qcm (λ_=>aj ?_);refine cg (pH (ak (yN E.cJ QP Qbq)) Qs5).1 (λa=>by simp at a) (λ_=>aj ?_);refine eS E.g Qam (λj U=>∃o,U=[some _,some _,o])
   (eo E.e9 Qs5 We Qdm) #[_,rfl] (by rintro j U ⟨_,rfl⟩;exact i5 rfl) ?turn ?fin
  case turn=>
   rintro j d U e ⟨o,rfl⟩;obtain⟨rfl,c⟩:=gF e;have c:j<ds.length:=by lia
   rw[mT];refine cg (iC (eL (c_ ds[j] (E.sS n We) (E.gg 8) (ah (bz QP Q2 (MB c)) (ah (bz QR Q2 (MB c)) aA)) (by exact hd _ (ri _)) rfl))) (λa=>by cases a) QtW
  case fin=>
   rintro U ⟨o,rfl⟩;exact aY oK rfl
 | tup ds=>
  obtain⟨n,rfl⟩:∃n,dd=n+1:=by
   cases dd with
   | zero=>exact absurd h (by intro z;cases z)
   | succ n=>exact#[n,rfl]
  have hd:=h;refine S3 (i:=1) (ds:=ds) rfl (by simp[T.fC]) λhl=>?_;rw[l7]at hl;refine cg Qh3 Qcm (λ_=>aj ?_);refine cg Qlj Qcm (λ_=>aj ?_);refine cg Qp6 Qcm (λ_=>aj ?_);refine cg (pH (ak (m5 E.cJ QP Qbq)) Qs6).1 (λa=>by simp at a) (λ_=>aj ?_);refine eS E.g Qam (λj U=>∃o,U=[some _,some _,o])
   (eo E.e9 Qs6 We Qdm) #[_,rfl] (by rintro j U ⟨_,rfl⟩;exact i5 rfl) ?turn ?fin
  case turn=>
   rintro j d U e ⟨o,rfl⟩;obtain⟨rfl,c⟩:=gF e;rw[mT];refine cg (iC (eL (c_ ds[j] (E.sS n We) (E.gg 8) (ah (aD QP Q2 (MB c)) (ah (aD QR Q2 (MB c)) aA)) (by exact hd _ (ri _)) rfl))) (λa=>by cases a) QtW
  case fin=>
   rintro U ⟨o,rfl⟩;exact aY oK rfl
 | non=>exact absurd h (by intro z;cases dd<;>cases z)
 | bl _=>exact absurd h (by intro z;cases dd<;>cases z)
 | ins _ _=>exact absurd h (by intro z;cases dd<;>cases z)
 | any=>exact absurd h (by intro z;cases dd<;>cases z)
 | kT _=>exact absurd h (by intro z;cases dd<;>cases z)
 | dct _=>exact absurd h (by intro z;cases dd<;>cases z)
 | lH _ _ _=>exact absurd h (by intro z;cases dd<;>cases z)
 | val _=>exact absurd h (by intro z;cases dd<;>cases z)
noncomputable def MC:FG Uk ["found","due"] ["isinstance","str","int","bool","list","tuple","len","range","_law_same"] (ao s_same):=fG
abbrev MD:=top 80
abbrev Ul:=At×AT×BA×AT×At×At×At×Pl
noncomputable abbrev Um:BA:=["parts","flat","chosen","k","near"]
def Ac:Ul->At:=λ(bs,es,ks,ss,is,os,ws,p)=>[pP bs es ks ss is os ws,jT p]
def Ad:Ul->Prop:=λ(bs,es,ks,ss,is,os,ws,p)=>(es.length<=13/\0<es.length/\ks.length=es.length/\ss.length=es.length)/\(p.1.length<=13/\CD ks es p.2)/\dh es/\eu Q4 es (YK QaG es ss p.1 es.length) Q3=p.1
noncomputable def Ae:Ul->T:=λ(bs,es,ks,ss,is,os,ws,p)=>(.sh Qb6:T)
structure ans(X:Cx)(CL:BM):Prop extends EL X Um ["isinstance","tuple","len","list","range","_law_inner","_law_same","_law_opens"],fU X.K X.mg CL where
 k_flat:GQ X "flat"
 lq:Fc X CL "_law_inner" 1 2 kI eB kJ
 sS:Fc X CL "_law_same" 9 2 qV (ou 8) oz
 MF:Fc X CL "_law_opens" 1 3 v9 qU wc
theorem ant(E:ans X CL) :
  kC X CL b MD Um Ac Ad Ae:=by
 rintro⟨bs,es,ks,ss,is,os,ws,p⟩ h;dsimp only [Ad,Ac,Ae]at h ⊢;obtain⟨⟨hl,A,M,hs⟩,⟨L,n,m⟩,K,heq⟩:=h;obtain⟨ops,mem⟩:=p;dsimp only at L n m heq;show c7 X CL b _ [some Qif,some QrI,none,none,none] _;have I:∀{j:Nat} {d:D},(b9 0 (es.length:Int).toNat)[j]? = some d->d=.int (j:Int)/\j<es.length:=λo=>by
  obtain⟨e,t⟩:=gF o;rw[mT]at e;exact#[e,We]
 refine cg (jY (q:=false) (gK (fE (iC (eL (o6 E.aS E.dz Qd Q1 QR))) (λ_=>fE (pH (ak (m5 E.cJ QR Qaa)) ai).1 (λ_=>eN (iC (eL (o6 E.aS E.dz Qd Q1 Qx7))))))) (by rfl)) (λz=>by cases z) (λ_=>aj ?_);refine aE E.g Qam (cL E.cI Qbf (bu ss) Qak aZ) ?_;refine eS E.g Qas (λj U=>∃ch f c,(ch.length=es.length/\∀i:Nat,i<es.length->ch.getD i 0=if i<j then OW QaG es ss ops i else ss.getD i 0)/\U=[some Qif,some _,some Qlu,f,c])
  (eo E.e9 (ak (bS (show(ss.map D.int).length=es.length by rw[cM];exact hs) E.cJ Qda Qaa)) We QaL) #[ss,_,_,#[hs,λi _=>by rw[bW We]],rfl] (by rintro j U ⟨_,_,_,_,rfl⟩;exact i5 rfl) ?turn ?fin
 case turn=>
  rintro j d U o ⟨ch,f,c,⟨k,s⟩,rfl⟩;obtain⟨rfl,t⟩:=I o;have B:=Dy es (j:Int);refine rD (p:=λd=>decide Qxt) (gg:=λd=>T.sh d) E.g Qal (cj (.cons (E.ll 1).1 (.inl E.k_flat) .nil) Wi)
   (dZ (gQ (c_ (es,(j:Int)) E.lq QbF QwH (by dsimp only [eB];lia) (aP _)))) QaB (λC s0 P f0 O d hd=>?xM) (Nat.le_of_lt (bZ WF)) ?rest (by exact Nat.le_of_ble_eq_true rfl) QcO
  case xM=>
   obtain⟨x,N,rfl⟩:=i9.1 hd;exact#[(oM (l:=ops) (jR 0) (aD (iH 1) ai gA) rfl rfl).1,λ_=>v_ (C9 0)]
  have em:(((iO es (j:Int)).map D.int).filter (λd=>decide Qxt)).map Qnk=((oQ es ops j).map D.int).map T.sh:=by
   rw[p3];rfl
  rw[em];have w:((oQ es ops (j:Int)).map D.int).length=(oQ es ops (j:Int)).length:=cM ..;have next:∀v:Int,v=OW QaG es ss ops j->∀i:Nat,i<es.length->(ch.set j v).getD i 0=if i<j+1 then OW QaG es ss ops i else ss.getD i 0:=λv hv i hi=>by
   by_cases e:i=j
   .subst e;rw[cq We,km,wx We,hv];rfl
   .rw[km,wi We,<- km,s i hi];by_cases e2:i<j
    .rw[cq e2,cq We]
    .rw[bW e2,bW We]
  refine cg (gK (j7 (cH QtX bH).1 (λ_=>lJ (wK (ak (bS w E.cJ Qcp Qaa)) ai).1))) (λa=>?_) (λa=>aj (aj ?_))
  .simp only[l9,pf]at a;have u:bK ks j=true:=l5 a.1;have J:oQ es ops (j:Int)≠[]:=λz=>by rw[z]at a;simp at a
   have G:((ch.map D.int).map T.sh).length=ch.length:=by simp
   refine Se (eG (bz Qcp ai Qd4) rfl) (cO (E.ll 2).1 rfl) Qad rfl rfl (RL We (by rw[G];lia)) (aj (aj ?_));rw[<- wb,<- wb];refine#[_,_,_,#[by rw[p4];exact k,next _ ?_],rfl];unfold OW;rw[cq #[u,J]];rfl
  .refine#[ch,_,_,#[k,λi hi=>?_],rfl];rw[s i hi];by_cases e:i=j
   .subst e;rw[bW We,cq We];unfold OW;rw[bW (λz=>by
     have h1:ks.getD i Str.empty="one":=l3 z.1;have h2:0<(oQ es ops (i:Int)).length:=ze.2 z.2;have:(decide (ks.getD i Str.empty="one")&&decide ((0:Int)<((oQ es ops (i:Int)).length:Nat)))=true:=by
      rw[l5 h1,l5 We];rfl
     rw[show(decide (ks.getD ((i:Int)).toNat Str.empty="one")&&decide ((0:Int)<((oQ es ops (i:Int)).length:Nat)))=true from this]at a;cases a)]
   .by_cases e2:i<j
    .rw[cq e2,cq We]
    .rw[bW e2,bW We]
 case fin=>
  rintro U ⟨ch,f,c,⟨k,s⟩,rfl⟩;have e:(b9 0 (es.length:Int).toNat).length=es.length:=by simp[b9]
  rw[e]at s;have F:ch=YK QaG es ss ops es.length:=by
   apply Ex
   .rw[k];simp[YK]
   .intro i hi;rw[s i We,cq We,V9 _ _ _ _ We]
  rw[<- F]at heq;have r:(ch.map D.int).length=es.length:=by rw[cM];exact k
  refine cg (jY (q:=false) (gK (fE (iC (eL (o6 E.aS E.dz Qd Q1 QnY))) (λ_=>eN (pH (ak (m5 E.cJ QnY Qaa)) Qss).1))) (by show(false || !decide _)=false;rw[cM,n,l5 rfl];rfl)) (λz=>by cases z) (λ_=>aj ?_);refine eS E.g Qas (λj U=>∃f c,U=[some Qif,some _,some Qlu,f,c])
   (eo E.e9 Qss We QaL) #[_,_,rfl] (by rintro j U ⟨_,_,rfl⟩;exact i5 rfl) ?zK ?fin2
  case zK=>
   rintro j d U o ⟨f,c,rfl⟩;obtain⟨rfl,t⟩:=I o;have B:=Dy es (j:Int);have H:=m j t;refine aE E.g Qal (rA (ds:=[.int (-1)]) Qo5 (bR (c_ (es,(j:Int)) E.lq QbF QwH (by dsimp only [eB];lia) (aP _))) rfl (bu _) (by rw[List.length_map,sizeLine_eq];show 1+_<=_;lia)) ?_;refine tU (λU=>∃l:AT,mem.getD j 0∈l/\U=[some Qif,some QrI,some Qlu,some (.sh (.int (j:Nat))),some Qsn]) (RD QtX bH).1 (λa=>?_) (λa=>aj ?_) ?_
   .have a:(!bK ks j)=true:=a;refine aE E.g Qal Qk5 (aj #[[-1],?_,rfl]);obtain z|z:=H
    .rw[z];exact iB
    .rw[z.1]at a;cases a
   .exact#[-1::iO es j,H.elim (λz=>by rw[z];exact iB) λz=>i3 _ z.2,rfl]
   rintro U ⟨l,y,rfl⟩;exact cg (jY (q:=false) (vC (l:=l) (aD QnY Qad (fZ (bs:=mem) We We)) Qcp rfl rfl).1 (by rw[ke,l5 y];rfl)) (λz=>by cases z) (λ_=>aj (aj #[_,_,rfl]))
  case fin2=>
   rintro U ⟨f,c,rfl⟩;exact aY (c_ (D.tup Qb4) E.sS Qbq (ah Qx7 (ah (ak (fM E.dz (Vx (c_ (es,ks,ch) E.MF Qdm (ah Qbf (ah Qbf (ah Qda aA))) (by dsimp only [qU];exact#[We,A,M,k,K]) (aP _)) (congrArg (List.map D.int) heq)) (bu _) Q1)) aA)) (by dsimp only [ou];intro d hd;obtain⟨i,_,rfl⟩:=List.mem_map.1 hd;trivial) rfl) rfl
def W9:Q7 (ao MD) ([("parts",ck),("flat",.cell),("chosen",ck),("k",ck),("near",ck),("isinstance",bB),("tuple",bB),("len",bB),("list",bB),("range",bB),("_law_inner",bB),("_law_same",bB),("_law_opens",bB)])=true:=by decide +kernel
noncomputable def ah5:cW Um ["parts","flat"] (ao MD):=iW
theorem ah6{s:AU}{r:J}(h:Right n s r)(nd:s.1.Nodup)(b:∀x∈s.1,0<=x/\x<(n:Int)):(zu false s r).1.Nodup/\(∀x∈(zu false s r).1,0<=x/\x<(n:Int))/\(zu false s r).2.1.length=s.2.1.length:=by
 cases r with
 | out m=>exact#[nd.filter _,λx d=>b x (l0.1 d).1,rfl]
 | RP m=>
  have p:(sortI (s.1++[m])).Perm _:=sortI_perm _;refine#[p.nodup_iff.2 (ma.2 #[nd,ml.2 #[ Wp,Wp ],λa g c f e=>?_]),λx d=>?_,rfl]
  .cases lh.1 f;exact h.1 (e▸g)
  .obtain z|z:=i8.1 (p.mem_iff.1 d)
   .exact b x z
   .cases lh.1 z;exact h.2
 | keep m p q=>exact#[nd,b,p4 ..]
 | _=>exact#[nd,b,rfl]
abbrev Af:=top 81
abbrev Gg:=List It×Nat×AU×AU
abbrev Gh:BA:=["rows","flat","opens","memory","row"]
def sU:Gg->At:=λ(xs,n,s,t)=>[.tup (xs.map It.d),jT (s.1,s.2.1)]
def sV:Gg->Prop:=λ(xs,n,s,t)=>Go n xs s t/\(s.1.Nodup/\∀x∈s.1,0<=x/\x<(n:Int))/\n<=13/\s.2.1.length<=13
def sW:Gg->T:=λ(xs,n,s,t)=>(.sh (jT (t.1,t.2.1)):T)
structure adU(X:Cx)(CL:BM):Prop extends EL X Gh ["list","sorted","tuple"],fU X.K X.mg CL where
 Pc:GQ X "row"
theorem adV(E:adU X CL) :
  kC X CL b Af Gh sU sV sW:=by
 rintro⟨xs,n,s,t⟩ h;dsimp only [sV,sU,sW]at h ⊢;obtain⟨c,⟨nd,H⟩,hn,K⟩:=h;show c7 X CL b _ [some QsP,some _,none,none,none] _;refine aE E.g Qam (qA E.cI (cy Qbx ai gA) Qd aZ) ?_;refine aE E.g Qas (qA E.cI (cy Qbx ai mh) Qd aZ) ?_;refine eS E.g Qal (λj U=>∃(s':AU) (o:QcZ),Go n (xs.drop j) s' t/\(s'.1.Nodup/\∀x∈s'.1,0<=x/\x<(n:Int))/\s'.2.1.length<=13/\U=[some QsP,some (.sh (.tup [.tup (s.1.map .int),.tup (s.2.1.map .int)])),some (.lst ((s'.1.map .int).map T.sh)),some (.lst ((s'.2.1.map .int).map T.sh)),o])
  (RJ QaH) #[s,none,c,#[nd,H],K,rfl] (by rintro j U ⟨_,_,_,_,_,rfl⟩;exact i5 rfl) ?turn ?fin
 case fin=>
  rintro U ⟨s',o,c,_,_,rfl⟩;rw[cM,List.drop_length]at c;cases c;exact aY (jt (kX (aH (fM E.dz Qda (bu _) Qaa) (aH (fM E.dz Qbz (bu _) Qaa) bM)) aN) (d:=jT (t.1,t.2.1)) (by rfl)) rfl
 case turn=>
  rintro j d U G ⟨s',o,c,⟨B,v⟩,a,rfl⟩;obtain⟨x,rfl,_,_,_,hd,_⟩:=jI G;rw[hd]at c;cases c with
  | cons A y=>
  obtain⟨r,m,k⟩:=ah6 A B v;have hl:=nG B v;have u:(s'.1.map D.int).length<=sizeLine:=by rw[cM,l7];lia
  cases x with
  | out i=>
   have hi:i∈s'.1:=A;refine cg (jY (gK (fE (q:=true) (cH QcL bH).1 (λz=>absurd (z) Wi))) (show(decide (("out":Str)="out") || true)=true by decide +kernel)) (λ_=>?_) (λz=>by cases z);refine cg (jY (xG QrZ QvI).1 (show(!decide (decide (i∈s'.1)=decide (("out":Str)="out")))=false by rw[l5 hi];decide +kernel)) (λz=>by cases z) (λ_=>aj ?_);refine rD (p:=λd=>!decide Qkn) (gg:=λd=>T.sh d) E.g Qam Qrv Qrb QaB (λC s0 J f0 I d hd=>?xM) u ?rest (by exact i5 rfl) QcO
   case xM=>
    obtain⟨x,_,rfl⟩:=i9.1 hd;exact#[(pH (jR 0) QwI).1,λ_=>v_ (C9 0)]
   case rest=>
   have e:((s'.1.map D.int).filter λd=>!decide Qkn).map Qnk=(((zu false s' ((It.out i).j s'.2.2)).1).map D.int).map T.sh:=by
    rw[p3];rfl
   rw[e];refine cg (jY (cH QcL bH).1 (show decide (("out":Str)="in")=false by decide +kernel)) (λz=>by cases z) (λ_=>aj (aj ?_));refine cg (jY (cH QcL bH).1 (show decide (("out":Str)="keep")=false by decide +kernel)) (λz=>by cases z) (λ_=>aj (aj ?_));exact#[_,_,y,#[r,m],by rw[k];exact a,rfl]
  | RP i=>
   have hi:i∉s'.1:=A.1;refine cg (jY QhJ (show(decide (("in":Str)="out") || decide (("in":Str)="in"))=true by decide +kernel)) (λ_=>?_) (λz=>by cases z);refine cg (jY (xG QrZ QvI).1 (show(!decide (decide (i∈s'.1)=decide (("in":Str)="out")))=false by rw[la hi];decide +kernel)) (λz=>by cases z) (λ_=>aj ?_);refine rD (p:=λd=>!decide Qkn) (gg:=λd=>T.sh d) E.g Qam Qrv Qrb QaB (λC s0 J f0 I d hd=>?xM) u ?rest (by exact i5 rfl) QcO
   case xM=>
    obtain⟨x,_,rfl⟩:=i9.1 hd;exact#[(pH (jR 0) QwI).1,λ_=>v_ (C9 0)]
   case rest=>
   have e:((s'.1.map D.int).filter λd=>!decide Qkn).map Qnk=(s'.1.map D.int).map T.sh:=by
    rw[p3,List.filter_eq_self.2 λx F=>?_];show(!decide (x=i))=true;rw[la λ(e:x=i)=>hi (e▸F)];rfl
   rw[e];refine cg (jY (cH QcL bH).1 (show decide (("in":Str)="in")=true by decide +kernel)) (λ_=>?_) (λz=>by cases z);refine aE E.g Qam (kZ (l:=s'.1++[i]) E.kH (sY (bR (rA Qda (bR (fY (ds:=[.int i]) (aq (eG Qi0 rfl) aV) aN)) (bu _) rfl (by rw[cM,l7];show s'.1.length+1<=_;lia))) (by rw[ky];rfl)) (by rw[lj,oP];lia) Q1) (aj (aj ?_));refine cg (jY (cH QcL bH).1 (show decide (("in":Str)="keep")=false by decide +kernel)) (λz=>by cases z) (λ_=>aj (aj ?_));exact#[_,_,y,#[r,m],by rw[k];exact a,rfl]
  | keep i p q=>
   obtain⟨k0,k1,k2⟩:=A;refine cg (jY QhJ (show(decide (("keep":Str)="out") || decide (("keep":Str)="in"))=false by decide +kernel)) (λz=>by cases z) (λ_=>aj ?_);refine cg (jY (cH QcL bH).1 (show decide (("keep":Str)="keep")=true by decide +kernel)) (λ_=>?_) (λz=>by cases z);refine cg (jY (pH (bz Qbz Qi0 (fZ k0 k1)) (aD Qai ai tM)).1 (show _=false by rw[k2];simp)) (λz=>by cases z) (λ_=>aj ?_);refine Se (eG (aD Qai ai Kz) rfl) Qwe Qi0 rfl rfl (j:=i.toNat) (by rw[cM,cM];exact RL k0 k1) (aj (aj ?_));refine#[ _,some (.sh (It.keep i p q).d),y,#[r,m],by rw[k];exact a,?_];show [_,_,_,some _,_]=_;rw[<- wb (f:=T.sh),<- wb (f:=D.int)];rfl
  | way i=>
   refine cg (jY QhJ (show(decide (("way":Str)="out") || decide (("way":Str)="in"))=false by decide +kernel)) (λz=>by cases z) (λ_=>aj ?_);refine cg (jY (cH QcL bH).1 (show decide (("way":Str)="keep")=false by decide +kernel)) (λz=>by cases z) (λ_=>aj (aj ?_));exact#[_,_,y,#[r,m],by rw[k];exact a,rfl]
  | wA q=>
   have hw:(decide (q.w=("out":Str)) || decide (q.w=("in":Str)))=false/\decide (q.w=("keep":Str))=false:=by
    have e:q.w="put" \/ q.w="call" \/ q.w="say":=by cases q<;>simp[m7.w]
    obtain e|e|e:=e<;>rw[e]<;>decide +kernel
   refine cg (jY QhJ hw.1) (λz=>by cases z) (λ_=>aj ?_);refine cg (jY (cH QcL bH).1 hw.2) (λz=>by cases z) (λ_=>aj (aj ?_));refine#[zu false s' ((It.wA q).j s'.2.2),some (.sh (It.wA q).d),y,#[r,m],by rw[k];exact a,?_];cases q<;>rfl
def Jt:Q7 (ao Af) ([("rows",ck),("flat",ck),("opens",ck),("memory",ck),("row",.cell),("list",bB),("sorted",bB),("tuple",bB)])=true:=by decide +kernel
noncomputable def Zu:cW Gh ["rows","flat"] (ao Af):=iW
def Ag(p:Pl):wM 60 (jT p):=.tup λd hd=>by
 obtain rfl|hd:=fL.1 hd
 .exact .tup λx a=>by obtain⟨i,_,rfl⟩:=i9.1 a;exact .int _ _
 .cases lh.1 hd;exact .tup λx a=>by obtain⟨i,_,rfl⟩:=i9.1 a;exact .int _ _
def anu(p:Pl):(T.sh (jT p)).clean=true:=by
 show(D.tup _).mZ=true;rw[D.mZ,D.bC,D.bC,D.mZ,D.mZ,bu,bu];rfl
theorem ah7{l:List Da}(h:FC l){k:Nat}{a:Da}(e:l[k]? = some a):a=[]↔k+1=l.length:=by
 obtain⟨i,rfl,hi⟩:=h;simp;have b:=(md.1 e).1;simp at b;by_cases z:k<i.length
 .rw[y4 z]at e;have:=hi a (l4 e);exact#[λq=>absurd q this,We ]
 .rw[y5 We,show k-i.length=0 by lia]at e;cases e;exact#[ We,Wp ]
theorem Zv{r:gk}{l:List gk}{m a:Nat}(h:zC (r::l) m=some a):r.2.2<=m/\zC l (if r.2.2=m then m+1 else m)=some a:=by
 rw[zC]at h;lia
abbrev Uo:=top 82
abbrev Up:=At×At×At×(List (fB×At))×CH×Do×Nat×Pl×List gk×Nat×Nat
abbrev Uq:BA:=["table","at","some","met","k","row"]
def Ah:Up->At:=λ(bs,hs,bg,kvs,c,fl,n,p,R,m,a)=>[Y8 bs hs bg (fl.map jT) kvs,.int n,.lst Qpo,.int m]
def Ai:Up->Prop:=λ(bs,hs,bg,kvs,c,fl,n,p,R,m,a)=>(c.Ok/\Gd c p)/\(fl.length<=1000/\fl[n]? = some p)/\(FC (R.map (·.1))/\∀r∈R,SR c fl p r)/\zC R m=some a/\R.length<=1000
def Aj:Up->T:=λ(bs,hs,bg,kvs,c,fl,n,p,R,m,a)=>(.sh (.int a):T)
structure anv(X:Cx)(CL:BM):Prop extends EL X Uq ["isinstance","list","len","range","tuple","int","_law_walked"],fU X.K X.mg CL where
 adW:Fc X CL "_law_walked" 1 2 sU sV sW
theorem anw(E:anv X CL) :
  kC X CL b Uo Uq Ah Ai Aj:=by
 rintro⟨bs,hs,bg,kvs,c,fl,n,p,R,m,I⟩ h;dsimp only [Ai,Ah,Aj]at h ⊢;obtain⟨⟨A,y⟩,⟨V,K⟩,⟨F,M⟩,hm,hl⟩:=h;have P:0<R.length:=by
  obtain⟨i,e,_⟩:=F;have:=congrArg List.length e;rw[cM,lj,oP]at this;lia
 have O:wg _ (n:Int)=some (jT p):=cR (by rw[k4,K];rfl);obtain⟨g1,g2,g3,S⟩:=WC A y;have x:=A.k.n1;have B:p.1.Nodup:=by
  obtain⟨ch,_,e,_⟩:=y;rw[e];exact qH (fz (ch:=ch) QeD)
 unfold Y8;refine cg (jY (q:=false) (gK (fE (iC (eL (xl E.aS E.cI Qd Q1 Q2))) (λ_=>eN (dN (ak (bS (cM ..) E.cJ Q2 Qaa)) ai).1))) (by rw[la We];rfl)) (λz=>by cases z) (λ_=>aj ?_);refine eS E.g Qal (λj U=>∃(f:Nat) (t s:QcZ),zC (R.drop j) f=some I/\U=[some _,some _,some _,some (.sh (.int f)),t,s])
  (eo E.e9 (ak (bS (cM ..) E.cJ Q2 Qaa)) We Qak) #[m,none,none,hm,rfl] (by rintro j U ⟨_,_,_,_,rfl⟩;exact i5 rfl) ?turn ?fin
 case fin=>
  rintro U ⟨f,t,s,hm,rfl⟩;rw[show(b9 0 _).length=R.length by unfold b9;rw[cM,m3,ke],List.drop_length]at hm;cases hm;exact aY Qbw rfl
 case turn=>
  rintro j d U L ⟨f,t,s,hm,rfl⟩;obtain⟨rfl,v⟩:=gF L;obtain⟨r,o⟩:∃r,R[j]? = some r:=#[_,kA v];have w:=l4 o;have hd:R.drop j=r::R.drop QU:=by
   rw[u7 v];rw[kA v]at o;cases o;rfl
  rw[hd]at hm;obtain⟨m1,m2⟩:=Zv hm;obtain⟨xs,bx,q,H,G,D⟩:=amH A y (M r w);have J:=(md.1 D).1;have C:wg _ (r.2.2:Int)=some (jT q):=cR (by rw[k4,D];rfl);have N:wg Qpo (0+(j:Int))=some (CG r):=by rw[mT];exact cR (by rw[k4,o];rfl)
  have l:=ah7 F (k:=j) (a:=r.1) (by rw[k4,o];rfl);rw[cM]at l;refine aE E.g Qau (J4 QaM Qai N) ?_;refine cg (jY (gK (fE (iC (eL (o6 E.aS E.dz Qd QaL Qac))) (λ_=>fE (pH (ak (m5 E.cJ Qac Qaa)) ai).1 (λ_=>eN (iC (eL (o6 E.aS E.dz Qd QaL Qxu))))))) (by rfl)) (λz=>by cases z) (λ_=>aj ?_);refine cg (jY (q:=false) (xG (ak (dN (ak (m5 E.cJ Qxu Qaa)) ai).2) (ak (dN Qai (ak (pG (ak (bS (cM ..) E.cJ Q2 Qaa)) ai))).2)).1 ?tq) (λz=>by cases z) (λ_=>aj ?_)
  case tq=>
   have e:decide ((r.1.length:Int)=0)=decide (0+(j:Int)=(R.length:Int)-1):=decide_eq_decide.2 #[λz=>by
    have:=l.1 (Me.1 We);lia,λz=>by rw[l.2 We];rfl]
   show(!decide (decide _=decide _))=false;rw[cM,e,l5 rfl];rfl
  refine cg (jY (q:=false) (gK (fE (iC (eL (xm E.aS E.Je Qd QbF Qe0))) (λ_=>fE (Vv Qe0 ai).1 (λ_=>fE (wK Qe0 Qad).1 (λ_=>eN (Pf Qe0 (ak (bS (cM ..) E.cJ Qmk Qaa))).1))))) ?tr) (λz=>by cases z) (λ_=>aj ?_)
  case tr=>
   show(false || (decide _ || (decide _ || decide _)))=false;rw[la (show ¬ ((r.2.2:Nat):Int) > (f:Int) by lia),la (show ¬ ((r.2.2:Nat):Int) ≥ (fl.length:Int) by lia)];rfl
  refine tU (λU=>U=[some (.sh (.ins "Table" (xw bs hs bg (fl.map jT) Qyz))),some QbR,some (.sh (.lst Qpo)),some (.sh (.int ((if r.2.2=f then f+1 else f:Nat):Int))),some (.sh (.int (0+(j:Int)))),some (.sh (CG r))]) (dN Qe0 Qad).1 (λz=>?_) (λz=>aj ?_) ?_
  .refine aE E.g Qas (fh Qad ai) (aj ?_);rw[cq We];rfl
  .rw[bW We];rfl
  rintro U rfl;refine cg (jY (q:=false) (gK (fE (iC (eL (o6 E.aS E.dz Qd QaL Qxv))) (λ_=>eN (aly (by have:=E.u;lia) (ak (c_ (xs,c.es.length,(p.1,p.2,List.replicate c.bs.length 0),(q.1,q.2,bx)) E.adW Qbq (ah (sY Qxv (by rw[H])) (ah (bz Qmk QR O) aA)) #[G,#[B,g1],x,We] (anu q))) (bz Qmk Qe0 C) (Ag q) (Ag q)).1))) (by rw[aa7 (Ag q)];rfl)) (λz=>by cases z) (λ_=>aj (aj ?_));exact#[_,_,_,m2,rfl]
noncomputable def Xa:FG Uq ["table","at","some","met"] ["isinstance","list","len","range","tuple","int","_law_walked"] (ao Uo):=fG
def DM(rs:QbO)(k:fB):List gk:=(iN rs k).getD []
theorem vh{α β:Type}(f:α->β)(k:fB):∀l:List Qpg,iN (l.map λq=>(q.1,f q.2)) k=(iN l k).map f
 | []=>rfl
 | q::r=>by
  simp;by_cases e:q.1=k
  .rw[lZ (p:=(q.1,f q.2)) e,lZ e];rfl
  .rw[kB (p:=(q.1,f q.2)) e,kB e];exact vh f k r
def vj{k:fB}{rs:QbO}(h:k∈rs.map (·.1)):iN rs k=some (DM rs k)/\(k,DM rs k)∈rs:=by
 have e:iN rs k=some (DM rs k):=by
  unfold DM;cases q:iN rs k with
  | some x=>rfl
  | none=>
   obtain⟨p,a,e⟩:=i9.1 h;unfold iN at q;rw[Option.map_eq_none_iff,za]at q;exact absurd (l5 e) (q p a)
 exact#[e,ab3 e]
def Qe{k:fB}{rs:QbO}(h:k∈rs.map (·.1)):iN (qI (jg rs)) k=some (.lst ((DM rs k).map CG))/\(k,DM rs k)∈rs:=by
 obtain⟨h1,h2⟩:=vj h;refine#[?_,h2];unfold qI jg;rw[vh _,vh _,h1];rfl
def ow(rs:QbO)(l:List fB):Bz:=l.map λk=>T.lst (((DM rs k).map CG).map T.sh)
def Ur{hs:BA}{m:Nat}{x:Str}(hm:m<n)(h:hs[j]? = some x):qJ m x∈pM hs n 0:=kq _ (mI.2 #[m,nk.2 hm,List.mem_map_of_mem (l4 h)])
theorem Lo{U:BB}{k:Nat}{pos p1 p2:Pos}{tg:Expr}(f:c.Ok)(F:Fc X CL "signs" k 1 lz iy jV)(e:Gl X "signs")(n:Vn X i "chart")(h:U[i]? = some QgJ:=by rfl):ql X CL b tg (.Call (.Name "signs" p1) [.Name "chart" p2] [] pos) U ((iA c).map .str) U:=by
 have wl:=f.k.wl;have a:(c.ws.map vi).map FX=c.ws.map f7:=by rw[kc];rfl
 have g:zS ((c.ws.map vi).map (·.2.1))=iA c:=by simp;rfl
 exact dZ (gQ (aK (c_ (c.bs.map k9,c.nm,dP _ _ _,c.is.map _,c.os.map _,c.ws.map vi) F e (ah (sY (ak (v_ n h)) (by unfold CH.d;rw[a])) aA) (by dsimp [iy];simp;lia) (rJ _)) (by show T.lst _=_;rw[g])))
def MG{rs:QbO}(nd:(rs.map (·.1)).Nodup):(rs.map (·.1)).map (λk=>(k,DM rs k))=rs:=by
 simp;refine(nv λq a=>?_).trans (List.map_id _);obtain⟨j,b⟩:=List.getElem?_of_mem a;show(q.1,DM rs q.1)=q;unfold DM;rw[Wy nd b];rfl
theorem Xb{hs:BA}{j i:Nat}:∀n,j<n->pM hs j i <+: pM hs n 0
 | 0,h=>by lia
 | n+1,h=>by
  rw[<- zF];have one:∀i,pM hs n i <+: pM hs n hs.length:=λi=>(List.prefix_append_right_inj _).2 (mv▸(List.take_prefix i hs).map _);by_cases e:j=n
  .subst e;exact one i
  .exact(Xb n We).trans (one 0)
def adZ{hs:BA}{N:Nat}{rs:QbO}(c:rs.map (·.1)=pM hs n 0)(nd:(rs.map (·.1)).Nodup)(hm:xS rs 1=some N){m:Nat}(d:j<n)(hi:hs[i]? = some sg)(h:xS ((pM hs j i).map λk=>(k,DM rs k)) 1=some m) :
  j<m/\∃a,zC (DM rs Qd9) m=some a/\xS ((pM hs j Qbd).map λk=>(k,DM rs k)) 1=some a:=by
 obtain⟨t,b⟩:=Xb n d;rw[<- MG nd,c,<- b,ky,zE]at hm;rw[<- E5 hs j hi,ky,zE,h]at hm ⊢;have q:((some m).bind (xS [(qJ j sg,DM rs Qd9)]))=if j<m then(zC _ m).bind _ else none:=rfl
 rw[show [qJ j sg].map _=[(qJ j sg,DM rs _)] from rfl,q]at hm ⊢;split at hm
 .rename_i z;cases e2:zC _ m with
  | none=>rw[e2]at hm;cases hm
  | some a=>exact#[z,a,rfl,by rw[cq z];rfl]
 .cases hm
noncomputable def Ak(n:Nat)(l:AT):Sm QaC (.tup Qb5):=λd hd=>by
 obtain⟨i,_,rfl⟩:=i9.1 hd;cases n<;>trivial
theorem MH{a c:D}(h1:Sm n a)(h2:Sm n c):Sm QaC (.tup [a,c]):=λd hd=>by
 obtain rfl|hd:=fL.1 hd
 .exact h1
 simp_all
def O3(n:Nat)(p:Pl):Sm (n+2) (jT p):=MH (Ak n _) (Ak n _)
def vl(c:CH)(s:GS):D:=Y8 QdU ((iA c).map .str) (W7 c) QdI QdQ
def JI(c:CH):D:=pP QdU c.es c.ks c.ss Qxe Qxf Qok
abbrev Us:=top 86
abbrev Ut:=CH×GS
noncomputable abbrev Uu:BA:=["parts","chart","table","due","met","at","sign"]
def Al:Ut->At:=λ(c,s)=>[JI c,c.d,vl c s]
def Am:Ut->Prop:=λ(c,s)=>c.Ok/\zG c 60 (iA c) s.fl.length 0 s
noncomputable def An:Ut->T:=λ(c,s)=>(.sh Qb6:T)
structure anz(X:Cx)(CL:BM):Prop extends EL X Uu ["tuple","_law_opens","len","_law_same","range","_law_flat","signs","_law_list"],fU X.K X.mg CL where
 MF:Fc X CL "_law_opens" 1 3 v9 qU wc
 sS:Fc X CL "_law_same" 9 2 qV (ou 8) oz
 anA:Fc X CL "_law_flat" 10 2 Ac Ad Ae
 sM:Fc X CL "signs" 1 1 lz iy jV
 anB:Fc X CL "_law_list" 2 4 Ah Ai Aj
theorem anC(E:anz X CL) :
  kC X CL b Us Uu Al Am An:=by
 rintro⟨c,s⟩ h;dsimp only [Am,Al,An]at h ⊢;obtain⟨o,hs⟩:=h;have f:=o.k;have n0:=f.n0;have n1:=f.n1;have K:=hs.ln;have x:=hs.tj.p0;have w:=f.pre.1;have y:=Wu (EK o) n0;have n:(s.fl.map jT).length=s.fl.length:=cM ..;refine aE E.g Qas (jt (d:=jT (Wt c)) (kX (tl:=[.sh (.tup ((Wt c).1.map .int)),.sh (.tup ((Wt c).2.map .int))]) (aH (aK (fM E.dz (bR (c_ (c.es,c.ks,c.ss) E.MF Q1 (ah Qbf (ah Qbf (ah Qbf aA))) (by exact#[We,n0,f.kl,f.sl,w]) (aP _))) (bu _) Qd) (by rw[<- y];rfl)) (aH (aK (fM E.dz (bR (Vz Qo5 (ak (bS (cM ..) E.cJ Qbf Qaa)) rfl We We (by rw[l7];simp;lia))) (by rw[ke,E2];exact bu _) Qd) (by rw[ke,E2];rfl)) bM)) aN) (by rfl)) ?_;have B:∀{j:Nat} {p:Pl},s.fl[j]? = some p->wg _ (j:Int)=some (jT p):=λh=>cR (by rw[k4,h];rfl);refine cg (iC (eL (c_ (jT (Wt c)) E.sS Qak (ah (bz Qh4 ai (B x)) QeM) (by exact O3 6 _) rfl))) (λz=>by cases z) (λ_=>aj ?_);refine aE E.g Qal j6 ?_;refine eS E.g Qau (λj U=>∃(m:Nat) (v a:QcZ),xS ((pM (iA c) j 0).map λk=>(k,DM s.rs k)) 1=some m/\U=[some _,some Qdd,some _,some _,some QgF,v,a])
  (eo E.e9 Qst We QaL) #[1,none,none,rfl,rfl] (by rintro j U ⟨_,_,_,_,rfl⟩;exact i5 rfl) ?turn ?fin
 case fin=>
  rintro U ⟨m,v,a,hm,rfl⟩;rw[show(b9 0 _).length=s.fl.length by unfold b9;rw[cM,m3,ke],<- hs.ks,MG hs.kd,hs.tj.met]at hm;cases hm;refine aY (dN Qai Qst).2 ?_;rw[l5 rfl]
 case turn=>
  rintro j d U L ⟨m,v,a,hm,rfl⟩;obtain⟨rfl,t⟩:=gF L;rw[ke]at t;rw[mT];obtain⟨p,l⟩:∃p,s.fl[j]? = some p:=#[_,kA t];have A:=hs.gd p (l4 l);obtain⟨g1,g2,g3,S⟩:=WC o A;refine cg (jY (gK (fE (agQ (by have:=E.u;lia) QtY (bR (aK (yQ Qh4 QtF Dp (Dq Qac)) (by rw[Jg We,<- xa]))) (Ag p) λe he=>?nin) (λ_=>eN (iC (eL (c_ (c.bs.map k9,c.es,c.ks,c.ss,c.is.map .tup,c.os.map .tup,c.ws.map f7,p) E.anA QbF (ah QP (ah QtY aA)) ?fl rfl)))))) (by rfl)) (λz=>by cases z) (λ_=>aj ?_)
  case nin=>
   obtain⟨q,J,rfl⟩:=i9.1 he;refine#[Ag q,?_];rw[VZ (zB q) 8 (zB p)];refine la λz=>?_;cases DF z;obtain⟨i,hi,e⟩:=zp J;rw[oC]at hi;rw[List.getElem_take]at e;have:=(Hk We hs.nd).1 ((kA We).trans ((congrArg some e).trans l.symm));lia
  case fl=>
   obtain⟨ch,⟨_,P⟩,O,N⟩:=A;refine#[#[n1,n0,f.kl,f.sl],#[We,N],w,?_];rw[O];exact acB w n0 f.kd P
  refine eS E.g QaR (λi U=>∃(m:Nat) (a:QcZ),xS ((pM (iA c) j i).map _) 1=some m/\U=[some _,some Qdd,some _,some _,some QgF,some _,a])
   (Lo o E.sM Qbq (E.ll 1).1) #[m,a,hm,rfl] (by rintro j U ⟨_,_,_,rfl⟩;exact i5 rfl) ?zK ?fin2
  case fin2=>
   rintro U ⟨m,a,hm,rfl⟩;rw[cM,zF]at hm;exact aj #[_,_,_,hm,rfl]
  case zK=>
   rintro i d U D ⟨m,a,hm,rfl⟩;rw[k4]at D;obtain⟨sg,F,rfl⟩:=nq.1 D;obtain⟨v1,v2⟩:=Qe (hs.ks▸Ur t F);obtain⟨h1,C,h2,M⟩:=adZ hs.ks hs.kd hs.tj.met t F hm;obtain⟨I,r,H,G⟩:=hs.tj.rw _ v2;have r:s.fl[((j:Nat):Int).toNat]? = some I:=r;rw[ke,l]at r;cases r;have R:=(hs.rw _ v2).1;have key:∀{U:BB},U[5]? = some _->U[6]? = some _->∀{kk:Nat} {pp p1 p2:Pos},bU X CL b (.Tuple [.Name "at" p1,.Name "sign" p2] kk pp) U (wN Qd9) U:=λh1 h2=>kX (aH (v_ (E.ll 5).1 h1) (aH (v_ (E.ll 6).1 h2) bM)) aN;refine cg (jY (gK (fE (Pf Qac Qai).1 (λ_=>eN (abJ Qd9 E.u (key rfl rfl) Qui rfl)))) (by show(decide _ || !(iN _ Qd9).isSome)=false;rw[v1,la We];rfl)) (λz=>by cases z) (λ_=>aj ?_);refine aE E.g Qal (aK (c_ (c.bs.map k9,(iA c).map .str,W7 c,jg s.rs,c,s.fl,j,p,DM s.rs Qd9,m,C) E.anB Qdm (ah Q2 (ah Qac (ah (Eh Qd9 E.u Qui (key rfl rfl) v1) (ah Qai aA)))) #[#[o,A],#[We,l],#[H,G],h2,We] rfl) rfl) (aj #[C,_,M,rfl])
noncomputable def Xc:FG Uu ["parts","chart","table"] ["tuple","_law_opens","len","_law_same","range","_law_flat","signs","_law_list"] (ao Us):=fG
abbrev Uv:=top 83
abbrev Uw:=CH×At×At×At×At×(List (fB×List gk))×Nat
noncomputable abbrev Ux:BA:=["chart","table","count","rows","at","sign"]
def Gi:Uw->At:=λ(c,bs,hs,bg,pr,rs,n)=>[c.d,Y8 bs hs bg pr (jg rs),.int n]
def Gj:Uw->Prop:=λ(c,bs,hs,bg,pr,rs,n)=>(c.Ok/\n<=100)/\(∀q∈rs,D.bC Qo7=true)/\rs.map (·.1)=pM (iA c) n 0
def Ao:Uw->T:=λ(c,bs,hs,bg,pr,rs,n)=>(.lst (ow rs (pM (iA c) n 0)):T)
structure anE(X:Cx)(CL:BM):Prop extends EL X Ux ["range","signs","list"],fU X.K X.mg CL where
 sM:Fc X CL "signs" 1 1 lz iy jV
theorem anF(E:anE X CL) :
  kC X CL b Uv Ux Gi Gj Ao:=by
 rintro⟨c,bs,hs,bg,pr,rs,n⟩ h;dsimp [Ao]at h ⊢;obtain⟨⟨o,hn⟩,hi,r⟩:=h;have hl:=z8 o;have kl:∀j i,j<=n->(ow rs (pM (iA c) j i)).length<=10000:=λj i l=>by
  have f:=jS (f:=λm=>(iA c).map (qJ m)) (List.range j) λm _=>by rw[cM];exact hl
  rw[m3]at f;unfold ow pM;rw[cM,lj,cM,oC];lia
 apply aE E.g Qas Qa8;refine eS E.g Qal (λj U=>∃e a,U=[some _,some _,some _,some (.lst (ow rs (pM (iA c) j 0))),e,a])
  (eo E.e9 Q2 We Qd) #[ _,_,rfl] (by rintro j U ⟨_,_,rfl⟩;exact i5 rfl) ?turn ?fin
 case fin=>
  rintro U ⟨e,a,rfl⟩;rw[show(b9 0 _).length=n by unfold b9;rw[cM,m3,ke]];exact aY QgC rfl
 case turn=>
  rintro j d U l ⟨e,a,rfl⟩;obtain⟨rfl,k⟩:=gF l;rw[ke]at k;rw[mT];refine eS E.g Qau (λi U=>∃a,U=[some _,some _,some _,some (.lst (ow rs (pM _ j i))),some _,a])
   (Lo o E.sM Q1 (E.ll 0).1) #[a,rfl] (by rintro j U ⟨_,rfl⟩;exact i5 rfl) ?zK ?fin2
  case fin2=>
   rintro U ⟨a,rfl⟩;rw[cM,zF];exact aj #[_,_,rfl]
  case zK=>
   rintro i d U p ⟨a,rfl⟩;rw[k4]at p;obtain⟨sg,q,rfl⟩:=nq.1 p;obtain⟨v1,v2⟩:=Qe (r▸Ur k q);refine Kx Qwe rfl rfl (cL E.cI (Eh _ E.u (bV E.cY E.iX QR xR) (kX (aH Qe6 (aH QbP bM)) aN) v1) (hi _ v2) Qaa aZ) rfl rfl (l6 (kl j i We) Wl) (aj #[some Qfi,?_]);rw[<- E5 _ j q];unfold ow;rw[ky];rfl
noncomputable def Xd:FG Ux ["chart","table","count"] ["range","signs","list"] (ao Uv):=fG
def Qf(n m:Nat)(c:Int):xQ:=if c % 3=1 then .GZ (decide (c / 3 % 2=0)) Qv9 else .num ((["<","<=","=","!="]:BA).getD (c / 3 % 4).toNat Str.empty) (c / 12 % ((n:Int)+1)-1) (Pq (c / 12 / 4)) (c / 48 % ((n:Int)+1)-1) (Pq (c / 48 / 4))
theorem ah8(n m:Nat)(c:Int):Pr n m c=Br (Qf n m c):=by
 unfold Pr Qf;split
 .have:c / 3 % 2=0\/c / 3 % 2=1:=by lia
  obtain e|e:=this
  .rw[e];rfl
  .rw[e];rfl
 .rfl
theorem ad0{m:Nat}{vs:AT}(hm:1<=m)(hv:vs.length=n)(c:Int):(Qf n m c).Ok m vs:=by
 unfold Qf;split
 .exact#[mj _ We,mm _ We]
 .have a1:=mj Qp0 (b:=n+1) We;have a2:=mm Qp0 (b:=n+1) We;have b1:=mj Qp1 (b:=n+1) We;have b2:=mm Qp1 (b:=n+1) We;refine#[?_,We,We];have:c / 3 % 4=0\/c / 3 % 4=1\/c / 3 % 4=2\/c / 3 % 4=3:=by lia
  obtain e|e|e|e:=this<;>rw[e]<;>decide +kernel
theorem ad1{s:AT}{vs:AT}(hm:1<=es.length)(hv:vs.length=n):vJ es.length vs (zO s es n):=λw hw=>by
 obtain⟨k,_,rfl⟩:=i9.1 hw;refine#[(List.range (aG s (200+12*k+1) % 3).toNat).map λ(j:Nat)=>Qf n es.length (aG s (200+12*k+1+1+j)),?_,WF,λa b=>?_]
 .show Jk s _ _ n=_;simp;exact nv λj _=>ah8 _ _ _
 .obtain⟨j,_,rfl⟩:=i9.1 b;exact ad0 hm hv _
theorem ad2(s:AT)(n:Nat)(c:Int):o2 n (zN s n c):=by
 have h1:=mj Qkf (b:=n+1) We;have h2:=mm Qkf (b:=n+1) We;have a:pO n (c / 16 % QaC-1):=by
  unfold pO;lia
 unfold zN;split
 .exact#[.call _,rfl,trivial]
 .split
  .exact#[.say _ _ _,rfl,a]
  .have d:=mj Qdn (b:=n) We;have e:=mm Qdn (b:=n) We;exact#[.put _ _ _,rfl,#[d,We],a]
def Ju(s:AT)(q:Int)(n:Nat):∀d∈iG s q n,o2 n d:=λd hd=>by
 obtain⟨k,_,rfl⟩:=i9.1 hd;exact ad2 _ _ _
theorem ad3{s:AT}(n:Nat)(he:1<=es.length):(zO s es n).length<=8/\∀w∈zO s es n,z0 es.length w/\∀d∈w.jc,o2 n d:=by
 refine#[by unfold zO;rw[cM,m3];exact Jp _ _,λw hw=>?_];obtain⟨k,f,rfl⟩:=i9.1 hw;have f:=nk.1 f;have a:=Jo he (show(mw s es.length).getD k 0∈mw s es.length by
  rw[km,kA f];exact ri _)
 generalize (mw s es.length).getD k 0=src at a;have g:=Ft s Qxh n;refine#[#[a,?_,?_,by show(iG _ _ _).length<=12;lia,jU _ _ _,xY _ _ _ _],Ju _ _ _]
 .show Qk7=-1\/(0<=Qk7/\Qk7<((es.length:Nat):Int));split
  .exact .inl rfl
  .refine .inr ?_;unfold Fw;split
   .have h:0<(iO es QbN).length:=List.length_pos_of_mem (rL a.1 a.2 rfl);have j:=mj Qxw (b:=((iO es QbN).length:Nat)) We;have i:=mm Qxw (b:=((iO es QbN).length:Nat)) We;rw[km,kA We];have:=lM (ri (l:=iO es QbN) (n:=(aG s Qk4 / 4 % ((iO es QbN).length:Nat)).toNat) We);exact#[this.1,this.2.1]
   .exact#[mj _ We,mm _ We]
 .show t7 (if _ then("new":Str) else WW _);split
  .exact .inl rfl
  .generalize aG s Qxi=c;unfold WW;have:(c % 3).toNat=0\/(c % 3).toNat=1\/(c % 3).toNat=2:=by lia
   obtain e|e|e:=this<;>rw[e]
   .exact .inl rfl
   .exact .inr Qaj
   .exact .inr QaB
def Qg(s:AT)(q:Int)(n:Nat):EO:=(List.range n).map λ(k:Nat)=>iG s Qjl (xZ s)
def xp(a:AT)(n:Nat):CH:=#[G8 a,(Py (lg a n).length).map .str,Bu a QfB n,lg a n,WQ a QfB (Bu a QfB n) 16 n,Qg a 100 n,Qg a 103 n,zO a QfB (xZ a)]
theorem ah9(a:AT)(n1:1<=n)(r:n<=8):(xp a n).Ok:=by
 obtain⟨c,j⟩:=WN a n1 We;have h:=adh a QfB;have i:=WO a QfB;rw[c]at h i;obtain⟨p,f⟩:=ad3 (s:=a) (es:=lg a n) (xZ a) We;have m:=adp a;have b:(G8 a).length=xZ a:=by unfold G8 xZ;rw[cM,m3]
 have rows:∀(q:Int),∀l∈Qg a q n,(l.length<=12/\D.bC l=true)/\∀d∈l,o2 (G8 a).length d:=λq l hl=>by
  obtain⟨k,_,rfl⟩:=i9.1 hl;have:=Ft a Qjl (xZ a);exact#[#[We,jU _ _ _],by rw[b];exact Ju _ _ _]
 have il:∀q,(Qg a q n).length=n:=λq=>by unfold Qg;rw[cM,m3]
 refine#[#[by show 0<(lg a n).length;lia,by show(lg a n).length<=13;lia,?_,?_,?_,?_,λk g=>h k (by rw[<- c];exact g),j,λk g e=>?_,λl hl=>(rows 100 l hl).1,λl hl=>(rows 103 l hl).1,λw hw=>(f w hw).1,l6 p Wl],λbs o=>ad1 (by show 1<=(lg a n).length;lia) (o.trans b),λl hl=>(rows 100 l hl).2,λl hl=>(rows 103 l hl).2,λw hw=>by show ∀d∈w.jc,o2 (G8 a).length d;rw[b];exact(f w hw).2,?_,by show(G8 a).length<=1000;lia]
 .exact(Lf ..).trans c.symm
 .exact(WR ..).trans c.symm
 .exact(il _).trans c.symm
 .exact(il _).trans c.symm
 .have:=ahu (s:=a) (base:=16) i g (by have:=l3 e;rwa [ke]at this)
  rwa [c]at this
 .show((Py (lg a n).length).map D.str).length=_;unfold Py;rw[cM,cM,m3];rfl
def MJ{ws:At}{t:T}(h1:D.bC bs=true)(h2:D.bC nm=true)(d:t.clean=true)(c:D.bC is=true)(b:D.bC os=true)(a:D.bC ws=true):T.c6 QuH=true:=by
 unfold t9 EC ED;rw[nc,nc,ui,T.c6,T.c6,T.c6,T.c6,T.c6,T.c6,cA h1,cA h2,d,cA c,cA b,cA a];rfl
def vz(rs:QbO)(l:List fB):D:=.lst (l.map λk=>.lst ((DM rs k).map CG))
def Xe(rs:QbO)(l:List fB):T.fC (.lst (ow rs l))=vz rs l:=by
 unfold vz ow;rw[T.fC];congr 1
 induction l with
 | nil=>rfl
 | cons k r a=>rw[lx,T.dB,bT,a];rfl
theorem Jv{rs:QbO}(h:∀q∈rs,D.bC Qo7=true):∀l:List fB,(∀k∈l,k∈rs.map (·.1))->T.gi (ow rs l)=true
 | [],_=>rfl
 | k::l,hl=>by
  have e:=Jv h l λx a=>hl x Qee;unfold ow at e ⊢;rw[lx,T.gi,e,cA (h _ (vj (hl k iB)).2)];rfl
def aro{m:Nat}{d:D}(h:A0 m d)(n:Nat):Sm (n+2) d:=by
 have two:∀{a b:D},Sm _ a->Sm QaC b->Sm _ _:=MH;have tm:=λa b=>Ak n [a,b];have e:∀{a b c:D},Sm _ a->Sm _ b->Sm _ c->Sm (n+2) (.tup _):=λh1 h2 f d hd=>by
  obtain rfl|hd:=fL.1 hd
  .exact h1
  .exact two h2 f d hd
 obtain⟨x,rfl,_⟩:=h;cases x with
 | wA q=>
  cases q with
  | put i a c=>exact e trivial trivial (tm a c)
  | call s=>exact two trivial trivial
  | say s a c=>exact e trivial trivial (tm a c)
 | keep i p q=>
  intro d hd;obtain rfl|hd:=fL.1 hd
  .trivial
  .exact e (a:=.int i) (b:=.int p) (c:=.int q) trivial trivial trivial d hd
 | _=>exact two trivial trivial
def anG{r:gk}(h:FK c r):Sm 6 (CG r):=λd hd=>by
 obtain rfl|hd:=fL.1 hd
 .intro d hd;obtain⟨q,_,rfl⟩:=i9.1 hd;intro d hd;obtain rfl|hd:=fL.1 hd
  .trivial
  .exact MH (Ak 2 [_,_]) (Ak 2 [_,_]) d hd
 .exact MH (n:=5) (a:=.tup _) (c:=.int _) (λx b=>aro (h.i x b) 2) trivial d hd
theorem Qh{α:Type}{k k':fB}{u:α}:∀l:List Qpg,iN (Ei k u l) k'=iN l k'\/iN (Ei k u l) k'=some u
 | []=>.inl rfl
 | (x,v)::r=>by
  rw[Ei];by_cases e2:x=k'
  .split
   .exact .inr (lZ e2)
   .exact .inl ((lZ e2).trans (lZ e2).symm)
  .split
   .rw[kB e2,kB e2];exact .inl rfl
   .rw[kB e2,kB e2];exact Qh r
variable{pr2:At}{kv:Qoc}{k:fB}{l:Bz}{u:T}
def Uy{t:T}:List.lookup ("flats":Str) QrT=some QyB:=rfl
def anH{t:T}:T.je [.fld "flats"] (.lst (pr2.map T.sh)) Qyg=.ins "Table" (tN bs hs bg pr2 t):=rfl
def O0{t:T}:T.jX [.fld "flats"] Qyg=some QyB:=by
 rfl
def arp:T.jX [.fld "rows"] Qla=some QpR:=by
 rfl
def Xf(h:iN kv k=some Qfw):T.jX [.fld "rows",.key k] Qla=some Qfw:=by
 show(iN kv k).bind _=_;rw[h];rfl
def aia(h:iN kv k=some Qfw):T.je [.fld "rows",.key k] u Qla=.ins "Table" (tN bs hs bg pr (.dct (Ei k u kv))):=by
 show T.ins _ _=_;rw[T.je,show(T.core QpR).OG (.key k)=some _ from h];rfl
def au6:D->Int
 | .lst ds=>(ds.length:Nat)
 | _=>0
theorem OT{α:Type}(f:α->Nat):∀l:List α,(l.map λx=>(f x:Int)).sum=((l.map f).sum:Nat)
 | []=>rfl
 | x::l=>by simp[OT]
abbrev LH:=top 87
abbrev LG:=AT
noncomputable abbrev LF:BA:=["script","parts","chart","table","flats","rows","many","other","sign","again"]
noncomputable def Aq:LG->At:=λa=>[.lst QgN]
def As:LG->Prop:=λa=>a.length<=63
noncomputable def Au:LG->T:=λa=>(.sh Qb6:T)
structure arq(X:Cx)(CL:BM):Prop extends EL X LF ["_law_parts","_law_chart","_law_plain","_law_made","len","_law_good","list","_law_copy","sum","_law_same","signs"],fU X.K X.mg CL where
 aib:Fc X CL "_law_parts" 5 2 vQ vR vS
 aic:Fc X CL "_law_chart" 3 1 By BD BE
 aid:Fc X CL "_law_plain" 50 1 B8 B9 v8
 anI:Fc X CL "_law_made" 50 2 Ge Gf Ab
 anJ:Fc X CL "_law_good" 11 3 Al Am An
 anK:Fc X CL "_law_copy" 2 3 Gi Gj Ao
 sS:Fc X CL "_law_same" 9 2 qV (ou 8) oz
 sM:Fc X CL "signs" 1 1 lz iy jV
theorem ars(E:arq X CL) :
  kC X CL b LH LF Aq As Au:=by
 intro a h;dsimp only [As,Aq,Au]at h ⊢;have hs:a.length<=1000:=by lia
 obtain⟨n1,n2,_⟩:=WX a (most:=8) Wl;have n:=ah9 a n1 n2;have G:(xp a QfC).nm=(Py (xp a QfC).es.length).map .str:=rfl;refine aE E.g Qet (aK (cF (a,8) E.aib Qd (aH QaH (aH j6 bM)) #[hs,Wl,Wl]) (t2:=.sh (JI (xp a QfC))) (by
  show T.sh _=T.sh (pP _ _ _ _ ((Qg a 100 QfC).map .tup) ((Qg a 103 QfC).map .tup) _);unfold FA Qg;rw[kc,kc];rfl)) ?_
 generalize xp a QfC=c at n G ⊢;have aa:=n.k.n1;have ib:D.bC QdU=true:=eO QcP _;have ii:∀l:EO,pK l->D.bC (l.map D.tup)=true:=λl h=>jr λd hd=>by
  obtain⟨x,W,rfl⟩:=i9.1 hd;exact(h x W).2
 have iw:D.bC Qok=true:=jr λd hd=>by
  obtain⟨w,hw,rfl⟩:=i9.1 hd;have:=n.k.wo w hw;show(true&&(true&&(D.bC w.asks&&(D.bC w.jc&&QsK))))=true;rw[this.2.2.2.2.1,this.2.2.2.2.2];rfl
 refine aE E.g Qam (jt (d:=c.d) (c_ (c.bs.map k9,c.es,c.ks,c.ss,c.is.map .tup,c.os.map .tup,c.ws.map f7) E.aic Q1 Qlc #[ib,ii _ n.k.ir,ii _ n.k.or,iw,show c.es.length<=40 by lia] (MJ ib (tY _) (Cz c.ks c.es c.ss) (ii _ n.k.ir) (ii _ n.k.or) iw)) (by
  show T.fC (T.ins "Chart" (t9 _ _ (.ins "Tree" _) _ _ _))=_;rw[Sz,YF];unfold CH.d;rw[G])) ?_
 have made:∀{U:BB} {pp p1 p2 B:Pos} {kk:Nat},U[2]? = some QgJ->bU X CL b (.Call (.Name "_law_made" p1) [.Name "chart" p2,.Constant (.int 60) kk B] [] pp) U (sZ c 60) U:=λh=>cF (c,60) E.anI Qak (aq Qxx Qom) #[n,Wl,Wl];have plain:∀{U:BB} {pp p1 p2:Pos},U[2]? = some QgJ->bU X CL b (.Call (.Name "_law_plain" p1) [.Name "chart" p2] [] pp) U (sZ c 60) U:=λh=>cF c E.aid Qaa (aq Qxx aV) n;unfold sZ at made plain;cases e:Ld c 60 (iA c) with
 | none=>
  rw[e]at made plain;refine aE E.g Qas (plain rfl) ?_;refine cg (US Qad).1 (λ_=>?_) (λz=>by cases z);exact aY (US (ak Qpp)).2 rfl
 | some s=>
  rw[e]at made plain;dsimp only at made plain;have t:=SE n Wl e;have o:T.fC (.ins "Table" Qq1)=vl c s:=acY ..;have ae:=t.ln;have K:∀q∈s.rs,D.bC Qo7=true:=λq hq=>jr λd hd=>by
   obtain⟨r,Y,rfl⟩:=i9.1 hd;exact WG ((t.rw q hq).2 r Y)
  have tu:(pM (iA c) s.fl.length 0).length<=10000:=by
   have hl:=z8 n;have f:=jS (f:=λm=>(iA c).map (qJ m)) (c:=12) Qtp λm _=>by rw[cM];exact hl
   rw[m3]at f;unfold pM;rw[lj,List.take_zero];show _+0<=_;lia
  have Z:∀k∈pM (iA c) s.fl.length 0,k∈s.rs.map (·.1):=λk I=>by rw[t.ks];exact I
  have N:Sm 8 (.lst QdI):=λd hd=>by
   obtain⟨p,_,rfl⟩:=i9.1 hd;exact O3 5 p
  have M:Sm 8 Qh5:=λd hd=>by
   obtain⟨k,I,rfl⟩:=i9.1 hd;intro d hd;obtain⟨r,Y,rfl⟩:=i9.1 hd;exact anG ((t.rw _ (vj (Z k I)).2).2 r Y)
  have v:(s.fl.map jT).length=s.fl.length:=cM ..;have J:∀{U:BB} {y:Str} {pp p1 p2 B S R A:Pos},U[2]? = some QgJ->cN X CL b Qj0 U Qko U->U[4]? = some Qos->bU X CL b (.Call QtZ [.Name "chart" p2,.Name y A,.Call Qxy [.Name "flats" S] [] R] [] pp) U (.lst (ow s.rs (pM (iA c) s.fl.length 0))) U:=λh1 h2 L=>c_ (c,c.bs.map k9,(iA c).map D.str,W7 c,s.fl.map jT,s.rs,s.fl.length) E.anK Qdm (ah (ak (v_ (E.ll 2).1 h1)) (ah h2 (ah (ak (bS v E.cJ (ak (v_ (E.ll 4).1 L)) QaL)) aA))) #[#[n,We],K,t.ks] (Jv K _ Z);have P:∀{U:BB} {y:Str} {pp p1 p2 B A:Pos},cN X CL b Qj0 U Qko U->U[4]? = some Qos->bU X CL b (.Call (.Name "_law_same" p1) [.Attribute Qj0 "flats" p2,.Name "flats" B] [] pp) U QoB U:=λh1 h2=>c_ (D.lst QdI) E.sS (E.gg 9) (ah (bV E.cY E.cu h1 dX) (ah (ak (v_ (E.ll 4).1 h2)) aA)) N rfl;have O:∀{U:BB} {y:Str} {q q1 q3 pp p1 p2 B S R A:Pos},U[2]? = some QgJ->cN X CL b Qj0 U Qko U->U[4]? = some Qos->U[5]? = some (some (.sh Qh5))->bU X CL b (.Call (.Name "_law_same" q1) [.Call QtZ [.Name "chart" p2,.Name y A,.Call Qxy [.Name "flats" S] [] R] [] pp,.Name "rows" q3] [] q) U QoB U:=λh1 h2 L h4=>c_ Qh5 E.sS (E.gg 9) (ah (sY (Vu (J h1 h2 L)) (Xe ..)) (ah (ak (v_ (E.ll 5).1 h4)) aA)) M rfl;refine aE E.g Qas (jt (plain rfl) o) ?_;refine cg (KG Qad) (λz=>by cases z) (λ_=>aj ?_);refine cg (jY (q:=false) (gK (fE (wK (ak (bS v E.cJ Qt0 QaL)) ai).1 (λ_=>eN (iC (eL (c_ (c,s) E.anJ QbF Qxl #[n,t] rfl)))))) (by show(decide (((s.fl.length:Nat):Int) > 60) || false)=false;rw[la We];rfl)) (λz=>by cases z) (λ_=>aj ?_);refine aE E.g Qal (gQ (cL E.cI Qt0 QtF Qbq aZ)) ?_;refine aE E.g Qau (jt (J rfl Qad rfl) (Xe ..)) ?_;have aw:((pM (iA c) s.fl.length 0).map λk=>((DM s.rs k).length:Int)).sum<=480:=by
   have h0:=congrArg (List.map λq:fB×List gk=>q.2.length) (MG t.kd);rw[kc,t.ks]at h0;have h1:=t.tj.sp;rw[<- h0]at h1;rw[OT λk=>(DM s.rs k).length];have h2:((pM (iA c) s.fl.length 0).map λk=>(DM s.rs k).length).sum<=480:=by
    refine l6 (Nat.le_add_right _ s.sp) (Nat.le_of_eq h1)
   lia
  refine aE E.g QaR (af6 E.g E.aq3 (bR (aK (oN (p:=λ_=>true) (g:=λd=>T.sh (.int (au6 d))) Qpy E.g.calm (dZ QbP) QaB (λC s0 H0 f0 b' d hd=>?xM) (by rw[cM,l7];lia)) (by rw[gM,kc,kc,kc];exact congrArg T.lst (nv λk _=>by show T.sh (.int (((DM s.rs k).map CG).length:Nat))=_;rw[cM];rfl)))) (E.gg 8)) ?_
  case xM=>
   obtain⟨k,_,rfl⟩:=i9.1 hd;exact#[rfl,λ_=>yN (by exact E.cJ) (jR 0) Ba]
  refine cg (jY (q:=false) (wK QaS ai).1 (la We)) (λz=>by cases z) (λ_=>aj ?_);refine cg (gK (fE (wK (ak (bS v E.cJ Qai QaL)) ai).1 (λ_=>eN (wK QaS ai).1))) (λ_=>aY oK rfl) (λ_=>aj ?_);refine aE E.g QbS Qpp ?_;refine cg (jY (q:=false) (gK (fE (KG QmA) (λ_=>fE (iC (eL (P QmA rfl))) (λ_=>eN (iC (eL (O rfl QmA rfl rfl))))))) rfl) (λz=>by cases z) (λ_=>aj ?_);have vT:∀{k:fB},k∈s.rs.map (·.1)->iN QmS k=some (.lst (((DM s.rs k).map CG).map T.sh)):=λI=>by
   unfold fS jg;rw[vh (λl:At=>T.lst (l.map T.sh)),vh (List.map CG),(vj I).1];rfl
  have k0:∀{sg:Str},sg∈iA c->qJ 0 sg∈s.rs.map (·.1):=λF=>by
   obtain⟨i,hi⟩:=List.getElem?_of_mem F;rw[t.ks];exact Ur t.p0 hi
  refine Kx (p:=[.fld "flats"]) (f6 E.cY E.cu Qwf rfl rfl Uy) rfl O0 (cK (ds:=[.tup [],.tup []]) (aq QiU (aq QiU aV)) aN) rfl O0 (by rw[cM,v];lia) ?_;refine eS E.g QdX (λj U=>∃(kv:Qoc) (V:QcZ),(∀sg∈iA c,∃l,iN kv QgY=some Qfw/\l.length<=480+j)/\j<=12/\U=[some (.sh (.lst QgN)),some (.sh (JI c)),some Qdd,some (.sh Qko),some QqZ,some (.sh Qh5),some (.sh (.int ((pM (iA c) s.fl.length 0).map λk=>((DM s.rs k).length:Int)).sum)),some (.ins "Table" (tN QdU ((iA c).map .str) (W7 c) (s.fl.map jT++[.tup [.tup [],.tup []]]) QpR)),V,none])
   (Lo n E.sM QpQ (E.ll 2).1) #[fS QdQ,none,λsg F=>#[_,vT (k0 F),by rw[cM,cM];exact(t.rw _ (vj (k0 F)).2).1],kx _,?ini] (by rintro j U ⟨_,_,_,_,rfl⟩;exact i5 rfl) ?turn ?fin
  case ini=>
   show [_,_,_,_,_,_,_,some (T.je [.fld "flats"] _ (.ins "Table" (tN _ _ _ _ _))),_,_]=_;rw[show(s.fl.map jT).map T.sh++[T.sh (.tup [.tup [],.tup []])]=(s.fl.map jT++[D.tup [.tup [],.tup []]]).map T.sh by rw[ky];rfl,anH]
  case turn=>
   rintro j d U hj ⟨kv,V,H,ag,rfl⟩;rw[k4]at hj;obtain⟨sg,F,rfl⟩:=nq.1 hj;obtain⟨l,hl,af⟩:=H sg (l4 F);have mH:=(md.1 F).1;have ar:=z8 n;refine Kx (p:=[.fld "rows",.key QgY]) (ame QgY E.u (f6 E.cY E.iX Qwf rfl rfl Jb) rfl arp (ak (cK (ds:=[.int 0,.str sg]) (aq j6 (aq Qiq aV)) aN)) hl) rfl (Xf hl) (cK (ds:=[.tup [],.tup [],.int 0]) (aq QiU (aq QiU Qom)) aN) rfl (Xf hl) We (aj #[Ei QgY (.lst Qr0) kv,some Qfi,λx W=>?_,We,?_])
   rotate_left
   .show [_,_,_,_,_,_,_,some (T.je [.fld "rows",.key QgY] _ (.ins "Table" _)),_,_]=_;rw[aia hl]
   .rcases Qh (k:=qJ 0 sg) (k':=qJ 0 x) (u:=.lst Qr0) kv with z|z
    .obtain⟨l2,h2,L⟩:=H x W;exact#[l2,z.trans h2,We]
    .exact#[_,z,by rw[lj,oP];lia]
  case fin=>
   rintro U ⟨kv,V,_,_,rfl⟩;refine cg (jY (q:=false) (gK (fE (iC (eL (P Qad rfl))) (λ_=>eN (iC (eL (O rfl Qad rfl rfl)))))) rfl) (λz=>by cases z) (λ_=>aj ?_);refine aE E.g (E.ll 9) Qpp ?_;refine cg (jY (q:=false) (gK (fE (KG QmB) (λ_=>eN (iC (eL (P QmB rfl)))))) rfl) (λz=>by cases z) (λ_=>aj ?_);exact aY (O rfl QmB rfl rfl) rfl
noncomputable def Uz:FG LF ["script"] ["_law_parts","_law_chart","_law_plain","_law_made","len","_law_good","list","_law_copy","sum","_law_same","signs"] (ao LH):=fG
noncomputable def cl(aR bE aJ aW aQ bQ dG:Addr):Str->Addr:=λc=>if c="Chart" then aR else if c="Tree" then bE else if c="Growth" then aJ else if c="Table" then aW else if c="TooWide" then aQ else if c="#goable.<locals>.<lambda>" then bQ else if c="#kept.<locals>.<lambda>" then dG else 0
variable{aR bE aJ aW aQ bQ dG:Addr}
def Qi:cl aR bE aJ aW aQ bQ dG "#goable.<locals>.<lambda>" = bQ:=by unfold cl;rw[bW Wi];rw[bW Wi];rw[bW Wi];rw[bW Wi];rw[bW Wi];rw[cq rfl]
def Zw:cl aR bE aJ aW aQ bQ dG "#kept.<locals>.<lambda>" = dG:=by unfold cl;rw[bW Wi];rw[bW Wi];rw[bW Wi];rw[bW Wi];rw[bW Wi];rw[bW Wi];rw[cq rfl]
def ad8:cl aR bE aJ aW aQ bQ dG "Chart" = aR:=by unfold cl;rw[cq rfl]
def aie:cl aR bE aJ aW aQ bQ dG "Tree" = bE:=by unfold cl;rw[bW Wi];rw[cq rfl]
def Zx:cl aR bE aJ aW aQ bQ dG "Growth" = aJ:=by unfold cl;rw[bW Wi];rw[bW Wi];rw[cq rfl]
def ad9:cl aR bE aJ aW aQ bQ dG "Table" = aW:=by unfold cl;rw[bW Wi];rw[bW Wi];rw[bW Wi];rw[cq rfl]
def UA:cl aR bE aJ aW aQ bQ dG "TooWide" = aQ:=by unfold cl;rw[bW Wi];rw[bW Wi];rw[bW Wi];rw[bW Wi];rw[cq rfl]
def aif{x:Str}(h:Iw x=true)(h0:cl aR bE aJ aW aQ bQ dG x≠0):(cl aR bE aJ aW aQ bQ dG x,N6 x)∈([(bQ,"goable.<locals>.<lambda>"),(dG,"kept.<locals>.<lambda>")]:Cs):=by
 unfold cl at h0 ⊢;rw[bW (λe=>by rw[e]at h;exact absurd h Wi)]at h0 ⊢;rw[bW (λe=>by rw[e]at h;exact absurd h Wi)]at h0 ⊢;rw[bW (λe=>by rw[e]at h;exact absurd h Wi)]at h0 ⊢;rw[bW (λe=>by rw[e]at h;exact absurd h Wi)]at h0 ⊢;rw[bW (λe=>by rw[e]at h;exact absurd h Wi)]at h0 ⊢;by_cases b:x="#goable.<locals>.<lambda>"
 .rw[cq b,b,show N6 _="goable.<locals>.<lambda>" by decide +kernel];simp
 rw[bW b]at h0 ⊢;by_cases a:x="#kept.<locals>.<lambda>"
 .rw[cq a,a,show N6 _="kept.<locals>.<lambda>" by decide +kernel];simp
 rw[bW a]at h0 ⊢;exact absurd rfl h0
theorem all_mk{l:QnL}{w:World}{K:Frag}{h:Heap}{mg:Bi}{T0:BY}{fa ej h3 fA UC hZ ei hY eh eg fy ef fw CY Av fv fu Qj Qk Zy ft fo xq jM Hv Gm Hw Ql Hx Qm Zz fk ee Qn yp hX ed ax ZC UD MK eb ZD Hy hW UE UG ML fg ff Qo T qq MN Aw vm fe ea fb S d6 hV f_list d5 d4 aw:Addr}(g:K.In h)(G:Qwy)(ae:mg "law" = some (.ref fa))
  {d3 hU e8 UH hT eE hS eD eC e6 eA e5 Qp MP e4 e3 Qq Qs ZE eX eW Hz yq HB Gn HC Qt HD Qu ZF hj ey Qv UI hR ew ar ZG UJ MQ et ZH HF hP UK UL MR hh hg Qw R HG hc MS Qx hb er ha g_same el hO ek de dc P:QaU}
  (g5:InG K "Chart" aR) (bY:yG K aR) (hN:makesIn K aR=true) (hM:keepIn K (.ref aR)=true)
  (HJ:bF K aR "boxes")
  (HK:bF K aR "names")
  (MT:bF K aR "tree")
  (Qy:bF K aR "ins")
  (MV:bF K aR "outs")
  (MX:bF K aR "ways")
  (da:InG K "Tree" bE) (jh:yG K bE) (g4:makesIn K bE=true) (g0:keepIn K (.ref bE)=true)
  (MY:bF K bE "kinds")
  (HL:bF K bE "elders")
  (HM:bF K bE "starts")
  (hL:InG K "Growth" aJ) (bf:yG K aJ) (Jw:makesIn K aJ=true) (Jx:keepIn K (.ref aJ)=true)
  (Gp:bF K aJ "chart")
  (HN:bF K aJ "most")
  (Gq:bF K aJ "flats")
  (Dh:bF K aJ "places")
  (HP:bF K aJ "rows")
  (wF:bF K aJ "spare_rows")
  (gN:InG K "Table" aW) (cY:yG K aW) (Qz:makesIn K aW=true) (QB:keepIn K (.ref aW)=true)
  (HQ:bF K aW "boxes")
  (HR:bF K aW "signs")
  (HS:bF K aW "begin")
  (HV:bF K aW "flats")
  (MZ:bF K aW "rows")
  (ZI:InG K "TooWide" aQ)
  {UM UN:Str} {Ca:Addr} {UO Gr UQ:B1} {UR UT:Bool} {UU:BA} {QC:Option Bool} {UW:Db} {UX UY UZ U0 U1:Qhd} (U3:K.lookup aQ=some (excClassObj UM UN aQ Ca UO Gr UR UU UQ UT QC UW UX UY UZ U0 U1 "ValueError.__new__")) (U4:Wq 2 (nsOkIn K Ca=true)) (U5:nsIn K Ca "__init__" = some none) (U6:Wq 2 (tailIn K VM Gr=true))
  (oA:Wq 5 (exmOne K (.ref aQ) (.ref aQ)=some true))
  (c8:jv K "_law_cell" SV ej d3)
  (hK:jv K "_law_elders" E7 h3 hU)
  (gz:jv K "_law_kinds" Lg fA e8)
  (U7:jv K "_law_inner" rR UC UH)
  (hJ:jv K "_law_chosen" Fb hZ hT)
  (c5:jv K "_law_name" Tc ei eE)
  (hI:jv K "_law_number" Ff hY hS)
  (c4:jv K "_law_term" Tf eh eD)
  (c3:jv K "_law_asks" Tj eg eC)
  (gy:jv K "_law_deeds" Lj fy e6)
  (c2:jv K "_law_ways" Lq ef eA)
  (gx:jv K "_law_parts" DI fw e5)
  (pD:o1 K bE "__init__" "Tree.__init__" ux CY Qp)
  (nE:o1 K aR "__init__" "Chart.__init__" rY Av MP)
  (gw:jv K "_law_chart" Lx fv e4)
  (gv:jv K "inner" DJ fu e3)
  (QD:jv K "opened_in" uD Qj Qq)
  (O:jv K "opened" Fy Qk Qs)
  (ZJ:jv K "in_rows" BG Zy ZE)
  (gr:jv K "begun" LK ft eX)
  (gq:jv K "signs" LR fo eW)
  (L:o1 K aJ "__init__" "Growth.__init__" pT xq Hz)
  (n:o1 K aJ "number_of" "Growth.number_of" fV jM yq)
  (HW:jv K "open_leaves" lQ Hv HB)
  (Gs:jv K "at_next_leaf" n5 Gm Gn)
  (HX:jv K "number_asks" pY Hw HC)
  (QF:jv K "with_pick" uI Ql Qt)
  (HY:jv K "at_next_way" qe Hx HD)
  (QG:jv K "with_held" uM Qm Qu)
  (ZK:jv K "further" BO Zz ZF)
  (gm:jv K "above" LX fk hj)
  (c1:jv K "fits" TF ee ey)
  (Ax:jv K "goable" zW Qn Qv)
  {qP:Addr} {ZL:Db} {Jy:Cc} {ZM:DA} (ZN:Wq 1 (Qv.code=.ref qP)) (i2:K.lookup qP=some #[.type "code",ZL,.fields Jy,ZM]) (i0:Wq 1 (Jy[11]? = some (.ref bQ))) (Jz:Wq 2 (codeHdIn K qP bQ=true)) (ZO:Wq 3 (bQ≠0)) (ZP:Wq 2 (K.lookup bQ=none)) (ZQ:Wq 3 (bQ∈T0))
  (J:jv K "branches" lD yp UI)
  (hH:jv K "within" FT hX hR)
  (cP:jv K "left" L0 ed ew)
  (ag:jv K "top" LB ax ar)
  (ZR:jv K "way_top" BU ZC ZG)
  (U8:jv K "all_left" yd UD UJ)
  (M0:jv K "remembered" sf MK MQ)
  (cx:jv K "road" T3 eb et)
  (ZS:jv K "entered" BX ZD ZH)
  (HZ:jv K "all_entered" qh Hy HF)
  (hG:jv K "heeded" F5 hW hP)
  (U9:jv K "out_rows" yg UE UK)
  (Va:jv K "way_rows" yj UG UL)
  (M3:jv K "has_target" sG ML MR)
  (gh:jv K "moved" DL fg hh)
  (gc:jv K "depth" Mi ff hg)
  (QH:jv K "tops_meet" uV Qo Qw)
  (M4:jv K "kept" Mm T R)
  {B6:Addr} {f5:Db} {Xg:Cc} {f3:DA} (fT:Wq 1 (R.code=.ref B6)) (iF:K.lookup B6=some #[.type "code",f5,.fields Xg,f3]) (iw:Wq 1 (Xg[11]? = some (.ref dG))) (Xh:Wq 2 (codeHdIn K B6 dG=true)) (fR:Wq 3 (dG≠0)) (fO:Wq 2 (K.lookup dG=none)) (fI:Wq 3 (dG∈T0))
  (r:o1 K aJ "grow" "Growth.grow" jn qq HG)
  (I:jv K "grown" z9 MN hc)
  (M:o1 K aW "__init__" "Table.__init__" sN Aw MS)
  (A:FnE K "flattened" pB vm Qx ["chart","most"] 60)
  (hB:jv K "_law_plain" Mv fe hb)
  (cw:jv K "_law_made" Ug ea er)
  (hA:jv K "_law_opens" My fb ha)
  (Gu:jv K "_law_same" s_same S g_same)
  (cv:jv K "_law_flat" MD d6 el)
  (hF:jv K "_law_walked" Af hV hO)
  (cp:jv K "_law_list" Uo f_list ek)
  (cn:jv K "_law_good" Us d5 de)
  (cm:jv K "_law_copy" Uv d4 dc)
  (N:jv K "law" LH aw P)
  (br:Q9 K "len")
  (hz:Q9 K "range")
  (bp:Q9 K "int")
  (bo:Q9 K "str")
  (hy:Q9 K "tuple")
  (hC:Q9 K "sorted")
  (bj:Q9 K "max")
  (cf:Q9 K "list")
  (QI:Q9 K "enumerate")
  {hx:Tok} (cc:Bb K "SIGN" 1 hx)
  {yr:Tok} (Ay:Bb K "ROWS_FOR_A_FLAT" 8 yr)
  {hu:Tok} (cb:Bb K "LEAF" 0 hu)
  {ip:Tok} (ht:Bb K "ASKED" 2 ip)
  {ZT:Tok} (ik:Bb K "PICKED" 3 ZT)
  {hq:Tok} (b7:Bb K "HELD" 4 hq)
  {ho:Tok} (b6:Bb K "ASKS" 2 ho)
  {b5:Tok} (bc:Bb K "WAY" 1 b5)
  (b4:Q9 K "dict")
  {ZU:Tok} (ij:Bb K "SOURCE" 0 ZU)
  (Vb:Q9 K "reversed")
  {ZV:Tok} (ie:Bb K "TARGET" 4 ZV)
  {hk:Tok} (b0:Bb K "MODE" 5 hk)
  {ib:Tok} (eT:Bb K "DEEDS" 3 ib)
  (bb:Q9 K "any")
  (M5:Q9 K "isinstance")
  (y_bool:Q9 K "bool")
  (ba:Q9 K "sum")
  (Gv:Wq 3 (dG≠bQ))
  : ∃(fd:QaU) (ts:Cs),(∀p∈ts,p.1∈T0/\ts.lookup p.1=some p.2/\K.lookup p.1=none/\∃c,CodeHd h c p.1)/\(∀(s:Qb) (v:Value),BindsTo s fd #[[v],[]] [("script",v)])/\∀base:Heap,K.In base->base.Ns mainGlobals mg->Eg mg base->dg l.prog w K mg base oG 51 fa fd ["script"] (spT K ts 1 Aq As Au):=by
 have e:=ae.symm.trans (l8 g G N.m);cases e;obtain⟨k,rfl,rfl,rfl,rfl,rfl,rfl,rfl,af⟩:∃k:Str->Addr,aR=k "Chart" /\ bE=k "Tree" /\ aJ=k "Growth" /\ aW=k "Table" /\ aQ=k "TooWide" /\ bQ=k "#goable.<locals>.<lambda>" /\ dG=k "#kept.<locals>.<lambda>" /\ ∀x,Iw x=true->k x≠0->(k x,N6 x)∈([(bQ,"goable.<locals>.<lambda>"),(dG,"kept.<locals>.<lambda>")]:Cs):=#[(cl aR bE aJ aW aQ bQ dG),ad8.symm,aie.symm,Zx.symm,ad9.symm,UA.symm,Qi.symm,Zw.symm,λx=>aif];have QJ:=pD.bA ["self","kinds","elders","starts"];have M6:=nE.bA ["self","boxes","names","tree","ins","outs","ways"];have QK:=l8 g G O.m;have QL:=O.bA ["tree","memory","mood","mode"];have xr:=L.bA ["self","chart","most"];have F:=n.bA ["self","opens","memory"];have ia:=l8 g G Ax.m;have h9:=Ax.bA ["chart","opens","leaf","sign"];have yt:=l8 g G J.m;have yu:=J.bA ["chart","opens","sign","most"];have bx:=l8 g G M4.m;have bt:=M4.bA ["chart","found"];have lY:=r.bA ["self","number","sign"];have M7:=l8 g G I.m;have M8:=I.bA ["chart","most"];have Az:=M.bA ["self","boxes","signs","begin","flats","rows"];have pF:=l8 g G A.m;have CZ:=A.b;have Z:=l8 g G Gu.m;have Y:=Gu.bA ["found","due"];have iv:=l8 g G N.m;have iq:=N.bA ["script"];have eR:=l8 g G g5;have d0:=l8 g G da;have QM:=l8 g G hL;have Xi:=l8 g G gN;have ZW:=l8 g G ZI;have Vc:Ks K (k "TooWide"):=#[#[_,_,_,_,_,_,_,_,_,_,_,_,_,_,_,_,U3,U4.1,U5,U6.1]];have f:fU K mg k:=#[m4 g G br,m4 g G hz,m4 g G bp,m4 g G bo,m4 g G hy,m4 g G hC,m4 g G bj,m4 g G cf,jh,MY,HL,HM,bY,cY,HJ,HQ,HK,MT,Qy,MV,MX,m4 g G QI,#[_,l8 g G cc],#[_,l8 g G Ay],bf,Gp,HN,Gq,HV,Dh,HP,MZ,wF,ZW,Vc,#[_,l8 g G cb],#[_,l8 g G ht],#[_,l8 g G ik],#[_,l8 g G b7],#[_,l8 g G b6],#[_,l8 g G bc],m4 g G b4,#[_,l8 g G ij],m4 g G Vb,#[_,l8 g G ie],#[_,l8 g G b0],#[_,l8 g G eT],m4 g G bb,HR,HS,m4 g G M5,m4 g G y_bool,m4 g G ba];refine#[P,[((k "#goable.<locals>.<lambda>"),"goable.<locals>.<lambda>"),((k "#kept.<locals>.<lambda>"),"kept.<locals>.<lambda>")],?tabs,?bind,λbase kb _ bl=>?_]
 case tabs=>
  intro p j;simp only[fL,lL,or_false]at j;obtain rfl|rfl:=j
  .exact#[ZQ.1,by simp only[mx,w4],ZP.1,qP,codeHd_of_K g Jz.1]
  .exact#[fI.1,by simp only[mx,w4,beq_false_of_ne Gv.1],fO.1,B6,codeHd_of_K g Xh.1]
 case bind=>
  obtain⟨dV,oc,od,kV,doc,pm,an,ez,ct,GH,rfl,lk,jO⟩:=N.ex;cases (show dV=.none from N.dn);exactλs v=>.of_eq rfl
 have q:=@aqI l.prog w mg base K h k g G;have D:=q 0 jl cU gX c8  WM.1 λd u p=>amM (by exact#[gE u WM,f]) p;have h8:=q 1 rP nV rQ hK  Jh.1 λd u p=>adf (by exact#[gE u Jh,f,bJ D d]) p;have eP:=q 1 Bv vN Bw gz  Pk.1 λd u p=>aht (by exact#[gE u Pk,f,bJ D d]) p;have yw:=q 0 kI eB kJ U7  Pn λd u p=>S9 (by exact#[cE u ug,f,cX ug 0 rfl,cX ug 1 rfl]) p;have h7:=q 1 xW rS xX hJ  Ji.1 λd u p=>adk (by exact#[gE u Ji,f,bJ yw d,bJ D d]) p;have X:=q 1 zL uh um c5  WT.1 λd u p=>amR (by exact#[gE u WT,f,bJ D d]) p;have QN:=q 0 rT rV rW hI  Jj.1 λd u p=>adn (by exact#[gE u Jj,f]) p;have V:=q 1 uo uq ur c4  WU.1 λd u p=>amT (by exact#[gE u WU,f,bJ QN d]) p;have dE:=q 2 Fl zM Fo c3  WV.1 λd u p=>amV (by exact#[gE u WV,f,bJ D d,bJ V d]) p;have Xj:=q 2 vO lu vP gy  Pw.1 λd u p=>ahw (by exact#[gE u Pw,f,bJ D d,bJ X d,bJ V d]) p;have dC:=q 3 zP uv zQ c2  ahx λd u p=>amZ (by exact#[cE u Lr,f,cX Lr 0 rfl,cX Lr 3 rfl,bJ D d,bJ X d,bJ dE d,bJ Xj d,bJ yw d]) p;have eM:=q 4 vQ vR vS gx  adt λd u p=>ahC (by exact#[cE u Fx,f,cX Fx 0 rfl,cX Fx 6 rfl,bJ D d,bJ h8 d,bJ eP d,bJ h7 d,bJ dC d,bJ QN d,bJ Xj d]) p;have QO:dg l.prog w K mg base oG 1 CY _ ["self","kinds","elders","starts"] (rq K k "Tree" 4 wZ w9 xg):=Dr pD.1 rX.1 λez o outer s H E b a y d j=>by
  obtain⟨p0,p1,p2⟩:=a;refine Px ?_ p0 p1 p2 y j;exact#[gE #[#[rX.nd,rfl,.never],d.units] rX,f]
 have M9:dg l.prog w K mg base oG 1 Av _ ["self","boxes","names","tree","ins","outs","ways"] (rq K k "Chart" 7 uA uB uC):=Dr nE.1 pQ.1 λez o outer s H E b a y d j=>by
  obtain⟨p0,p1,p2,z,t,B⟩:=a;refine Lw ?_ p0 p1 p2 z t B y j;exact#[gE #[#[pQ.nd,rfl,.never],d.units] pQ,f]
 have eK:=q 2 By BD BE gw  Pz.1 λd u p=>ahF (by exact#[gE u Pz,f,#[#[_,_,_,#[g4,pD.a,pD.i,g0],QO,d0,QJ],d.mono Wl],#[#[_,_,_,#[hN,nE.a,nE.i,hM],M9,eR,M6],d.mono Wl]]) p;have Xk:=q 0 vU nH vV gv  adv λd u p=>ahH (by exact#[cE u PB,f,cX PB 1 rfl]) p;have QS:=q 1 pR pS lP QD  zR.1 λd u p=>PF (by exact#[gE u zR,f,bJ Xk d]) p;have ZX:∀dd,dg l.prog w K mg base oG (3+dd) Qk Qs ["tree","memory","mood","mode"] (N9 K k 4 nW (nX dd) ly):=by
  intro dd
  induction dd using Nat.strongRecOn with
  | ind dd ih=>
   rw[show 3+dd=(2+dd)+1 by lia];exact j8 O.1 BF.1 λez o outer s H E b a _ d j=>by
    refine ady (dd:=dd) ?_ j;exact#[gE #[#[BF.nd,rfl,.never],d.units] BF,f,bJ QS d We,λd' hd=>#[#[_,_,_,ih d' hd,QK,O.kp,QL],d.mono We]]
 have h6:=ZX 40;have QT:=Ef h6 QK O.kp QL;have JB:=q 0 oU mz mC ZJ  FE.1 λd u p=>Zg (by exact#[gE u FE,f]) p;have Xl:=q 43 BJ BK vW gr  PL.1 λd u p=>ahK (by exact#[gE u PL,f,bJ QT d,bJ JB d]) p;have AA:=q 0 lz iy jV gq  PR.1 λd u p=>ahN (by exact#[gE u PR,f]) p;have xu:dg l.prog w K mg base oG 1 xq _ ["self","chart","most"] (rq K k "Growth" 3 tD tE tF):=Dr L.1 nY.1 λez o outer s H E b a y d j=>by
  obtain⟨p0,p1,p2⟩:=a;refine Hf ?_ p0 p1 p2 y j;exact#[gE #[#[nY.nd,rfl,.never],d.units] nY,f]
 have gU:dg l.prog w K mg base oG 1 jM _ ["self","opens","memory"] (vu K k 3 di eV eY dm):=TB n.1 dW.1 (λa j=>by
  obtain⟨p0,p1,p2,z,t,B⟩:=a;dsimp only [di,dm]
  repeat (first|exact trivial|refine#[rfl,?_])) λez o outer s H E b a d j=>by
  refine x6 ?_ _ j;exact#[gE #[#[dW.nd,rfl,.never],d.units] dW,f]
 have gD:dg l.prog w K mg base QgL 1 jM _ ["self","opens","memory"] (Gk K k 3 dR dS dU):=KC n.1 dW.1 λez o outer s H E b a d j C=>by
  obtain⟨p0,p1,p2,z,t,B⟩:=a;refine wC ?_ p0 p1 p2 z t B j C;exact#[gE #[#[dW.nd,rfl,yZ rfl rfl],d.units] dW,f]
 have xx:=q 0 mJ mK jx HW  FH λd u p=>Hh (by exact#[cE u uG,f,cX uG 0 rfl]) p;have Gw:=q 0 iY iZ i6 Gs  tG.1 λd u p=>FI (by exact#[gE u tG,f]) p;have Ic:=q 0 mL jy mO HX  uH.1 λd u p=>Hi (by exact#[gE u uH,f]) p;have QV:=q 0 qb qc qd QF  zT.1 λd u p=>PV (by exact#[gE u zT,f]) p;have Ie:=q 0 jz jA jB HY  uL.1 λd u p=>Hj (by exact#[gE u uL,f]) p;have QW:=q 0 lR iz lS QG  zU.1 λd u p=>PX (by exact#[gE u zU,f]) p;have JC:=q 1 uP uQ uR ZK  FJ.1 λd u p=>Zj (by exact#[gE u FJ,f,bJ Gw d,bJ Ic d,bJ QV d,bJ Ie d,bJ QW d]) p;have AF:=q 0 lA lB lC gm  PZ.1 λd u p=>ahO (by exact#[gE u PZ,f]) p;have dA:=q 0 FL FN zV c1  W2.1 λd u p=>am5 (by exact#[gE u W2,f]) p;have h5:dg l.prog w K mg base oG 2 Qn _ ["chart","opens","leaf","sign"] (N9 K k 4 x8 x9 r9):=j8 Ax.1 Jq λez o outer s H E b a jO d j=>by
  refine adB ?_ j;exact#[cE #[#[Jq.nd,rfl,.never],d.units] BR,f,cX BR 0 rfl,cX BR 7 rfl,bJ AF d,bJ dA d,NT bl kb jO ZN.1 (Jz.1) (ZO.1),VH d,d]
 have QX:=Ef h5 ia Ax.kp h9;have Vd:dg l.prog w K mg base oG 3 yp _ ["chart","opens","sign","most"] (N9 K k 4 m9 kM ng):=j8 J.1 oV λez o outer s H E b a _ d j=>by
  refine TN ?_ j;exact#[cE #[#[oV.nd,rfl,.never],d.units] gP,f,cX gP 0 rfl,cX gP 1 rfl,cX gP 2 rfl,bJ xx d,bJ JC d,bJ QX d]
 have Gy:=Ef Vd yt J.kp yu;have C1:dg l.prog w K mg base QgL 3 yp _ ["chart","opens","sign","most"] (qr K k 4 kN iU kO):=Si J.1 oV λez o outer s H E b a d j C=>by
  obtain⟨p0,p1,p2,z,t,B,p6,p7,p8,p9,aa⟩:=a;refine P0 ?_ p0 p1 p2 z t B p6 p7 p8 p9 aa j C;exact#[cE #[#[oV.nd,rfl,yZ rfl rfl],d.units] gP,f,cX gP 0 rfl,cX gP 1 rfl,cX gP 2 rfl,bJ xx d,bJ JC d,bJ QX d]
 have AG:=q 1 lE lF lG hH  Jr.1 λd u p=>adD (by exact#[gE u Jr,f,bJ AF d]) p;have dy:=q 2 FY FZ F0 cP  ahR λd u p=>anb (by exact#[cE u L6,f,cX L6 0 rfl,cX L6 2 rfl,bJ AG d]) p;have aT:=q 2 L7 L8 DK ag  SO.1 λd u p=>arc (by exact#[gE u SO,f,bJ AF d,bJ AG d]) p;have Cb:=q 3 mE jW mF ZR  F2.1 λd u p=>Zn (by exact#[gE u F2,f,bJ aT d]) p;have Ve:=q 4 se ni nj U8  CQ.1 λd u p=>TY (by exact#[gE u CQ,f,bJ dy d,bJ Cb d]) p;have Nb:=q 0 oi kP oj M0  xj.1 λd u p=>Ma (by exact#[gE u xj,f]) p;have dw:=q 1 F3 zX uT cx  W5.1 λd u p=>anf (by exact#[gE u W5,f,bJ AF d]) p;have ZY:=q 43 oW oX oY ZS  F4.1 λd u p=>Zq (by exact#[gE u F4,f,bJ dw d,bJ QT d,bJ Xk d]) p;have Ig:=q 44 jC gY jD HZ  uU.1 λd u p=>Hr (by exact#[gE u uU,f,bJ ZY d,bJ Cb d]) p;have QY:=q 2 sA om oq hG  Js.1 λd u p=>adK (by exact#[gE u Js,f,bJ AG d]) p;have Vf:=q 3 sC nu ny U9  CT.1 λd u p=>T7 (by exact#[gE u CT,f,bJ QY d]) p;have Vg:=q 0 sE nA nB Va  CV.1 λd u p=>T8 (by exact#[gE u CV,f]) p;have AH:=q 0 kQ gI kR M3  xo.1 λd u p=>Mb (by exact#[gE u xo,f]) p;have Xm:=q 45 vX qR qS gh  adL λd u p=>ahT (by exact#[cE u F9,f,cX F9 0 rfl,cX F9 5 rfl,bJ Ve d,bJ Nb d,bJ Ig d,bJ Vf d,bJ Vg d,bJ JB d,bJ AH d,bJ QY d]) p;have eJ:=q 1 B4 vY B5 gc  P1.1 λd u p=>ahV (by exact#[gE u P1,f,bJ AF d]) p;have QZ:=q 2 qk lT lU QH  zY.1 λd u p=>P5 (by exact#[gE u zY,f,bJ AG d]) p;have du:dg l.prog w K mg base oG 5 T _ ["chart","found"] (N9 K k 2 zZ uY z7):=j8 M4.1 W6 λez o outer s H E b a jO d j=>by
  refine anl ?_ j;exact#[cE #[#[W6.nd,rfl,.never],d.units] Mp,f,cX Mp 0 rfl,cX Mp 5 rfl,bJ AH d,bJ Cb d,bJ eJ d,bJ QZ d,NT bl kb jO fT.1 (Xh.1) (fR.1),VH d,d]
 have U:=Ef du bx M4.kp bt;have xA:dg l.prog w K mg base oG 47 qq _ ["self","number","sign"] (vu K k 3 gZ jE jF g6):=TB r.1 gJ.1 (λa j=>by
  obtain⟨p0,p1,p2,z,t,B,p6⟩:=a;dsimp only [gZ,g6]
  repeat (first|exact trivial|refine#[rfl,?_])) λez o outer s H E b a d j=>by
  refine Ht ?_ _ j;exact#[gE #[#[gJ.nd,rfl,.never],d.units] gJ,f,bJ Gy d,bJ Xm d,bJ U d,#[#[_,_,_,#[n.a,n.i,n.kp],gD,F],d.mono Wl,bf],#[#[_,_,_,#[n.a,n.i,n.kp],gU,F],d.mono Wl,bf],#[#[_,_,_,C1,yt,J.kp,yu],d.mono Wl]]
 have vp:dg l.prog w K mg base QgL 47 qq _ ["self","number","sign"] (Gk K k 3 iJ iK iL):=KC r.1 gJ.1 λez o outer s H E b a d j C=>by
  obtain⟨p0,p1,p2,z,t,B,p6⟩:=a;refine Ga ?_ p0 p1 p2 z t B p6 j C;exact#[gE #[#[gJ.nd,rfl,yZ rfl rfl],d.units] gJ,f,bJ Gy d,bJ Xm d,bJ U d,#[#[_,_,_,#[n.a,n.i,n.kp],gD,F],d.mono Wl,bf],#[#[_,_,_,#[n.a,n.i,n.kp],gU,F],d.mono Wl,bf],#[#[_,_,_,C1,yt,J.kp,yu],d.mono Wl]]
 have eI:dg l.prog w K mg base oG 48 MN _ ["chart","most"] (N9 K k 2 vZ v5 v7):=j8 I.1 qT.1 λez o outer s H E b a _ d j=>by
  refine ahZ ?_ j;exact#[gE #[#[qT.nd,rfl,.never],d.units] qT,f,bJ Xl d,bJ AA d,#[#[_,_,_,#[Jw,L.a,L.i,Jx],xu,QM,xr],d.mono Wl],#[#[_,_,_,#[n.a,n.i,n.kp],gD,F],d.mono Wl,bf],#[#[_,_,_,#[n.a,n.i,n.kp],gU,F],d.mono Wl,bf],#[#[_,_,_,#[r.a,r.i,r.kp],vp,lY],d.mono Wl,bf],#[#[_,_,_,#[r.a,r.i,r.kp],xA,lY],d.mono Wl,bf]]
 have Xn:=Ef eI M7 I.kp M8;have Q0:dg l.prog w K mg base QgL 48 MN _ ["chart","most"] (qr K k 2 oZ pe pA):=Si I.1 qT.1 λez o outer s H E b a d j C=>by
  obtain⟨p0,p1⟩:=a;refine adS ?_ p0 p1 j C;exact#[gE #[#[qT.nd,rfl,yZ rfl rfl],d.units] qT,f,bJ Xl d,bJ AA d,#[#[_,_,_,#[Jw,L.a,L.i,Jx],xu,QM,xr],d.mono Wl],#[#[_,_,_,#[n.a,n.i,n.kp],gD,F],d.mono Wl,bf],#[#[_,_,_,#[n.a,n.i,n.kp],gU,F],d.mono Wl,bf],#[#[_,_,_,#[r.a,r.i,r.kp],vp,lY],d.mono Wl,bf],#[#[_,_,_,#[r.a,r.i,r.kp],xA,lY],d.mono Wl,bf]]
 have AI:dg l.prog w K mg base oG 1 Aw _ ["self","boxes","signs","begin","flats","rows"] (rq K k "Table" 6 u9 vd ve):=Dr M.1 qo.1 λez o outer s H E b a y d j=>by
  obtain⟨p0,p1,p2,z,t⟩:=a;refine Mt ?_ p0 p1 p2 z t y j;exact#[gE #[#[qo.nd,rfl,.never],d.units] qo,f]
 have C2:dg l.prog w K mg base oG 49 vm _ ["chart","most"] (N9 K k 2 lW lX jq):=j8 A.1 i7.1 λez o outer s H E b a _ d j=>by
  refine P9 ?_ j;exact#[gE #[#[i7.nd,rfl,.never],d.units] i7,f,bJ Xn d,#[#[_,_,_,#[Qz,M.a,M.i,QB],AI,Xi,Az],d.mono Wl],#[#[_,_,_,Q0,M7,I.kp,M8],d.mono Wl]]
 have Q5:=Ef C2 pF A.kp CZ;have AJ:dg l.prog w K mg base QgL 49 vm _ ["chart","most"] (qr K k 2 g7 g8 g9):=Si A.1 i7.1 λez o outer s H E b a d j C=>by
  obtain⟨p0,p1⟩:=a;refine Mu ?_ p0 p1 j C;exact#[gE #[#[i7.nd,rfl,yZ rfl rfl],d.units] i7,f,bJ Xn d,#[#[_,_,_,#[Qz,M.a,M.i,QB],AI,Xi,Az],d.mono Wl],#[#[_,_,_,Q0,M7,I.kp,M8],d.mono Wl]]
 have eH:=q 49 B8 B9 v8 hB  Qa.1 λd u p=>ah3 (by exact#[gE u Qa,f,#[#[_,_,_,C2,pF,A.kp,A.bd],d.mono Wl],#[#[_,_,_,AJ,pF,A.kp,A.bd],d.mono Wl],rfl,rfl,rfl,oA.1]) p;have dt:=q 49 Ge Gf Ab cw  W8.1 λd u p=>anp (by exact#[gE u W8,f,bJ Q5 d,#[#[_,_,_,AJ,pF,A.kp,CZ],d.mono Wl],rfl,rfl,rfl,oA.1]) p;have Xo:=q 0 v9 qU wc hA  Qc.1 λd u p=>ah4 (by exact#[gE u Qc,f]) p;have eF:∀dd,dg l.prog w K mg base oG (1+dd) S g_same ["found","due"] (N9 K k 2 qV (ou dd) oz):=by
  intro dd
  induction dd using Nat.strongRecOn with
  | ind dd ih=>
   rw[show 1+dd=(0+dd)+1 by lia];exact j8 Gu.1 MC.1 λez o outer s H E b a _ d j=>by
    refine anr (dd:=dd) ?_ j;exact#[gE #[#[MC.nd,rfl,.never],d.units] MC,f,λd' hd=>#[#[_,_,_,ih d' hd,Z,Gu.kp,Y],d.mono We]]
 have dr:=eF 8;have Vh:=Ef dr Z Gu.kp Y;have dq:=q 9 Ac Ad Ae cv  ah5 λd u p=>ant (by exact#[cE u W9,f,cX W9 1 rfl,bJ yw d,bJ Vh d,bJ Xo d]) p;have h4:=q 0 sU sV sW hF  Zu λd u p=>adV (by exact#[cE u Jt,f,cX Jt 4 rfl]) p;have dk:=q 1 Ah Ai Aj cp  Xa.1 λd u p=>anw (by exact#[gE u Xa,f,bJ h4 d]) p;have dj:=q 10 Al Am An cn  Xc.1 λd u p=>anC (by exact#[gE u Xc,f,bJ Xo d,bJ Vh d,bJ dq d,bJ AA d,bJ dk d]) p;have df:=q 1 Gi Gj Ao cm  Xd.1 λd u p=>anF (by exact#[gE u Xd,f,bJ AA d]) p;have aI:dg l.prog w K mg base oG 51 _ _ ["script"] (N9 K k 1 Aq As Au):=j8 N.1 Uz.1 λez o outer s H E b a _ d j=>by
  refine ars ?_ j;exact#[gE #[#[Uz.nd,rfl,.never],d.units] Uz,f,bJ eM d,bJ eK d,bJ eH d,bJ dt d,bJ dj d,bJ df d,bJ Vh d,bJ AA d]
 exact aI.imp (agg QcP QcP af)
def walk{l:QnL}{q:Qat}{loose:BA}{n:Qns}{e:QmK}{d:DefRec}{K:Params->Frag}{T0:BY}(hn:l.most=some 63)(b:QmX)
  (j:∀(w:World) (h:Heap),e w h->(K w.params).In h) (k:∀(w:World) (h:Heap),e w h->∀P∈T0,h.get? P=some (tabObj #[]))
  (F:∀(w:World) (mg:Bi) (g:Addr) (h:Heap),(K w.params).In h->h.Ns mainGlobals mg->mg d.name=some (.ref g) →
   ∃(fd:QaU) (ts:Cs),(∀p∈ts,p.1∈T0/\ts.lookup p.1=some p.2/\(K w.params).lookup p.1=none/\∃c,CodeHd h c p.1)/\(∀(s:Qb) (u:Value),BindsTo s fd #[[u],[]] [("script",u)])/\∀base:Heap,(K w.params).In base->base.Ns mainGlobals mg->Eg mg base->dg l.prog w QjG mg base oG 51 g fd ["script"] (spT QjG ts 1 Aq As Au)) :
  PySem.W.WalkO q loose n e l.row.toRowW d [] QlD:=
 abF hn Wl b #[rfl,Wl,Wl] j k F (λ_ _ _ a ns hl m i=>agh rfl hl rfl m i)
end Law
end
namespace PySem.W.Fast
def tw10003799194787344465:=0
def tw10086398384186757240:=0
def tw10121077155417172830:=0
def tw10226990511467576953:=0
def tw10354807188415954567:=0
def tw1040483956308226375:=0
def tw10414057458968623003:=0
def tw10448637671416570039:=0
def tw10586310211465531565:=0
def tw10606065254173875517:=0
def tw10732763723052055811:=0
def tw10745284609040465164:=0
def tw10750367351282752753:=0
def tw10818668477435462443:=0
def tw10932692650652299621:=0
def tw10985194544706900372:=0
def tw11028499487801058287:=0
def tw11032675366887387444:=0
def tw11165029147132729557:=0
def tw11199313053946048361:=0
def tw11343325554587290512:=0
def tw11466778228162741441:=0
def tw1153100344954473835:=0
def tw11536753848852968644:=0
def tw11553239528382374951:=0
def tw11752806498689091952:=0
def tw1175841723465863184:=0
def tw11803139553853498611:=0
def tw11837109488932486016:=0
def tw11906430133882721534:=0
def tw11942861727104518724:=0
def tw11972179599241816326:=0
def tw12077294988801681355:=0
def tw12094204793246808743:=0
def tw12228326582182221961:=0
def tw12243752904721137462:=0
def tw12251011484704142438:=0
def tw12291873285505606785:=0
def tw12305903544047270853:=0
def tw12389154697014271248:=0
def tw12571489026996398825:=0
def tw12636461815794748879:=0
def tw12699157520363435279:=0
def tw12847605680974792601:=0
def tw12870480465701125913:=0
def tw12892395940357871180:=0
def tw13062087106678388340:=0
def tw13081073624376820285:=0
def tw13211039852096095253:=0
def tw13442664385834069862:=0
def tw13507046609747683974:=0
def tw13607292113704777339:=0
def tw13696729991328189133:=0
def tw13856302387875519012:=0
def tw13878964027678951645:=0
def tw14142815199150980657:=0
def tw14198831039902084876:=0
def tw14240060930363011534:=0
def tw14277736486363127309:=0
def tw14319042022582249839:=0
def tw14469358808233538093:=0
def tw14490711807034985565:=0
def tw14524073748742570567:=0
def tw14708174106020889837:=0
def tw14755843667529844257:=0
def tw14798914660021860559:=0
def tw14825398166665311409:=0
def tw14835188162226073464:=0
def tw14836427310910749581:=0
def tw14843739422603633244:=0
def tw14878806896264252831:=0
def tw1489684155184684359:=0
def tw15026210508649197194:=0
def tw1505519649699041757:=0
def tw15084647690229748087:=0
def tw15113656260342970712:=0
def tw15344388586624910871:=0
def tw15420237018935527506:=0
def tw15478404537329595212:=0
def tw15525601731708614609:=0
def tw15649815207065765531:=0
def tw1591429718051871683:=0
def tw15972696989780649449:=0
def tw16005297561324168308:=0
def tw16066528842994077838:=0
def tw16158579711189052645:=0
def tw1618674640188834525:=0
def tw1622082461576989475:=0
def tw162380125020359769:=0
def tw16381767811825723344:=0
def tw163958276686406085:=0
def tw16446079068406310608:=0
def tw16482486898030611289:=0
def tw16573562159743807513:=0
def tw16601877967902605225:=0
def tw16625842600506391866:=0
def tw1681560487135962218:=0
def tw16818943056493123001:=0
def tw16859865242204247032:=0
def tw16889536973726211111:=0
def tw172166846369124565:=0
def tw17295091211633761542:=0
def tw17362700316768864485:=0
def tw17542282869570565365:=0
def tw17566089193389842689:=0
def tw17588764200244216057:=0
def tw17589835682280206434:=0
def tw1785427276888863113:=0
def tw17899998935313401742:=0
def tw17998162630363595198:=0
def tw18044170809944781716:=0
def tw18044572565563714340:=0
def tw18050063788157442578:=0
def tw18302015155097675516:=0
def tw18445061186844395101:=0
def tw1979698178698703819:=0
def tw2043522598048003984:=0
def tw2249602280364059652:=0
def tw2254202674331289296:=0
def tw2416080901568812713:=0
def tw2475156634588895246:=0
def tw2513632164121074415:=0
def tw2609638378162508089:=0
def tw2637890253559039394:=0
def tw2831492849376588292:=0
def tw2871456645124900401:=0
def tw2915084929167766001:=0
def tw296480274555743570:=0
def tw2980549484376343429:=0
def tw301937416175022699:=0
def tw3060298629622626925:=0
def tw3069208440481981346:=0
def tw3073928970187132469:=0
def tw3108810842460325739:=0
def tw3135011572722547370:=0
def tw3233839773955072953:=0
def tw3250339618825442313:=0
def tw3295565171579991030:=0
def tw3326749086950355436:=0
def tw3370219697843201453:=0
def tw3384093705490392213:=0
def tw3417112070215062141:=0
def tw3512059624997160324:=0
def tw3626056811570776711:=0
def tw3732226323493895644:=0
def tw3836228868711210230:=0
def tw3921237689123258234:=0
def tw3966205461822114576:=0
def tw4173199440993435874:=0
def tw4237650546791432916:=0
def tw4271976192240893444:=0
def tw4273674476394597513:=0
def tw4287864224730541900:=0
def tw4303988996159551338:=0
def tw4351162976220472024:=0
def tw4353076094962406901:=0
def tw4517941534829234391:=0
def tw457989975773163496:=0
def tw4580486044056537508:=0
def tw4640942115969144478:=0
def tw4749418773175445294:=0
def tw4844596196536987907:=0
def tw4867282121186753828:=0
def tw4985985444917127998:=0
def tw5038677584347467118:=0
def tw5127606520546218809:=0
def tw5138490674985262063:=0
def tw5335407567830063232:=0
def tw5366545508817937097:=0
def tw5407929559712812005:=0
def tw5442995830175396915:=0
def tw5639786495923634303:=0
def tw5805016908554539754:=0
def tw585044346179571163:=0
def tw6032391416915186622:=0
def tw6040640051813256406:=0
def tw616636373933475180:=0
def tw6249911828142256537:=0
def tw6275654789365870792:=0
def tw6327272316835812548:=0
def tw6339282094677349200:=0
def tw6349380561998507644:=0
def tw6378949215364708019:=0
def tw6554342437290418872:=0
def tw6730809026220803474:=0
def tw6771447344639579065:=0
def tw6819621551168562316:=0
def tw6833931774481782163:=0
def tw6913014316460841872:=0
def tw7042734841006064471:=0
def tw7213438051755570021:=0
def tw7293663555908913346:=0
def tw7388978218480420978:=0
def tw7392427429532613353:=0
def tw7458996337764940509:=0
def tw7506557767831016596:=0
def tw7588685189734896799:=0
def tw7638135775839688150:=0
def tw7761191548324489047:=0
def tw8027386911936878415:=0
def tw8117793802780975770:=0
def tw8163306431018828883:=0
def tw8235520958776988063:=0
def tw8341946728085775804:=0
def tw8446441655988362882:=0
def tw8540477403797853383:=0
def tw8691069903130186978:=0
def tw887649702732666457:=0
def tw8892230309885359586:=0
def tw8934205975418482743:=0
def tw8940245814325952980:=0
def tw8972195078230900716:=0
def tw8993571909961321835:=0
def tw9005468206350974948:=0
def tw9117899215560628413:=0
def tw9313626422458897373:=0
def tw9319771016493581327:=0
def tw9393029961060255067:=0
def tw94780168748325634:=0
def tw9529845960918772412:=0
def tw9544761977329152706:=0
def tw9599516502033460885:=0
def tw9649967977042164169:=0
def tw9656917150365595811:=0
def tw96794829973286058:=0
def tw9879910732131871772:=0
def tw9910234576089722887:=0
def tw9926258225255222050:=0
end PySem.W.Fast
open PySem PySem.W PyProof.Rows
set_option maxRecDepth 100000 in
set_option maxHeartbeats 0 in
theorem PySem.Challenge.cw_moodtree_k52_whole_table_walked_holds : PySem.Challenge.rw_moodtree_k52_whole_table_walked.Holds := by
 w_on; o_law; k_head; (case hw => w_witness2)
 k_fill
 refine Law.walk (l := PySem.Challenge.rw_moodtree_k52_whole_table_walked) rfl rfl (λw h Y => PySem.W.km_in_of Y) (λw h Y => PySem.W.km_tabs_of Y) ?F
 case F =>
   intro w mg fa h KX G hmg
   apply Law.all_mk KX G hmg
   all_goals first | exact L3.Wq.mk (n := 1) rfl | (refine L3.Wq.mk (n := 2) ?_; kernel_rfl) | (refine L3.Wq.mk (n := 3) ?_; decide) | (refine L3.Wq.mk (n := 5) ?_; kts_exm) | (apply L3.fn1 <;> k_is) | (apply L3.fn2 <;> k_is) | (apply L3.fnE <;> first | k_is | rfl | ((repeat (intro _)); exact #[_, rfl, rfl])) | (apply L2.yG.mk <;> k_is) | ((try delta L3.InG); (try delta L2.bF); (try delta L3.Q9); (try delta L3.Bb); k_is)
